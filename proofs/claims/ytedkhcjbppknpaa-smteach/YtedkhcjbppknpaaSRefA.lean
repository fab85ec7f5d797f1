/-
  The reference's digest, bits, own roots and empty roots.
-/
import Derived.Test.YtedkhcjbppknpaaSPlant
import Derived.Test.YtedkhcjbppknpaaSBit
import Derived.Test.YtedkhcjbppknpaaSPair
namespace Go.Proofs.Ytedkhcjbppknpaa
open Go.RowKit

set_option maxRecDepth 100000 in
set_option maxHeartbeats 400000 in
theorem rh5_any (b : ByteArray) (hn : b.size ≤ 1099511627776) (w : World) :
    Calls Try.prog 28 #[.string b] w fun e w' => e = .returned (.string (hB b)) ∧ Below w.heap.size w w' := by
  have HS := Lib.hid (fun W => refsum_any b hn W)
  change Hid (∀ W, Calls Try.prog 48 _ W fun e w' => e = .returned (.string (hB b)) ∧ Below W.heap.size W w') at HS
  generalize hB b = R at *
  go_enter Try.func28, Try.ntmps28
  go_wp2_with fail
  refine (HS.out _).mono ?_
  rintro e w' ⟨rfl, hB⟩
  go_wp2
  go_ret
  exact ⟨rfl, hB⟩
/-- the bit i, as a number -/
def bitN (s : ByteArray) (i : Nat) : Nat := (nums s).getD (i / 8) 0 / 2 ^ (7 - i % 8) % 2
theorem bitN_eq (s : ByteArray) (i : Nat) : bitN s i = if bitS s i then 1 else 0 := by
  unfold bitS bitN
  have : (nums s).getD (i / 8) 0 / 2 ^ (7 - i % 8) % 2 < 2 := Nat.mod_lt _ (by decide)
  generalize (nums s).getD (i / 8) 0 / 2 ^ (7 - i % 8) % 2 = y at *
  rcases (show y = 0 ∨ y = 1 by omega) with rfl | rfl <;> rfl
set_option maxRecDepth 100000 in
set_option maxHeartbeats 400000 in
theorem rbit_any (s : ByteArray) (i : Nat) (hi : i < 256) (hs : 32 ≤ s.size) (w : World) : Calls Try.prog 38 #[.string s, .int .i64 i] w fun e w' => e = .returned (.int .i64 (bitN s i : Nat)) ∧ w' = w := by
  obtain ⟨j, hj⟩ : ∃ j, i / 8 = j := ⟨_, rfl⟩
  obtain ⟨m, hm⟩ : ∃ m, i % 8 = m := ⟨_, rfl⟩
  have he : ((i : Int) / 8) = (j : Int) := by omega
  have he2 : ((i : Int) % 8) = (m : Int) := by omega
  have hx := str_idx s j (by omega) w
  have HR : Hid (bitN s i = (nums s).getD j 0 / 2 ^ (7 - m) % 2) := Lib.hid (by unfold bitN; rw [hj, hm])
  rw [HR.out]
  have hX : (nums s).getD j 0 < 256 := by
    by_cases ht : j < (nums s).length
    · rw [List.getD_eq_getElem?_getD, List.getElem?_eq_getElem ht]; exact nums_lt s _ (List.getElem_mem ht)
    · rw [List.getD_eq_getElem?_getD, List.getElem?_eq_none (by omega)]; decide
  generalize (nums s).getD j 0 = X at *
  have hm8 : m < 8 := by omega
  obtain ⟨Z, hZ⟩ : ∃ Z, X / 2 ^ (7 - m) % 2 = Z := ⟨_, rfl⟩
  rw [hZ]
  have HZ := Lib.hid hZ
  clear hj hm HR hZ
  go_enter Try.func38, Try.ntmps38
  go_wp2
  go_loop [5, 6] (fun c k => ∃ t : Nat, m + t ≤ 7 ∧ c = .int .i64 (X / 2 ^ t : Nat) ∧ k = .int .i64 (m + t : Nat)) (fun _ k => 8 - (intOf k).toNat)
  case atStart => exact ⟨0, by omega, by simp, by simp; exact he2⟩
  case round =>
    obtain ⟨t, ht, rfl, rfl⟩ := hrel
    have hle : X / 2 ^ t ≤ X := Nat.div_le_self _ _
    by_cases hlt : m + t < 7
    · have HE := Lib.hid (show X / 2 ^ (t + 1) = X / 2 ^ t / 2 by rw [Nat.pow_succ, Nat.div_div_eq_div_mul])
      generalize X / 2 ^ t = Y at *
      have hlt' : ((m + t : Nat) : Int) < 7 := by omega
      generalize hmt : m + t = q at *
      go_wp2
      go_round
      case rel => exact ⟨t + 1, by omega, by rw [HE.out]; go_num, by rw [show m + (t + 1) = q + 1 by omega]; go_num⟩
      case measure => simp [intOf]; omega
    · obtain rfl : t = 7 - m := by omega
      have hlt' : ¬ ((m + (7 - m) : Nat) : Int) < 7 := by omega
      have hz := HZ.out
      generalize X / 2 ^ (7 - m) = Y at *
      generalize hmt : m + (7 - m) = q at *
      have HZZ := Lib.hid (show (Y : Int) % 2 = (Z : Int) by omega)
      clear hz
      go_wp2
      go_ret
      refine ⟨?_, rfl⟩
      rw [← HZZ.out]
      rfl
set_option maxRecDepth 100000 in
set_option maxHeartbeats 1000000 in
theorem rown_any (k v : ByteArray) (hk : k.size ≤ 1073741824) (hv : v.size ≤ 1073741824) (w : World) :
    Calls Try.prog 35 #[.agg #[.string k, .string v]] w fun e w' => e = .returned (.string (ownS k v)) ∧ Below w.heap.size w w' := by
  have z0 : (⟨#[86]⟩ : ByteArray).size = 1 := rfl
  have zl : (lenB k).size = 1 := by unfold lenB; rw [strN_size]; rfl
  obtain ⟨w0, hw0⟩ : ∃ w0, w.alloc (.cells #[.string k, .string v] 33) = w0 := ⟨_, rfl⟩
  have b0 : Blk w0 w.heap.size 33 #[.string k, .string v] := by rw [← hw0]; exact Blk.new _ _ _
  have hB00 : Below w.heap.size w w0 := by rw [← hw0]; exact (Below.refl _ w).alloc (Nat.le_refl _) _
  have hc := conv_one w0 (k.size % 256) (Nat.mod_lt _ (by decide))
  have hB0 := hB00.alloc hB00.size (.cells #[.int .u8 ((k.size % 256 : Nat) : Int)] 5)
  have b1 := b0.alloc (.cells #[.int .u8 ((k.size % 256 : Nat) : Int)] 5)
  have q0 : w0.cell? ⟨w.heap.size, 0, none⟩ = some (.string k) := b0.cell 0
  have q1 : (w0.alloc (.cells #[.int .u8 ((k.size % 256 : Nat) : Int)] 5)).cell? ⟨w.heap.size, 0, none⟩ = some (.string k) := b1.cell 0
  have q2 : (w0.alloc (.cells #[.int .u8 ((k.size % 256 : Nat) : Int)] 5)).cell? ⟨w.heap.size, 1, none⟩ = some (.string v) := b1.cell 1
  change (convert 53 9 (.slice (some ⟨w0.heap.size, 0, none⟩) 1 1)).run Try.prog _ = .ok (.string (lenB k)) _ at hc
  have a1 : ¬ (⟨#[86]⟩ : ByteArray).size + (lenB k).size > 9223372036854775807 := by omega
  have a2 : ¬ ((⟨#[86]⟩ : ByteArray) ++ lenB k).size + k.size > 9223372036854775807 := by simp only [ByteArray.size_append]; omega
  have a3 : ¬ ((⟨#[86]⟩ : ByteArray) ++ lenB k ++ k).size + v.size > 9223372036854775807 := by simp only [ByteArray.size_append]; omega
  have HS := Lib.hid (fun W => rh5_any (⟨#[86]⟩ ++ lenB k ++ k ++ v) (by simp only [ByteArray.size_append]; omega) W)
  change Hid (∀ W, Calls Try.prog 28 _ W fun e w' => e = .returned (.string (ownS k v)) ∧ Below W.heap.size W w') at HS
  generalize ownS k v = R at *
  generalize lenB k = L at *
  have hm : IntKind.u8.wrap (k.size : Int) = ((k.size % 256 : Nat) : Int) := by rw [IntKind.wrap_u8']; omega
  generalize k.size % 256 = M at *
  have HW := Lib.hid hw0
  clear z0 zl b0 b1 hB00 hw0
  go_enter Try.func35, Try.ntmps35
  go_wp2_with (rw [HW.out])
  refine (HS.out _).mono ?_
  rintro e w' ⟨rfl, hB⟩
  have hB2 := hB0.trans (hB.mono hB0.size)
  go_wp2
  go_ret
  exact ⟨rfl, hB2⟩

/-- 257 texts -/
def emC (f : Nat → ByteArray) : Array Value := ((List.range 257).map fun d => Value.string (f d)).toArray
theorem emC_size (f : Nat → ByteArray) : (emC f).size = 257 := by simp [emC]
theorem emC_at (f : Nat → ByteArray) {d : Nat} (h : d < 257) : (emC f)[d]? = some (.string (f d)) := by simp [emC, h]
theorem emC_set (f f' : Nat → ByteArray) {d : Nat} (x : ByteArray) (hx : f' d = x) (ho : ∀ i, i < 257 → i ≠ d → f' i = f i) : (emC f).setIfInBounds d (.string x) = emC f' := by
  apply Array.ext
  · simp [emC]
  · intro i h1 h2
    have hi : i < 257 := by simpa [emC] using h2
    rw [Array.getElem_setIfInBounds (by simpa using h1)]
    by_cases h : d = i
    · subst h; simp [emC, hx]
    · rw [if_neg h]
      simp [emC, ho i hi (fun e => h e.symm)]
theorem emC_one (f : Nat → ByteArray) : (emC f).all (·.oneCell') = true := by
  rw [Array.all_eq_true_iff_forall_mem]
  intro v hv
  simp [emC] at hv
  obtain ⟨d, _, rfl⟩ := hv
  rfl
theorem infoEm : (Try.prog.info? 43).map (·.size) = some 257 := by kernel_rfl
theorem em_load {w : World} {g : Nat} {f : Nat → ByteArray} (h : Blk w g 43 (emC f)) : (loadVar 43 ⟨g, 0, none⟩).run Try.prog w = .ok (.agg (emC f)) w :=
  run_loadVar_row w g 43 43 (emC f) (0, 0) _ h Try.underlying43 rfl (by rw [emC_size]; exact infoEm)
section
attribute [-go_sem] loadVar
set_option maxRecDepth 100000 in
set_option maxHeartbeats 1000000 in
theorem rempty_any (w : World) : Calls Try.prog 16 #[] w fun e w' => e = .returned (.agg (emC emp)) ∧ Below w.heap.size w w' := by
  have HS0 := Lib.hid (fun W => rh5_any ⟨#[69]⟩ (by decide) W)
  rw [← emp_last] at HS0
  have HJ := Lib.hid (show ∀ k (_ : k < 256) W, Calls Try.prog 28 #[.string (⟨#[78]⟩ ++ emp (k + 1) ++ emp (k + 1))] W fun e w' => e = .returned (.string (emp k)) ∧ Below W.heap.size W w' from fun k hk W => by
    have := rh5_any (⟨#[78]⟩ ++ emp (k + 1) ++ emp (k + 1)) (by simp only [ByteArray.size_append, emp_size]; decide) W
    rw [emp_step k hk]
    exact this)
  have hz : Try.zeroCells43 = emC fun _ => ⟨#[]⟩ := by kernel_rfl
  obtain ⟨B, hBB⟩ : ∃ B, w.heap.size = B := ⟨_, rfl⟩
  have HZ := Lib.hid hz
  clear hz
  go_enter Try.func16, Try.ntmps16
  go_wp2_with fail
  rw [HZ.out]
  obtain ⟨w1, hw1⟩ : ∃ w1, (w.alloc (.cells (emC fun _ => ⟨#[]⟩) 43)).alloc (.cells (emC fun _ => ⟨#[]⟩) 43) = w1 := ⟨_, rfl⟩
  have hk0 : Blk w1 B 43 (emC fun _ => ⟨#[]⟩) := by rw [← hw1, ← hBB]; exact (Blk.new _ _ _).alloc _
  have hk1 : Blk w1 (B + 1) 43 (emC fun _ => ⟨#[]⟩) := by rw [← hw1]; exact Blk.new_at (by simp [hBB])
  have hB1 : Below B w w1 := by rw [← hw1, ← hBB]; exact ((Below.refl _ w).alloc (Nat.le_refl _) _).alloc (by simp) _
  rw [hw1]
  clear hw1
  obtain ⟨E, hE⟩ : ∃ E, emp 256 = E := ⟨_, rfl⟩
  rw [hE] at HS0
  refine (HS0.out _).mono ?_
  rintro e w2 ⟨rfl, hb2⟩
  have hm0 := hk0.below hb2 hk0.lt
  have hm1 := hk1.below hb2 hk1.lt
  have hc2 := (hm1.cell 256).trans (emC_at _ (by decide))
  have hf2 := hm1.frozen 256
  have hB2 := hB1.trans (hb2.mono (Nat.le_of_lt hk0.lt))
  have HM0 := Lib.hid hm0
  have HM1 := Lib.hid hm1
  have HE := Lib.hid hE
  have HB2 := Lib.hid hB2
  have HBB := Lib.hid hBB
  clear hk0 hk1 hB1 hb2 hm0 hm1 hB2 hE
  go_wp2
  have hk3 := HM1.out.set_ 256 (.string E)
  rw [emC_set (fun _ => ⟨#[]⟩) (empU 256) (d := 256) E (by unfold empU; rw [if_pos (by decide)]; exact HE.out) (fun i hi hne => by unfold empU; rw [if_neg (by omega)])] at hk3
  have hn3 := HM0.out.far (p := ⟨B + 1, 256, none⟩) (by show B ≠ B + 1; omega) (.string E)
  have hB3 := HB2.out.setCell (p := ⟨B + 1, 256, none⟩) (by show B ≤ B + 1; omega) (.string E)
  generalize w2.setCell ⟨B + 1, 256, none⟩ (.string E) = w3 at *
  clear hc2 hf2 HM0 HM1 HB2 HS0 HE HZ
  go_loopw [2] (fun v wr => ∃ k : Nat, k ≤ 256 ∧ v = .int .i64 ((k : Int) - 1) ∧ Blk wr B 43 (emC fun _ => ⟨#[]⟩) ∧ Blk wr (B + 1) 43 (emC (empU k)) ∧ Below B w wr) (fun v _ => ((intOf v) + 1).toNat)
  case atStart => exact ⟨256, Nat.le_refl _, rfl, hn3, hk3, hB3⟩
  case round =>
    clear hk3 hB3 hn3
    obtain ⟨k, hk, rfl, hnr, hkr, hBr⟩ := hrel
    rcases k with _ | j
    · rw [show (((0 : Nat) : Int) - 1) = -1 from rfl]
      rw [show empU 0 = emp from by funext d; unfold empU; rw [if_pos (Nat.zero_le _)]] at hkr
      have HS1 := Lib.hid (emC_size emp)
      have HO1 := Lib.hid (emC_one emp)
      have HZ1 := Lib.hid (show (emC fun _ => (⟨#[]⟩ : ByteArray)).size = (emC emp).size by rw [emC_size, emC_size])
      have HI := Lib.hid (show (Try.prog.info? 43).map (·.size) = some (emC emp).size by rw [emC_size]; exact infoEm)
      obtain ⟨EE, hEE⟩ : ∃ EE, emC emp = EE := ⟨_, rfl⟩
      rw [hEE] at HS1 HO1 HZ1 HI hkr
      have HEE := Lib.hid hEE
      clear hEE
      go_wp2_with (first
        | (refine wpList_load_row rfl 43 _ rfl (B + 1) rfl 43 EE (0, 0) _ hkr Try.underlying43 rfl HI.out ?_)
        | (refine wpList_store_row rfl 43 _ _ rfl B EE rfl rfl 43 (emC fun _ => ⟨#[]⟩) hnr HI.out HZ1.out HO1.out ?_))
      have hn4 := blk_setRow hnr EE
      have hB4 := below_setRow hBr (Nat.le_refl B) EE
      exact bodyPost_ret (results_cell_row rfl _ _ B 43 EE (0, 0) _ rfl hn4 Try.underlying43 rfl HI.out) rfl ⟨by rw [HEE.out], by rw [HBB.out]; exact hB4⟩
    · rw [show (((j + 1 : Nat) : Int) - 1) = (j : Int) by omega]
      have hcb := (hkr.cell (j + 1)).trans (emC_at _ (by omega))
      have HJ1 := Lib.hid (HJ.out j (by omega))
      have HE := Lib.hid (show empU (j + 1) (j + 1) = emp (j + 1) by unfold empU; rw [if_pos (Nat.le_refl _)])
      rw [HE.out] at hcb
      have hXs := emp_size (j + 1)
      generalize emp (j + 1) = X at *
      have hl : (loadVar 9 ⟨B + 1, j + 1, none⟩).run Try.prog wr.drew = .ok (.string X) wr.drew := txt_load hcb
      have z0 : (⟨#[78]⟩ : ByteArray).size = 1 := rfl
      have ad1 := addRun (a := ⟨#[78]⟩) (b := X) (by omega)
      have ad2 := addRun (a := ⟨#[78]⟩ ++ X) (b := X) (by simp only [ByteArray.size_append]; omega)
      have HK := Lib.hid hkr
      have HN := Lib.hid hnr
      have HB := Lib.hid hBr
      have hj7 : (j : Int) < 257 := by omega
      have hj8 : (j : Int) + 1 < 257 := by omega
      have hj6 : (0 : Int) ≤ (j : Int) + 1 := by omega
      have hj9 : IntKind.i64.wrap ((j : Int) + 1) = (j : Int) + 1 := by have := i64_small (n := j + 1) (by omega); simpa using this
      obtain ⟨Y, hY⟩ : ∃ Y, emp j = Y := ⟨_, rfl⟩
      rw [hY] at HJ1
      have HY := Lib.hid hY
      clear hkr hnr hBr HE hcb hY hXs HJ z0
      go_wp2
      go_region_law (first
        | (go_simp; go_at_call 28; refine (HJ1.out _).mono ?_; rintro e w2 ⟨rfl, hb2⟩; have hb2' : Below wr.heap.size wr w2 := (Below.refl _ _).drew.trans hb2; have hk2 := HK.out.below hb2' HK.out.lt; have hc2 := (hk2.cell j).trans (emC_at _ (by omega)); have hf2 := hk2.frozen j))
      all_goals
        have hk3 := hk2.set_ j (.string Y)
        rw [emC_set (empU (j + 1)) (empU j) (d := j) Y (by unfold empU; rw [if_pos (Nat.le_refl _)]; exact HY.out) (fun i hi hne => by unfold empU; by_cases h : j ≤ i <;> simp [h] <;> omega)] at hk3
        have hn3 := (HN.out.below hb2' HN.out.lt).far (p := ⟨B + 1, j, none⟩) (by show B ≠ B + 1; omega) (.string Y)
        have hB3 := (HB.out.trans (hb2'.mono (Nat.le_of_lt HN.out.lt))).setCell (p := ⟨B + 1, j, none⟩) (by show B ≤ B + 1; omega) (.string Y)
        generalize w2.setCell ⟨B + 1, j, none⟩ (.string Y) = w4 at *
        clear hk2 hc2 hf2 hb2 hb2' HB HK HN HY HJ1 hl ad1 ad2 hj9
        go_wp2
        go_roundw
        case rel => exact ⟨j, by omega, by go_num, hn3, hk3, hB3⟩
        case measure => simp [intOf]
end
end Go.Proofs.Ytedkhcjbppknpaa

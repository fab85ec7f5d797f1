/-
  The reference of layer 5: Own, Empty.
-/
import Derived.Test.YtjmjkcgldencoaaGreatSRefAH
import Derived.Test.YtjmjkcgldencoaaGreatSBitMSPairSRefAM
import Derived.Test.YtjmjkcgldencoaaGreatSConvSPlant
import Derived.Test.YtjmjkcgldencoaaGreatSBit
namespace Go.Proofs.YtjmjkcgldencoaaGreat
open Go.RowKit

set_option maxRecDepth 100000 in
set_option maxHeartbeats 1000000 in
theorem rown_any (k v : ByteArray) (hk : k.size ≤ 1073741824) (hv : v.size ≤ 1073741824) (w : World) :
    Calls Tryz.prog 62 #[.agg #[.string k, .string v]] w fun e w' => e = .returned (.string (ownS k v)) ∧ Below w.heap.size w w' := by
  have z0 : (⟨#[86]⟩ : ByteArray).size = 1 := rfl
  have zl : (lenB k).size = 1 := by unfold lenB; rw [strN_size]; rfl
  obtain ⟨w0, hw0⟩ : ∃ w0, w.alloc (.cells #[.string k, .string v] 65) = w0 := ⟨_, rfl⟩
  have b0 : Blk w0 w.heap.size 65 #[.string k, .string v] := by rw [← hw0]; exact Blk.new _ _ _
  have hB00 : Below w.heap.size w w0 := by rw [← hw0]; exact (Below.refl _ w).alloc (Nat.le_refl _) _
  have hc := conv_one w0 (k.size % 256) (Nat.mod_lt _ (by decide))
  have hB0 := hB00.alloc hB00.size (.cells #[.int .u8 ((k.size % 256 : Nat) : Int)] 5)
  have b1 := b0.alloc (.cells #[.int .u8 ((k.size % 256 : Nat) : Int)] 5)
  have q0 : w0.cell? ⟨w.heap.size, 0, none⟩ = some (.string k) := b0.cell 0
  have q1 : (w0.alloc (.cells #[.int .u8 ((k.size % 256 : Nat) : Int)] 5)).cell? ⟨w.heap.size, 0, none⟩ = some (.string k) := b1.cell 0
  have q2 : (w0.alloc (.cells #[.int .u8 ((k.size % 256 : Nat) : Int)] 5)).cell? ⟨w.heap.size, 1, none⟩ = some (.string v) := b1.cell 1
  change (convert 123 9 (.slice (some ⟨w0.heap.size, 0, none⟩) 1 1)).run Tryz.prog _ = .ok (.string (lenB k)) _ at hc
  have a1 : ¬ (⟨#[86]⟩ : ByteArray).size + (lenB k).size > 9223372036854775807 := by omega
  have a2 : ¬ ((⟨#[86]⟩ : ByteArray) ++ lenB k).size + k.size > 9223372036854775807 := by simp only [ByteArray.size_append]; omega
  have a3 : ¬ ((⟨#[86]⟩ : ByteArray) ++ lenB k ++ k).size + v.size > 9223372036854775807 := by simp only [ByteArray.size_append]; omega
  have HS := Lib.hid (fun W => rh5_any (⟨#[86]⟩ ++ lenB k ++ k ++ v) (by simp only [ByteArray.size_append]; omega) W)
  change Hid (∀ W, Calls Tryz.prog 37 _ W fun e w' => e = .returned (.string (ownS k v)) ∧ Below W.heap.size W w') at HS
  generalize ownS k v = R at *
  generalize lenB k = L at *
  have hm : IntKind.u8.wrap (k.size : Int) = ((k.size % 256 : Nat) : Int) := by rw [IntKind.wrap_u8']; omega
  generalize k.size % 256 = M at *
  have HW := Lib.hid hw0
  clear z0 zl b0 b1 hB00 hw0
  go_enter Tryz.func62, Tryz.ntmps62
  go_wp2_with (rw [HW.out])
  refine (HS.out _).mono ?_
  rintro e w' ⟨rfl, hB⟩
  have hB2 := hB0.trans (hB.mono hB0.size)
  go_wp2
  go_ret
  exact ⟨rfl, hB2⟩

section
attribute [-go_sem] loadVar
set_option maxRecDepth 100000 in
set_option maxHeartbeats 1000000 in
theorem rempty_any (w : World) : Calls Tryz.prog 21 #[] w fun e w' => e = .returned (.agg (emC emp)) ∧ Below w.heap.size w w' := by
  have HS0 := Lib.hid (fun W => rh5_any ⟨#[69]⟩ (by decide) W)
  rw [← emp_last] at HS0
  have HJ := Lib.hid (show ∀ k (_ : k < 256) W, Calls Tryz.prog 37 #[.string (⟨#[78]⟩ ++ emp (k + 1) ++ emp (k + 1))] W fun e w' => e = .returned (.string (emp k)) ∧ Below W.heap.size W w' from fun k hk W => by
    have := rh5_any (⟨#[78]⟩ ++ emp (k + 1) ++ emp (k + 1)) (by simp only [ByteArray.size_append, emp_size]; decide) W
    rw [emp_step k hk]
    exact this)
  have hz : Tryz.zeroCells74 = emC fun _ => ⟨#[]⟩ := by kernel_rfl
  obtain ⟨B, hBB⟩ : ∃ B, w.heap.size = B := ⟨_, rfl⟩
  have HZ := Lib.hid hz
  clear hz
  go_enter Tryz.func21, Tryz.ntmps21
  go_wp2_with fail
  rw [HZ.out]
  obtain ⟨w1, hw1⟩ : ∃ w1, (w.alloc (.cells (emC fun _ => ⟨#[]⟩) 74)).alloc (.cells (emC fun _ => ⟨#[]⟩) 74) = w1 := ⟨_, rfl⟩
  have hk0 : Blk w1 B 74 (emC fun _ => ⟨#[]⟩) := by rw [← hw1, ← hBB]; exact (Blk.new _ _ _).alloc _
  have hk1 : Blk w1 (B + 1) 74 (emC fun _ => ⟨#[]⟩) := by rw [← hw1]; exact Blk.new_at (by simp [hBB])
  have hB1 : Below B w w1 := by rw [← hw1, ← hBB]; exact ((Below.refl _ w).alloc (Nat.le_refl _) _).alloc (by simp) _
  rw [hw1]
  clear hw1
  obtain ⟨E, hE⟩ : ∃ E, emp 256 = E := ⟨_, rfl⟩
  rw [hE] at HS0
  refine (HS0.out _).mono ?_
  rintro e w2 ⟨rfl, hb2⟩
  have hm0 := hk0.below hb2 hk0.lt
  have hm1 := hk1.below hb2 hk1.lt
  have hc2 := (hm1.cell 256).trans (emC_at _ (by decide))
  have hf2 := hm1.frozen 256
  have hB2 := hB1.trans (hb2.mono (Nat.le_of_lt hk0.lt))
  have HM0 := Lib.hid hm0
  have HM1 := Lib.hid hm1
  have HE := Lib.hid hE
  have HB2 := Lib.hid hB2
  have HBB := Lib.hid hBB
  clear hk0 hk1 hB1 hb2 hm0 hm1 hB2 hE
  go_wp2
  have hk3 := HM1.out.set_ 256 (.string E)
  rw [emC_set (fun _ => ⟨#[]⟩) (empU 256) (d := 256) E (by unfold empU; rw [if_pos (by decide)]; exact HE.out) (fun i hi hne => by unfold empU; rw [if_neg (by omega)])] at hk3
  have hn3 := HM0.out.far (p := ⟨B + 1, 256, none⟩) (by show B ≠ B + 1; omega) (.string E)
  have hB3 := HB2.out.setCell (p := ⟨B + 1, 256, none⟩) (by show B ≤ B + 1; omega) (.string E)
  generalize w2.setCell ⟨B + 1, 256, none⟩ (.string E) = w3 at *
  clear hc2 hf2 HM0 HM1 HB2 HS0 HE HZ
  go_loopw [2] (fun v wr => ∃ k : Nat, k ≤ 256 ∧ v = .int .i64 ((k : Int) - 1) ∧ Blk wr B 74 (emC fun _ => ⟨#[]⟩) ∧ Blk wr (B + 1) 74 (emC (empU k)) ∧ Below B w wr) (fun v _ => ((intOf v) + 1).toNat)
  case atStart => exact ⟨256, Nat.le_refl _, rfl, hn3, hk3, hB3⟩
  case round =>
    clear hk3 hB3 hn3
    obtain ⟨k, hk, rfl, hnr, hkr, hBr⟩ := hrel
    rcases k with _ | j
    · rw [show (((0 : Nat) : Int) - 1) = -1 from rfl]
      rw [show empU 0 = emp from by funext d; unfold empU; rw [if_pos (Nat.zero_le _)]] at hkr
      have HS1 := Lib.hid (emC_size emp)
      have HO1 := Lib.hid (emC_one emp)
      have HZ1 := Lib.hid (show (emC fun _ => (⟨#[]⟩ : ByteArray)).size = (emC emp).size by rw [emC_size, emC_size])
      have HI := Lib.hid (show (Tryz.prog.info? 74).map (·.size) = some (emC emp).size by rw [emC_size]; exact infoEm)
      obtain ⟨EE, hEE⟩ : ∃ EE, emC emp = EE := ⟨_, rfl⟩
      rw [hEE] at HS1 HO1 HZ1 HI hkr
      have HEE := Lib.hid hEE
      clear hEE
      go_wp2_with (first
        | (refine wpList_load_row rfl 74 _ rfl (B + 1) rfl 74 EE (0, 0) _ hkr Tryz.underlying74 rfl HI.out ?_)
        | (refine wpList_store_row rfl 74 _ _ rfl B EE rfl rfl 74 (emC fun _ => ⟨#[]⟩) hnr HI.out HZ1.out HO1.out ?_))
      have hn4 := blk_setRow hnr EE
      have hB4 := below_setRow hBr (Nat.le_refl B) EE
      exact bodyPost_ret (results_cell_row rfl _ _ B 74 EE (0, 0) _ rfl hn4 Tryz.underlying74 rfl HI.out) rfl ⟨by rw [HEE.out], by rw [HBB.out]; exact hB4⟩
    · rw [show (((j + 1 : Nat) : Int) - 1) = (j : Int) by omega]
      have hcb := (hkr.cell (j + 1)).trans (emC_at _ (by omega))
      have HJ1 := Lib.hid (HJ.out j (by omega))
      have HE := Lib.hid (show empU (j + 1) (j + 1) = emp (j + 1) by unfold empU; rw [if_pos (Nat.le_refl _)])
      rw [HE.out] at hcb
      have hXs := emp_size (j + 1)
      generalize emp (j + 1) = X at *
      have hl : (loadVar 9 ⟨B + 1, j + 1, none⟩).run Tryz.prog wr.drew = .ok (.string X) wr.drew := txt_load hcb
      have z0 : (⟨#[78]⟩ : ByteArray).size = 1 := rfl
      have ad1 := addRun (a := ⟨#[78]⟩) (b := X) (by omega)
      have ad2 := addRun (a := ⟨#[78]⟩ ++ X) (b := X) (by simp only [ByteArray.size_append]; omega)
      have HK := Lib.hid hkr
      have HN := Lib.hid hnr
      have HB := Lib.hid hBr
      have hj7 : (j : Int) < 257 := by omega
      have hj8 : (j : Int) + 1 < 257 := by omega
      have hj6 : (0 : Int) ≤ (j : Int) + 1 := by omega
      have hj9 : IntKind.i64.wrap ((j : Int) + 1) = (j : Int) + 1 := by have := i64_small (n := j + 1) (by omega); simpa using this
      obtain ⟨Y, hY⟩ : ∃ Y, emp j = Y := ⟨_, rfl⟩
      rw [hY] at HJ1
      have HY := Lib.hid hY
      clear hkr hnr hBr HE hcb hY hXs HJ z0
      go_wp2
      go_region_law (first
        | (go_simp; go_at_call 37; refine (HJ1.out _).mono ?_; rintro e w2 ⟨rfl, hb2⟩; have hb2' : Below wr.heap.size wr w2 := (Below.refl _ _).drew.trans hb2; have hk2 := HK.out.below hb2' HK.out.lt; have hc2 := (hk2.cell j).trans (emC_at _ (by omega)); have hf2 := hk2.frozen j))
      all_goals
        have hk3 := hk2.set_ j (.string Y)
        rw [emC_set (empU (j + 1)) (empU j) (d := j) Y (by unfold empU; rw [if_pos (Nat.le_refl _)]; exact HY.out) (fun i hi hne => by unfold empU; by_cases h : j ≤ i <;> simp [h] <;> omega)] at hk3
        have hn3 := (HN.out.below hb2' HN.out.lt).far (p := ⟨B + 1, j, none⟩) (by show B ≠ B + 1; omega) (.string Y)
        have hB3 := (HB.out.trans (hb2'.mono (Nat.le_of_lt HN.out.lt))).setCell (p := ⟨B + 1, j, none⟩) (by show B ≤ B + 1; omega) (.string Y)
        generalize w2.setCell ⟨B + 1, j, none⟩ (.string Y) = w4 at *
        clear hk2 hc2 hf2 hb2 hb2' HB HK HN HY HJ1 hl ad1 ad2 hj9
        go_wp2
        go_roundw
        case rel => exact ⟨j, by omega, by go_num, hn3, hk3, hB3⟩
        case measure => simp [intOf]
end
end Go.Proofs.YtjmjkcgldencoaaGreat

/-
  Verify: the program's, whole.
-/
import Derived.Test.YtbkmclgddknijaaOVer
namespace Go.Proofs.Ytbkmclgddknijaa
open Go.RowKit

theorem climbB_congr (q : Nat) {o o' : Nat → ByteArray} (x : ByteArray) : ∀ n, (∀ i, i < n → o i = o' i) → climbB q o x n = climbB q o' x n
  | 0, _ => rfl
  | n + 1, h => by
    unfold climbB
    rw [climbB_congr q x n (fun i hi => h i (by omega)), h n (by omega)]
/-- the hashes in a signature -/
def sigH (s : ByteArray) (i : Nat) : ByteArray := s.extract (4 + 32 * i) (36 + 32 * i)
theorem sigH_size (s : ByteArray) (hs : s.size = 2244) {i : Nat} (hi : i < 70) : (sigH s i).size = 32 := by
  unfold sigH
  rw [ext_size _ _ _ (by omega)]
  omega
theorem sigH_le (s : ByteArray) (i : Nat) : (sigH s i).size ≤ 32 := by
  unfold sigH
  rw [ByteArray.size_extract]
  omega
theorem sig_split (s : ByteArray) (hs : s.size = 2244) {i : Nat} (hi : i < 70) : (s.extract 4 s.size).extract (32 * i) (32 * i + 32) = sigH s i := by
  unfold sigH
  rw [ext_ext _ _ _ _ (by omega)]
  congr 1; omega
def endB (q : Nat) (m s : ByteArray) (i : Nat) : ByteArray := walkB q i (digB q m i) (sigH s i) (15 - digB q m i)
theorem endB_size (q : Nat) (m s : ByteArray) (hs : s.size = 2244) {i : Nat} (hi : i < 67) : (endB q m s i).size = 32 := walkB_size q i _ _ (sigH_size s hs (by omega)) _
theorem root_eq (q : Nat) (m s : ByteArray) : climbB q (fun i => (fstN (fun h => sigH s (67 + h)) 3).getD i ByteArray.empty) (leafB q (fstN (endB q m s) 67)) 3 = rootB q m s := by
  unfold rootB
  rw [climbB_congr (o' := fun h => s.extract (2148 + 32 * h) (2180 + 32 * h)) q _ 3 (fun i hi => by
    show (fstN _ 3).getD i _ = _
    rw [fstN_get _ hi]
    unfold sigH
    rw [show 4 + 32 * (67 + i) = 2148 + 32 * i by omega, show 36 + 32 * (67 + i) = 2180 + 32 * i by omega])]
  rfl
/-- what Verify answers -/
def verV (p m s : ByteArray) : Ending := .returned (.tuple #[.int .i64 (if verB p m s then frontB s else 0 : Nat), .bool (verB p m s)])
theorem verV_no {p m s : ByteArray} (h : verB p m s = false) : verV p m s = .returned (.tuple #[.int .i64 0, .bool false]) := by unfold verV; rw [h]; rfl
theorem verV_yes {p m s : ByteArray} (h : verB p m s = true) : verV p m s = .returned (.tuple #[.int .i64 (frontB s : Nat), .bool true]) := by unfold verV; rw [h]; rfl
/-- the values that are gone k of them; the others stand as they were -/
def halfV (q : Nat) (m s : ByteArray) (k : Nat) (cs : Array Value) : Prop := ∀ i, i < 70 → cs[i]? = some (.string (if i < k then endB q m s i else sigH s i))
theorem halfV_set {q : Nat} {m s : ByteArray} {k : Nat} {cs : Array Value} (h : halfV q m s k cs) : halfV q m s (k + 1) (cs.setIfInBounds k (.string (endB q m s k))) := by
  intro i hi
  have h0 := h i hi
  rw [Array.getElem?_setIfInBounds]
  by_cases e : k = i
  · subst e
    have hz : k < cs.size := by
      rcases Nat.lt_or_ge k cs.size with h1 | h1
      · exact h1
      · rw [Array.getElem?_eq_none h1] at h0; cases h0
    rw [if_pos rfl, if_pos hz, if_pos (Nat.lt_succ_self _)]
  · rw [if_neg e, h0]
    congr 3
    by_cases e2 : i < k
    · simp [e2, Nat.lt_succ_of_lt e2]
    · have : ¬ i < k + 1 := by omega
      simp [e2, this]
theorem halfV_row {q : Nat} {m s : ByteArray} {w : World} {g : Nat} {cs : Array Value} (h : halfV q m s 67 cs) (hk : Blk w g 9 cs) : Row w g 0 (fstN (endB q m s) 67) :=
  ⟨hk.lt, fun i hi => by
    rw [fstN_length] at hi
    rw [Nat.zero_add, hk.cell, h i (by omega), if_pos hi, fstN_get _ hi]⟩
theorem halfV_oth {q : Nat} {m s : ByteArray} {w : World} {g : Nat} {cs : Array Value} (h : halfV q m s 67 cs) (hk : Blk w g 9 cs) : Row w g 67 (fstN (fun h => sigH s (67 + h)) 3) :=
  ⟨hk.lt, fun i hi => by
    rw [fstN_length] at hi
    rw [hk.cell, h (67 + i) (by omega), if_neg (by omega), fstN_get _ hi]⟩
theorem halfV_zero {q : Nat} {m s : ByteArray} {w : World} {g : Nat} {cs : Array Value} (h : Row w g 0 (fstN (sigH s) 70)) (hk : Blk w g 9 cs) : halfV q m s 0 cs := by
  intro i hi
  have := h.2 i (by rw [fstN_length]; exact hi)
  rw [Nat.zero_add, hk.cell, fstN_get _ hi] at this
  rw [this]
  rfl

theorem ends_size (q : Nat) (m s : ByteArray) (hs : s.size = 2244) : (catB (fstN (endB q m s) 67)).size = 2144 := by
  rw [catB_size, fstN_length]
  intro x hx
  simp only [fstN, List.mem_map, List.mem_range] at hx
  obtain ⟨i, hi, rfl⟩ := hx
  exact endB_size q m s hs hi
theorem leafB_le (q : Nat) (vs : List ByteArray) : (leafB q vs).size ≤ 1073741824 := by
  show (hB _).size ≤ _
  rw [hB_size]
  decide
theorem oths_le (s : ByteArray) (i : Nat) : ((fstN (fun h => sigH s (67 + h)) 3).getD i ByteArray.empty).size ≤ 1073741824 := by
  rcases Nat.lt_or_ge i 3 with hi | hi
  · rw [fstN_get _ hi]
    have := sigH_le s (67 + i)
    omega
  · rw [List.getD_eq_getElem?_getD, List.getElem?_eq_none (by rw [fstN_length]; exact hi)]
    decide
section
attribute [-go_sem] loadVar
set_option maxRecDepth 100000 in
set_option maxHeartbeats 1000000 in
theorem verify_long (p m s : ByteArray) (hs : s.size ≠ 2244) (w : World) :
    Calls Try.prog 19 #[.agg tabV, .string p, .string m, .string s] w fun e w' => e = verV p m s ∧ Below w.heap.size w w' := by
  rw [verV_no (decide_eq_false (fun h => hs h.1))]
  have hne : ((s.size : Int) != 2244) = true := by rw [bne_iff_ne]; omega
  have hB0 := (Below.refl _ w).alloc (Nat.le_refl _) (.cells tabV 27)
  clear hs
  go_enter Try.func19, Try.ntmps19
  go_wp2
  go_ret2
  exact ⟨rfl, hB0⟩
set_option maxRecDepth 100000 in
set_option maxHeartbeats 1000000 in
theorem verify_key (p m s : ByteArray) (hs : s.size = 2244) (hf : ¬ frontB s < 8) (w : World) :
    Calls Try.prog 19 #[.agg tabV, .string p, .string m, .string s] w fun e w' => e = verV p m s ∧ Below w.heap.size w w' := by
  rw [verV_no (decide_eq_false (fun h => hf h.2.1))]
  have hne : ((s.size : Int) != 2244) = false := by rw [bne_eq_false_iff_eq]; omega
  have h4 : (4 : Int) ≤ (s.size : Int) := by omega
  have HN := Lib.hid (fun W => onumber_any (s.extract 0 4) (by rw [ext_size _ _ _ (by omega)]) W)
  rw [front_eq s (by omega)] at HN
  have HK := Lib.hid (fun W => isKey_any (frontB s) W)
  rw [decide_eq_false (by omega)] at HK
  have hB0 := (Below.refl _ w).alloc (Nat.le_refl _) (.cells tabV 27)
  clear hf
  generalize frontB s = q at *
  go_enter Try.func19, Try.ntmps19
  go_wp2_with fail
  refine (HN.out _).mono ?_
  rintro e w1 ⟨rfl, hb1⟩
  have hB1 := hB0.trans (hb1.mono hB0.size)
  clear hB0 hb1
  go_wp2_with fail
  refine (HK.out _).mono ?_
  rintro e w2 ⟨rfl, rfl⟩
  go_wp2
  go_ret2
  exact ⟨rfl, hB1⟩
set_option maxRecDepth 100000 in
set_option maxHeartbeats 4000000 in
theorem verify_full (p m s : ByteArray) (hm : m.size ≤ 1073741824) (hs : s.size = 2244) (hf : frontB s < 8) (w : World) :
    Calls Try.prog 19 #[.agg tabV, .string p, .string m, .string s] w fun e w' => e = verV p m s ∧ Below w.heap.size w w' := by
  have hne : ((s.size : Int) != 2244) = false := by rw [bne_eq_false_iff_eq]; omega
  have h4 : (4 : Int) ≤ (s.size : Int) := by omega
  have HN := Lib.hid (fun W => onumber_any (s.extract 0 4) (by rw [ext_size _ _ _ (by omega)]) W)
  rw [front_eq s (by omega)] at HN
  have HK := Lib.hid (fun W => isKey_any (frontB s) W)
  rw [decide_eq_true (by omega)] at HK
  have HSP : Hid (∀ W, Calls Try.prog 38 #[.string (s.extract 4 s.size)] W (RR (fstN (sigH s) 70) 70 W)) := Lib.hid (fun W => (split_any (s.extract 4 s.size) 70 (by rw [ext_size _ _ _ (Nat.le_refl _), hs]) (by decide) W).mono fun _ _ h => by
    rw [fstN_congr (fun i hi => sig_split s hs hi)] at h
    exact h.rr (fstN_length _ _) (by decide))
  have HNO := Lib.hid (show rootB (frontB s) m s ≠ p → verV p m s = .returned (.tuple #[.int .i64 0, .bool false]) from fun h => verV_no (decide_eq_false (fun k => h k.2.2)))
  have HYES := Lib.hid (show rootB (frontB s) m s = p → verV p m s = .returned (.tuple #[.int .i64 (frontB s : Nat), .bool true]) from fun h => verV_yes (decide_eq_true ⟨hs, hf, h⟩))
  generalize verV p m s = VV at *
  generalize frontB s = q at *
  have HDG := Lib.hid (fun W => digits_any q m hm W)
  have HIX := Lib.hid (fun (i : Nat) (hi : i < 67) => odV_index q m hi)
  have HDL := Lib.hid (digB_le q m)
  have HS := Lib.hid hs
  generalize odV q m = D at *
  have hB0 := (Below.refl _ w).alloc (Nat.le_refl _) (.cells tabV 27)
  have hT : Blk (w.alloc (.cells tabV 27)) w.heap.size 27 tabV := Blk.new _ _ _
  clear hm hs
  go_enter Try.func19, Try.ntmps19
  go_wp2_with fail
  generalize w.alloc (.cells tabV 27) = w0 at *
  obtain ⟨B, hBB⟩ : ∃ B, w.heap.size = B := ⟨_, rfl⟩
  rw [hBB] at hB0 hT ⊢
  have HBB := Lib.hid hBB
  clear hBB
  refine (HN.out _).mono ?_
  rintro e w1 ⟨rfl, hb1⟩
  have hT1 := hT.below hb1 hT.lt
  have hB1 := hB0.trans (hb1.mono (Nat.le_of_lt hT.lt))
  clear hB0 hb1 hT
  go_wp2_with fail
  refine (HK.out _).mono ?_
  rintro e w2 ⟨rfl, rfl⟩
  go_wp2_with fail
  refine (HSP.out _).mono ?_
  rintro e w3 ⟨g, cap, cs, rfl, hcap, hgw, hrow, hk3, hb3⟩
  have hgB : B < g := Nat.lt_of_lt_of_le hT1.lt hgw
  have hT3 := hT1.below hb3 hT1.lt
  have hB3 := hB1.trans (hb3.mono (Nat.le_of_lt hT1.lt))
  have hv3 : halfV q m s 0 cs := halfV_zero hrow hk3
  have hsl1 : ∀ W, (Instr.slice 52 (.slice (some ⟨g, 0, none⟩) 70 cap) none (some (.int .i64 67)) none).run Try.prog W = .ok (.slice (some ⟨g, 0, none⟩) 67 cap) W := by
    intro W
    rw [run_slice_h W _ _ 70 cap Try.underlying52 .i64 67 (by decide) (by omega)]
    have hs : (sizeOf (Try.prog.elem 52)).run Try.prog W = .ok 1 W := by kernel_rfl
    rw [hs]
    simp only [Result.andThen_ok, sliced, if_neg (show ¬ cap = 0 by omega), Nat.mul_one, Option.map_some, addr_add, Nat.add_zero, Nat.sub_zero]
    rfl
  have hsl2 := slice_from g 0 70 cap 67 (by decide) hcap
  rw [show ((67 : Nat) : Int) = 67 from rfl, Nat.zero_add, show 70 - 67 = 3 from rfl] at hsl2
  clear hT1 hB1 hb3 hgw hrow
  go_wp2
  go_quiet (fail)
  have hT4 : Blk (w3.drewN nq) B 27 tabV := hT3
  have hk4 : Blk (w3.drewN nq) g 9 cs := hk3
  have hB4 := below_drewN hB3 nq
  generalize w3.drewN nq = w4 at *
  have hl4 := tab_run hT4
  generalize s.extract 4 s.size = S4 at *
  generalize s.extract 0 4 = S0 at *
  clear hT3 hk3 hB3 HSP HN HK hsl1 hsl2
  go_wp2_with fail
  refine (HDG.out _).mono ?_
  rintro e w5 ⟨rfl, hb5⟩
  have hT5 := hT4.below hb5 hT4.lt
  have hk5 := hk4.below hb5 hk4.lt
  have hB5 := hB4.trans (hb5.mono (Nat.le_of_lt hT4.lt))
  clear hT4 hk4 hB4 hb5 hl4 HDG hne h4
  go_wp2
  go_loopw [36] (fun i wr => ∃ (k : Nat) (cs : Array Value), k ≤ 67 ∧ i = .int .i64 k ∧ halfV q m s k cs ∧ Blk wr g 9 cs ∧ Blk wr B 27 tabV ∧ Below B w wr) (fun i _ => 67 - (intOf i).toNat)
  case atStart => exact ⟨0, cs, by omega, rfl, hv3, hk5, hT5, hB5⟩
  case round =>
    clear hv3 hk5 hT5 hB5
    obtain ⟨k, cs, hk, rfl, hv, hkk, hT, hB⟩ := hrel
    by_cases hlt : k < 67
    · have hlt' : (k : Int) < 67 := by omega
      have hlt0 : (0 : Int) ≤ (k : Int) := by omega
      have hix := HIX.out k hlt
      have hdl := HDL.out k
      have hc0 := hv k (by omega)
      rw [if_neg (Nat.lt_irrefl k)] at hc0
      have HW1 := Lib.hid (fun W => walk_any q k (digB q m k) (15 - digB q m k) 15 (sigH s k) (by have := sigH_le s k; omega) (by omega) (by decide) W)
      have HE := Lib.hid (show walkB q k (digB q m k) (sigH s k) (15 - digB q m k) = endB q m s k from rfl)
      rw [HE.out] at HW1
      have HHV := Lib.hid (halfV_set hv)
      have hf0 := hkk.frozen k
      have hcell := (hkk.cell k).trans hc0
      have hgne : some B ≠ some g := by intro h; injection h; omega
      generalize endB q m s k = R at *
      generalize sigH s k = X at *
      generalize digB q m k = d at *
      have HKP : Hid (∀ W, wr.grownBy W (some g) → (loadVar 27 ⟨B, 0, none⟩).run Try.prog W = .ok (.agg tabV) W ∧ wr.grownBy W (some g)) :=
        Lib.hid fun W hW => ⟨tab_run (hT.grown hW hgne), hW⟩
      have HT := Lib.hid hT
      have HK5 := Lib.hid hkk
      have HGN := Lib.hid hgne
      have hl0 := txt_load hcell
      have hl1 : (loadVar 9 ⟨g, k, none⟩).run Try.prog wr.drew = .ok (.string X) wr.drew := txt_load hcell
      have hl2 : (loadVar 27 ⟨B, 0, none⟩).run Try.prog wr.drew = .ok (.agg tabV) wr.drew := tab_run hT
      clear hT hkk hv hgne
      go_wp2
      go_region_law (first
          | (go_simp; go_at_call 33; refine (HW1.out _).mono ?_; rintro e w1 ⟨rfl, hb1⟩; have hb1' : Below wr.heap.size wr w1 := (Below.refl _ _).drew.trans hb1; have hk1 := HK5.out.below hb1' HK5.out.lt; have hc1 := (hk1.cell k).trans hc0; have hf1 := hk1.frozen k))
      all_goals
        have hT2 := (HT.out.below hb1' HT.out.lt).far (p := ⟨g, k, none⟩) (fun h => HGN.out (congrArg some h)) (.string R)
        have hk2 := hk1.set_ k (.string R)
        have hB2 := (hB.trans (hb1'.mono (Nat.le_of_lt HT.out.lt))).setCell (p := ⟨g, k, none⟩) (Nat.le_of_lt hgB) (.string R)
        generalize w1.setCell ⟨g, k, none⟩ (.string R) = w6 at *
        clear hB hb1 hb1' hk1 hc1 hf1 HW1 HT HK5 HGN hl0 hl1 hl2 HKP hcell hf0 hc0
        go_wp2
        go_roundw
        case rel => exact ⟨k + 1, _, by omega, by go_num, HHV.out, hk2, hT2, hB2⟩
        case measure => simp [intOf]; omega
    · obtain rfl : k = 67 := by omega
      clear hlt hk
      rw [show ((67 : Nat) : Int) = 67 from rfl]
      have hrow := halfV_row hv hkk
      have hoth := halfV_oth hv hkk
      have hez := ends_size q m s HS.out
      have HLF := Lib.hid (fun W hW => leaf_any q g 67 cap (fstN (endB q m s) 67) (fstN_length _ _) (by decide) (by decide) (by omega) (by rw [hez]; decide) (by rw [hez]; decide) W hW)
      have HCL := Lib.hid (fun W hW => climb_any q g 67 3 (cap - 67) (leafB q (fstN (endB q m s) 67)) (fstN (fun h => sigH s (67 + h)) 3) (fstN_length _ _) (by decide) (by omega) (leafB_le _ _) (oths_le s) W hW)
      clear hez
      rw [root_eq] at HCL
      generalize rootB q m s = RO at *
      generalize leafB q (fstN (endB q m s) 67) = LF at *
      have HRW := Lib.hid hrow
      have HOT := Lib.hid hoth
      have HKP : Hid (∀ W, Below wr.heap.size wr W → (loadVar 27 ⟨B, 0, none⟩).run Try.prog W = .ok (.agg tabV) W ∧ Below wr.heap.size wr W) :=
        Lib.hid fun W hW => ⟨tab_run (hT.below hW hT.lt), hW⟩
      have HT := Lib.hid hT
      clear hrow hoth hv hkk hT
      go_wp2
      go_region_held3 (fun w' => (loadVar 27 ⟨B, 0, none⟩).run Try.prog w' = .ok (.agg tabV) w' ∧ Below wr.heap.size wr w')
        ((refine HKP.out _ ?_; first | exact hb2' | exact hb1 | exact (Below.refl _ _).drew | exact Below.refl _ _))
        (first
          | (have := hb1; go_at_call 39; refine (HCL.out _ (HOT.out.below hb1 HOT.out.1)).mono ?_; rintro e w2 ⟨rfl, hb2⟩; have hb2' := hb1.trans (hb2.mono hb1.size))
          | (go_at_call 40; refine (HLF.out _ (HRW.out.below (Below.refl _ _).drew HRW.out.1)).mono ?_; rintro e w1 ⟨rfl, hb0⟩; have hb1 : Below wr.heap.size wr w1 := (Below.refl _ _).drew.trans hb0))
      have hB9 := hB.trans (hb2'.mono (Nat.le_of_lt HT.out.lt))
      rw [← HBB.out] at hB9
      rename_i hHeld
      clear hHeld hB hb0 hb1 hb2 hb2' HKP HRW HOT HT HLF HCL HIX HDL
      by_cases hRO : RO = p
      · have heq : (RO.toList == p.toList) = true := by rw [hRO]; exact beq_self_eq_true _
        have HV := Lib.hid (HYES.out hRO)
        simp only [heq]
        clear hRO heq
        go_wp2
        go_ret2
        exact ⟨by rw [HV.out]; rfl, hB9⟩
      · have hne : (RO.toList == p.toList) = false := by
          rw [beq_eq_false_iff_ne, ByteArray.toList_eq, ByteArray.toList_eq]
          intro e
          exact hRO (by cases RO; cases p; simp_all)
        have HV := Lib.hid (HNO.out hRO)
        simp only [hne]
        clear hRO hne
        go_wp2
        go_ret2
        exact ⟨by rw [HV.out]; rfl, hB9⟩
end
theorem verify_any (p m s : ByteArray) (hm : m.size ≤ 1073741824) (w : World) :
    Calls Try.prog 19 #[.agg tabV, .string p, .string m, .string s] w fun e w' => e = verV p m s ∧ Below w.heap.size w w' := by
  by_cases h1 : s.size = 2244
  · by_cases h2 : frontB s < 8
    · exact verify_full p m s hm h1 h2 w
    · exact verify_key p m s h1 h2 w
  · exact verify_long p m s h1 w
end Go.Proofs.Ytbkmclgddknijaa

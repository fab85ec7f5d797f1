/-
  Whether a signature of two levels holds: the program's.
-/
import Derived.Test.YtbkmclgddknijaaHMath
import Derived.BigQuiet
namespace Go.Proofs.Ytbkmclgddknijaa
open Go.RowKit

theorem held_long {p m s : ByteArray} (h : s.size ≠ 4520) : heldB p m s = false := by
  unfold heldB
  rw [decide_eq_false h]
  rfl
theorem held_whole {p m s : ByteArray} (h : s.size = 4520) : heldB p m s = (verB p (saysB (s.extract 2244 2276)) (s.extract 0 2244) && verB (s.extract 2244 2276) m (s.extract 2276 4520)) := by
  unfold heldB
  rw [decide_eq_true h]
  rfl
set_option maxRecDepth 100000 in
set_option maxHeartbeats 1000000 in
theorem hssverify_long (p m s : ByteArray) (hs : s.size ≠ 4520) (w : World) :
    Calls Try.prog 9 #[.agg tabV, .string p, .string m, .string s] w fun e w' => e = heldV p m s ∧ Below w.heap.size w w' := by
  rw [heldV_no (held_long hs)]
  have hne : ((s.size : Int) != 4520) = true := by rw [bne_iff_ne]; omega
  have hB0 := (Below.refl _ w).alloc (Nat.le_refl _) (.cells tabV 27)
  clear hs
  go_enter Try.func9, Try.ntmps9
  go_wp2
  go_ret2
  exact ⟨rfl, hB0⟩
section
attribute [-go_sem] loadVar
set_option maxRecDepth 100000 in
set_option maxHeartbeats 2000000 in
theorem hssverify_full (p m s : ByteArray) (hm : m.size ≤ 1073741824) (hs : s.size = 4520) (w : World) :
    Calls Try.prog 9 #[.agg tabV, .string p, .string m, .string s] w fun e w' => e = heldV p m s ∧ Below w.heap.size w w' := by
  have hne : ((s.size : Int) != 4520) = false := by rw [bne_eq_false_iff_eq]; omega
  have hcz : (s.extract 2244 2276).size = 32 := ext_size _ _ _ (by omega)
  have HV1 := Lib.hid (fun W => verify_any p (saysB (s.extract 2244 2276)) (s.extract 0 2244) (by rw [saysB_size, hcz]; decide) W)
  have HV2 := Lib.hid (fun W => verify_any (s.extract 2244 2276) m (s.extract 2276 4520) hm W)
  have HE := Lib.hid (held_whole (p := p) (m := m) hs)
  have HL1 := Lib.hid (fun h => ver_low (p := p) (m := saysB (s.extract 2244 2276)) (s := s) (i := 0) (j := 2244) rfl h)
  have HL2 := Lib.hid (fun h => ver_low (p := s.extract 2244 2276) (m := m) (s := s) (i := 2276) (j := 4520) rfl h)
  have HM1 := Lib.hid (fun h => ver_lt (p := p) (m := saysB (s.extract 2244 2276)) (s := s.extract 0 2244) h)
  have HM2 := Lib.hid (fun h => ver_lt (p := s.extract 2244 2276) (m := m) (s := s.extract 2276 4520) h)
  have h1 : (2244 : Int) ≤ (s.size : Int) := by omega
  have h2 : (2276 : Int) ≤ (s.size : Int) := by omega
  have a1 : ¬ (⟨#[67]⟩ : ByteArray).size + (s.extract 2244 2276).size > 9223372036854775807 := by rw [hcz]; decide
  have hsz : s.size = 4520 := hs
  have hB0 := (Below.refl _ w).alloc (Nat.le_refl _) (.cells tabV 27)
  have hT : Blk (w.alloc (.cells tabV 27)) w.heap.size 27 tabV := Blk.new _ _ _
  clear hs
  go_enter Try.func9, Try.ntmps9
  go_wp2_with fail
  generalize w.alloc (.cells tabV 27) = w0 at *
  obtain ⟨B, hBB⟩ : ∃ B, w.heap.size = B := ⟨_, rfl⟩
  rw [hBB] at hB0 hT ⊢
  have HBB := Lib.hid hBB
  have HT0 := Lib.hid hT
  have HB0 := Lib.hid hB0
  clear hBB hB0 hT
  go_quiet (fail)
  obtain ⟨w1, hw1⟩ : ∃ w1, w0.drewN nq = w1 := ⟨_, rfl⟩
  rw [hw1]
  have hT1 : Blk w1 B 27 tabV := by rw [← hw1]; exact HT0.out.below (below_drewN (Below.refl _ _) _) HT0.out.lt
  have hB1 : Below B w w1 := by rw [← hw1]; exact below_drewN HB0.out _
  have l1 := tab_run hT1
  clear hw1 HT0 HB0 h1 h2 hne hsz hcz
  generalize s.extract 2244 2276 = CH at *
  generalize s.extract 0 2244 = AH at *
  generalize s.extract 2276 4520 = BH at *
  cases hv : verB p (saysB CH) AH with
  | false =>
    rw [hv] at HE
    have HN : Hid (heldV p m s = .returned (.tuple #[.int .i64 0, .bool false])) := Lib.hid (heldV_no (by rw [HE.out]; rfl))
    rw [verV_no hv] at HV1
    clear hv HE HL1 HL2 HM1 HM2 HV2
    unfold saysB at HV1
    go_wp2_with fail
    refine (HV1.out _).mono ?_
    rintro e w2 ⟨rfl, hb2⟩
    have hB2 := hB1.trans (hb2.mono (Nat.le_of_lt hT1.lt))
    rw [← HBB.out] at hB2
    clear hB1 hT1 hb2 l1 HV1
    go_wp2
    go_ret2
    exact ⟨by rw [HN.out]; rfl, hB2⟩
  | true =>
    rw [hv] at HE
    rw [verV_yes hv] at HV1
    have f1 := HL1.out hv
    have f1l := HM1.out hv
    clear hv HL1 HM1
    unfold saysB at HV1
    cases hv2 : verB CH m BH with
    | false =>
      rw [hv2] at HE
      have HN : Hid (heldV p m s = .returned (.tuple #[.int .i64 0, .bool false])) := Lib.hid (heldV_no (by rw [HE.out]; rfl))
      rw [verV_no hv2] at HV2
      clear hv2 HE HL2 HM2 f1 f1l
      go_wp2_with fail
      refine (HV1.out _).mono ?_
      rintro e w2 ⟨rfl, hb2⟩
      have hT2 := hT1.below hb2 hT1.lt
      have hB2 := hB1.trans (hb2.mono (Nat.le_of_lt hT1.lt))
      have l2 := tab_run hT2
      clear hB1 hT1 hb2 l1 HV1
      go_wp2_with fail
      refine (HV2.out _).mono ?_
      rintro e w3 ⟨rfl, hb3⟩
      have hB3 := hB2.trans (hb3.mono (Nat.le_of_lt hT2.lt))
      rw [← HBB.out] at hB3
      clear hB2 hT2 hb3 l2 HV2
      go_wp2
      go_ret2
      exact ⟨by rw [HN.out]; rfl, hB3⟩
    | true =>
      rw [hv2] at HE
      rw [verV_yes hv2] at HV2
      have f2 := HL2.out hv2
      have f2l := HM2.out hv2
      have HN : Hid (heldV p m s = .returned (.tuple #[.int .i64 ((frontB AH : Nat) * 8 + (frontB BH : Nat)), .bool true])) := Lib.hid (by
        rw [heldV_yes (by rw [HE.out]; rfl)]
        unfold numB
        rw [show (nums s).getD 3 0 = frontB AH from f1.symm, show (nums s).getD 2279 0 = frontB BH from f2.symm, show ((8 * frontB AH + frontB BH : Nat) : Int) = (frontB AH : Int) * 8 + (frontB BH : Int) by omega])
      clear hv2 HE HL2 HM2 f1 f2
      generalize frontB AH = y1 at *
      generalize frontB BH = y2 at *
      go_wp2_with fail
      refine (HV1.out _).mono ?_
      rintro e w2 ⟨rfl, hb2⟩
      have hT2 := hT1.below hb2 hT1.lt
      have hB2 := hB1.trans (hb2.mono (Nat.le_of_lt hT1.lt))
      have l2 := tab_run hT2
      clear hB1 hT1 hb2 l1 HV1
      go_wp2_with fail
      refine (HV2.out _).mono ?_
      rintro e w3 ⟨rfl, hb3⟩
      have hB3 := hB2.trans (hb3.mono (Nat.le_of_lt hT2.lt))
      rw [← HBB.out] at hB3
      clear hB2 hT2 hb3 l2 HV2
      go_wp2
      go_ret2
      exact ⟨by rw [HN.out]; rfl, hB3⟩
end
theorem hssverify_any (p m s : ByteArray) (hm : m.size ≤ 1073741824) (w : World) :
    Calls Try.prog 9 #[.agg tabV, .string p, .string m, .string s] w fun e w' => e = heldV p m s ∧ Below w.heap.size w w' := by
  by_cases h : s.size = 4520
  · exact hssverify_full p m s hm h w
  · exact hssverify_long p m s h w
end Go.Proofs.Ytbkmclgddknijaa

/-
  Verify.
-/
import Derived.Test.YtedkhcjbppknpaaSClimb
import Derived.Test.YtedkhcjbppknpaaSUnf
namespace Go.Proofs.Ytedkhcjbppknpaa
open Go.RowKit

/-- whether the proof shows, under the root, that the key has the value, or has none -/
def verS (root k v : ByteArray) (there : Bool) (s : ByteArray) : Bool := wfS s && decide (clL (pathS k) (besV s) (if there then ownS k v else emp 256) (dn 256) = root)
theorem beqB5 (a b : ByteArray) : (a.toList == b.toList) = decide (a = b) := by
  rw [Bool.eq_iff_iff, beq_iff_eq, decide_eq_true_iff]
  constructor
  · intro h
    rw [ByteArray.toList_eq, ByteArray.toList_eq] at h
    exact ByteArray.ext (Array.toList_inj.1 h)
  · rintro rfl; rfl
section
attribute [-go_sem] loadVar
set_option maxRecDepth 100000 in
set_option maxHeartbeats 2000000 in
theorem verify_any (root k v : ByteArray) (there : Bool) (s : ByteArray) (hk : k.size ≤ 1073741824) (hv : v.size ≤ 1073741824) (hs : s.size ≤ 1073741824) (w : World) :
    Calls Try.prog 14 #[.agg tabV, .string root, .string k, .string v, .bool there, .string s] w fun e w' => e = .returned (.bool (verS root k v there s)) ∧ Below w.heap.size w w' := by
  have HW := Lib.hid (well_any s hs)
  have hB0 := (Below.refl _ w).alloc (Nat.le_refl _) (.cells tabV 29)
  have hT0 : Blk (w.alloc (.cells tabV 29)) w.heap.size 29 tabV := Blk.new _ _ _
  obtain ⟨w0, hw0⟩ : ∃ w0, w.alloc (.cells tabV 29) = w0 := ⟨_, rfl⟩
  have HW0 := Lib.hid hw0
  rw [hw0] at hB0 hT0
  clear hw0
  cases hwf : wfS s with
  | false =>
    have HR : Hid (verS root k v there s = false) := Lib.hid (by unfold verS; rw [hwf]; rfl)
    rw [HR.out]
    rw [hwf] at HW
    clear hwf hT0
    go_enter Try.func14, Try.ntmps14
    go_wp2_with fail
    rw [HW0.out]
    refine (HW.out _).mono ?_
    rintro e w' ⟨rfl, rfl⟩
    go_wp2
    go_ret
    exact ⟨rfl, hB0⟩
  | true =>
    have HR : Hid (verS root k v there s = decide (clL (pathS k) (besV s) (if there then ownS k v else emp 256) (dn 256) = root)) := Lib.hid (by unfold verS; rw [hwf]; rfl)
    rw [HR.out]
    rw [hwf] at HW
    have HPL := Lib.hid plant_any
    have HPO := Lib.hid (pathOf_any k hk)
    have HVA := Lib.hid (fun g W h1 h2 => tvalue_any g k v hk hv W h1 h2)
    have HUN := Lib.hid (fun g W hT => unfold_any g s hwf W hT)
    have HCL := Lib.hid (fun g x hx gr cap W hT hg hR => climb_any g (pathS k) x (pathS_size k) hx (besV s) (fun i hi => besV_size hwf hi) gr cap W hT hg hR)
    have HOS := Lib.hid (ownS_size k v)
    have HES := Lib.hid (emp_size 256)
    have HFL := Lib.hid (fstN_length (besV s) 256)
    have HFG := Lib.hid (fun i (hi : i < 256) => fstN_get (besV s) (n := 256) hi)
    have HEC := Lib.hid (fun W g (hT : Tre W g) => txt_load (tre_cell hT (d := 256) (by decide)))
    rw [show (72 + 256 : Nat) = 328 from rfl] at HEC
    unfold RT at HUN
    generalize hE : emp 256 = E at *
    generalize ownS k v = O at *
    generalize pathS k = pk at *
    generalize fstN (besV s) 256 = FF at *
    have hl0 := tab_run hT0
    clear hwf hE HR
    have HT0 := Lib.hid hT0
    clear hT0
    go_enter Try.func14, Try.ntmps14
    go_wp2_with fail
    rw [HW0.out]
    refine (HW.out _).mono ?_
    rintro e w' ⟨rfl, rfl⟩
    go_wp2_with fail
    refine (HPL.out _).mono ?_
    rintro e w1 ⟨rfl, hT1, hB1⟩
    have hB1' := hB0.trans (hB1.mono hB0.size)
    have hl1 := HEC.out w1 _ hT1
    have ht1 := tab_run (HT0.out.below hB1 HT0.out.lt)
    have HT01 := Lib.hid (HT0.out.below hB1 HT0.out.lt)
    generalize w'.heap.size + 1 = g at *
    clear hB0 hB1 HW HPL hl0 HEC HT0
    cases there
    · go_wp2_with fail
      refine (HPO.out _).mono ?_
      rintro e w2 ⟨rfl, hB2⟩
      have hT2 := Blk.below hT1 hB2 hT1.lt
      have hB2' := hB1'.trans (hB2.mono hB1'.size)
      clear hB1' hB2 hT1 hl1
      go_wp2_with fail
      refine (HUN.out _ _ hT2).mono ?_
      rintro e w3 ⟨v3, rfl, hown3, hB3⟩
      have hT3 := Blk.below hT2 hB3 hT2.lt
      have hB3' := hB2'.trans (hB3.mono hB2'.size)
      obtain ⟨gr, cap, hv3, hge, hcap, hrow⟩ := hown3.row (by rw [HFL.out]; decide)
      rw [HFL.out] at hv3 hcap
      subst hv3
      have HRO := Lib.hid (show ∀ i, i < 256 → w3.cell? ⟨gr, i, none⟩ = some (.string (besV s i)) from fun i hi => by
        have := hrow.2 i (by rw [HFL.out]; exact hi)
        rw [Nat.zero_add, HFG.out i hi] at this
        exact this)
      have HGR := Lib.hid hrow.1
      clear hB2' hB3 hT2 hown3 hge hcap hrow
      go_wp2_with fail
      refine (HCL.out _ E HES.out gr cap _ hT3 HGR.out HRO.out).mono ?_
      rintro e w4 ⟨rfl, hB4⟩
      have hB4' := hB3'.trans (hB4.mono hB3'.size)
      go_wp2
      go_ret
      exact ⟨boolEq (beqB5 _ _), hB4'⟩
    · go_wp2_with fail
      refine (HVA.out g _ hT1.lt (fun W hW => tre_tab (Blk.below hT1 hW hT1.lt))).mono ?_
      rintro e w5 ⟨rfl, hB5⟩
      have hT5 := Blk.below hT1 hB5 hT1.lt
      have hB5' := hB1'.trans (hB5.mono hB1'.size)
      have ht5 := tab_run (HT01.out.below hB5 HT01.out.lt)
      clear hB1' hB5 hT1 hl1 ht1
      go_wp2_with fail
      refine (HPO.out _).mono ?_
      rintro e w2 ⟨rfl, hB2⟩
      have hT2 := Blk.below hT5 hB2 hT5.lt
      have hB2' := hB5'.trans (hB2.mono hB5'.size)
      clear hB5' hB2 hT5 ht5
      go_wp2_with fail
      refine (HUN.out _ _ hT2).mono ?_
      rintro e w3 ⟨v3, rfl, hown3, hB3⟩
      have hT3 := Blk.below hT2 hB3 hT2.lt
      have hB3' := hB2'.trans (hB3.mono hB2'.size)
      obtain ⟨gr, cap, hv3, hge, hcap, hrow⟩ := hown3.row (by rw [HFL.out]; decide)
      rw [HFL.out] at hv3 hcap
      subst hv3
      have HRO := Lib.hid (show ∀ i, i < 256 → w3.cell? ⟨gr, i, none⟩ = some (.string (besV s i)) from fun i hi => by
        have := hrow.2 i (by rw [HFL.out]; exact hi)
        rw [Nat.zero_add, HFG.out i hi] at this
        exact this)
      have HGR := Lib.hid hrow.1
      clear hB2' hB3 hT2 hown3 hge hcap hrow
      go_wp2_with fail
      refine (HCL.out _ O HOS.out gr cap _ hT3 HGR.out HRO.out).mono ?_
      rintro e w4 ⟨rfl, hB4⟩
      have hB4' := hB3'.trans (hB4.mono hB3'.size)
      go_wp2
      go_ret
      exact ⟨boolEq (beqB5 _ _), hB4'⟩
end
end Go.Proofs.Ytedkhcjbppknpaa

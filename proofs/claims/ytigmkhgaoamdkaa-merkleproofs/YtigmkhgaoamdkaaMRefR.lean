/-
  Roots and inclusion proofs: the reference's.
-/
import Derived.Test.YtigmkhgaoamdkaaMSub
namespace Go.Proofs.Ytigmkhgaoamdkaa
open Go.RowKit

set_option maxRecDepth 100000 in
set_option maxHeartbeats 4000000 in
theorem rroot_any (n : Nat) : ∀ (oa : Option Addr) (cap : Nat) (ss : List ByteArray) (_ : ss.length = n) (_ : n ≤ 64) (_ : n ≤ cap) (_ : Sz ss) (w0 : World) (_ : Strs w0 oa ss),
    Calls Try.prog 19 #[.slice oa n cap] w0 fun e w' => e = .returned (.string (rootM ss)) ∧ Below w0.heap.size w0 w' := by
  induction n using Nat.strongRecOn with
  | _ n ih =>
  intro oa cap ss hn hm hcap hz w0 hc0
  by_cases h2 : 2 ≤ n
  · have hn0 : ((n : Int) == 0) = false := by rw [beq_eq_false_iff_ne]; omega
    have hn1 : ((n : Int) == 1) = false := by rw [beq_eq_false_iff_ne]; omega
    have HP := Lib.hid (fun W => half_any n h2 hm W)
    have hk1 := kM_lt h2
    have hk0 := kM_pos n
    have HR := Lib.hid (show rootM ss = nodM (rootM (ss.take (kM n))) (rootM (ss.drop (kM n))) by rw [rootM_more (by omega), hn])
    have HL := Lib.hid (fun W hW => ih (kM n) hk1 oa cap (ss.take (kM n)) (by rw [List.length_take]; omega) (by omega) (by omega) (hz.take _) W hW)
    have HRR := Lib.hid (fun W hW => ih (n - kM n) (by omega) (oa.map (·.add (kM n))) (cap - kM n) (ss.drop (kM n)) (by rw [List.length_drop]; omega) (by omega) (by omega) (hz.drop _) W hW)
    have z1 := rootM_sz (hz.take (kM n))
    have z2 := rootM_sz (hz.drop (kM n))
    have hs1 := slice_to oa n cap (kM n) (by omega)
    have hs2 := slice_on oa n cap (kM n) hk1 hcap
    have HC1 := Lib.hid (hc0.take (kM n))
    have HC2 := Lib.hid (hc0.drop (kM n))
    generalize ss.take (kM n) = s1 at *
    generalize ss.drop (kM n) = s2 at *
    generalize rootM ss = R at *
    generalize rootM s1 = R1 at *
    generalize rootM s2 = R2 at *
    have z0 : (⟨#[1]⟩ : ByteArray).size = 1 := rfl
    have r1 := addRun (a := ⟨#[1]⟩) (b := R1) (by omega)
    have r2 := addRun (a := ⟨#[1]⟩ ++ R1) (b := R2) (by simp only [ByteArray.size_append]; omega)
    have HJ := Lib.hid (fun W => rh4_any (⟨#[1]⟩ ++ R1 ++ R2) (by simp only [ByteArray.size_append]; omega) W)
    change Hid (∀ W, Calls Try.prog 30 _ W fun e w' => e = .returned (.string (nodM R1 R2)) ∧ Below W.heap.size W w') at HJ
    rw [← HR.out] at HJ
    generalize kM n = k at *
    generalize oa.map (·.add k) = ob at *
    clear HR ih hz hc0 hn z0 z1 z2
    go_enter Try.func19, Try.ntmps19
    go_wp2_with fail
    refine (HP.out _).mono ?_
    rintro e w' ⟨rfl, hw⟩
    rw [hw]
    clear hw
    go_wp2
    go_region_held3 (fun w' => Below w0.heap.size w0 w')
      ((first | exact hB3' | exact hB2' | exact hB1' | exact (Below.refl _ _).drew | exact Below.refl _ _))
      (first
        | (have := hB2'; go_at_call 30; refine (HJ.out _).mono ?_; rintro e w3 ⟨rfl, hb3⟩; have hB3' : Below w0.heap.size w0 w3 := hB2'.trans (hb3.mono hB2'.size))
        | (have := hB1'; go_at_call 19; refine (HRR.out _ (HC2.out.below hB1')).mono ?_; rintro e w2 ⟨rfl, hb2⟩; have hB2' : Below w0.heap.size w0 w2 := hB1'.trans (hb2.mono hB1'.size))
        | (go_at_call 19; refine (HL.out _ (HC1.out.below (Below.refl _ _).drew)).mono ?_; rintro e w1 ⟨rfl, hb1⟩; have hB1' : Below w0.heap.size w0 w1 := (Below.refl _ _).drew.trans hb1))
    go_wp2
    go_ret
    exact ⟨rfl, hB3'⟩
  · by_cases h1 : n = 1
    · have HR := Lib.hid (rootM_one (l := ss) (by omega))
      have hn1 : n = 1 := h1
      obtain ⟨a, rfl, hab, hcell⟩ := hc0 0 (by omega)
      rw [HR.out]
      generalize ss.getD 0 ByteArray.empty = R at *
      rw [show a.add 0 = a from rfl] at hcell
      subst hn1
      clear HR ih hz hc0 hn h2
      go_enter Try.func19, Try.ntmps19
      go_wp2
      go_ret
      exact ⟨rfl, Below.refl _ _⟩
    · obtain rfl : n = 0 := by omega
      have HR := Lib.hid (rootM_nil hn)
      have HS := Lib.hid (fun W => rh4_any ⟨#[]⟩ (by decide) W)
      rw [HR.out]
      generalize hB ⟨#[]⟩ = R at *
      clear HR ih hz hc0 hn h2
      go_enter Try.func19, Try.ntmps19
      go_wp2_with fail
      refine (HS.out _).mono ?_
      rintro e w' ⟨rfl, hB⟩
      go_wp2
      go_ret
      exact ⟨rfl, hB⟩
set_option maxRecDepth 100000 in
set_option maxHeartbeats 8000000 in
theorem rinc_any (n : Nat) : ∀ (oa : Option Addr) (cap m : Nat) (ss : List ByteArray) (_ : ss.length = n) (_ : 1 ≤ n) (_ : n ≤ 64) (_ : n ≤ cap) (_ : m < n) (_ : Sz ss) (w0 : World) (_ : Strs w0 oa ss),
    Calls Try.prog 21 #[.slice oa n cap, .int .i64 m] w0 (RT (incM ss m) w0) := by
  induction n using Nat.strongRecOn with
  | _ n ih =>
  intro oa cap m ss hn hn0 hm hcap hmn hz w0 hc
  have HRT := Lib.hid (show ∀ e w', RT (incM ss m) w0 e w' = ∃ v, e = .returned v ∧ Own w' w0.heap.size v (incM ss m) ∧ Below w0.heap.size w0 w' from fun _ _ => rfl)
  generalize RT (incM ss m) w0 = PO at *
  have hc0 := hc
  clear hc
  by_cases h2n : 2 ≤ n
  · have hn1 : ((n : Int) == 1) = false := by rw [beq_eq_false_iff_ne]; omega
    have HP := Lib.hid (fun W => half_any n h2n hm W)
    have hk1 := kM_lt h2n
    have hk0 := kM_pos n
    have hs1 := slice_to oa n cap (kM n) (by omega)
    have hs2 := slice_on oa n cap (kM n) hk1 hcap
    have HC1 := Lib.hid (hc0.take (kM n))
    have HC2 := Lib.hid (hc0.drop (kM n))
    by_cases hik : m < kM n
    · have HI := Lib.hid (incM_left hn h2n hik)
      have HIL := Lib.hid (show (incM (ss.take (kM n)) m).length ≤ 1073741824 by rw [incM_length]; have := depM_lt (ss.take (kM n)).length m; rw [List.length_take] at this ⊢; omega)
      have HL := Lib.hid (fun W hW => ih (kM n) hk1 oa cap m (ss.take (kM n)) (by rw [List.length_take]; omega) (by omega) (by omega) (by omega) hik (hz.take _) W hW)
      have HRR := Lib.hid (fun W hW => rroot_any (n - kM n) (oa.map (·.add (kM n))) (cap - kM n) (ss.drop (kM n)) (by rw [List.length_drop]; omega) (by omega) (by omega) (hz.drop _) W hW)
      have hik' : (m : Int) < (kM n : Int) := by omega
      generalize ss.take (kM n) = s1 at *
      generalize ss.drop (kM n) = s2 at *
      generalize incM ss m = R at *
      generalize incM s1 m = R1 at *
      generalize rootM s2 = R2 at *
      generalize kM n = k at *
      generalize oa.map (·.add k) = ob at *
      clear ih hz hc0 hn
      go_enter Try.func21, Try.ntmps21
      go_wp2_with fail
      refine (HP.out _).mono ?_
      rintro e w' ⟨rfl, hw⟩
      rw [hw]
      clear hw
      go_wp2
      have HKP : Hid (∀ W, Below w0.heap.size w0 W → Below w0.heap.size w0 W) := Lib.hid fun W hW => hW
      go_region_held3 (fun w' => Below w0.heap.size w0 w')
        ((refine HKP.out _ ?_; first | exact hB3' | exact hB2'.alloc hB2'.size _ | exact hB2' | exact hB1' | exact (Below.refl _ _).drew | exact Below.refl _ _))
        (first
          | (have := hB1'; go_at_call 19; refine (HRR.out _ (HC2.out.below hB1')).mono ?_; rintro e w2 ⟨rfl, hb2⟩; have hB2' : Below w0.heap.size w0 w2 := hB1'.trans (hb2.mono hB1'.size))
          | (go_at_call 21; refine (HL.out _ (HC1.out.below (Below.refl _ _).drew)).mono ?_; rintro e w1 ⟨v, rfl, hown, hb1⟩; have hB1' : Below w0.heap.size w0 w1 := (Below.refl _ _).drew.trans hb1)
          | (have := hB2'; (refine step_append_txt (by rfl) _ _ (by rfl) w0.heap.size v R1 (by rfl) (Own.below hown hb2) R2 (by rfl) HIL.out hB2'.size ?_; intro g2 cap2 w3 hown2 hgr2; have hB3' : Below w0.heap.size w0 w3 := hB2'.grown hgr2 hB2'.size (fun q hq => (World.ownsRow.lt hown q hq).1))))
      rw [← HI.out] at hown2
      go_wp2
      rw [HRT.out]
      exact ⟨_, rfl, hown2, hB3'⟩
    · have HI := Lib.hid (incM_right hn h2n hik)
      have HIL := Lib.hid (show (incM (ss.drop (kM n)) (m - kM n)).length ≤ 1073741824 by rw [incM_length]; have := depM_lt (ss.drop (kM n)).length (m - kM n); rw [List.length_drop] at this ⊢; omega)
      have HL := Lib.hid (fun W hW => ih (n - kM n) (by omega) (oa.map (·.add (kM n))) (cap - kM n) (m - kM n) (ss.drop (kM n)) (by rw [List.length_drop]; omega) (by omega) (by omega) (by omega) (by omega) (hz.drop _) W hW)
      have HRR := Lib.hid (fun W hW => rroot_any (kM n) oa cap (ss.take (kM n)) (by rw [List.length_take]; omega) (by omega) (by omega) (hz.take _) W hW)
      have hik' : ¬ (m : Int) < (kM n : Int) := by omega
      have hwr : IntKind.i64.wrap ((m : Int) - (kM n : Int)) = ((m - kM n : Nat) : Int) := by rw [IntKind.wrap_i64]; omega
      generalize ss.take (kM n) = s1 at *
      generalize ss.drop (kM n) = s2 at *
      generalize incM ss m = R at *
      generalize m - kM n = d at *
      generalize incM s2 d = R1 at *
      generalize rootM s1 = R2 at *
      generalize kM n = k at *
      generalize oa.map (·.add k) = ob at *
      clear ih hz hc0 hn
      go_enter Try.func21, Try.ntmps21
      go_wp2_with fail
      refine (HP.out _).mono ?_
      rintro e w' ⟨rfl, hw⟩
      rw [hw]
      clear hw
      go_wp2
      have HKP : Hid (∀ W, Below w0.heap.size w0 W → Below w0.heap.size w0 W) := Lib.hid fun W hW => hW
      go_region_held3 (fun w' => Below w0.heap.size w0 w')
        ((refine HKP.out _ ?_; first | exact hB3' | exact hB2'.alloc hB2'.size _ | exact hB2' | exact hB1' | exact (Below.refl _ _).drew | exact Below.refl _ _))
        (first
          | (have := hB1'; go_at_call 19; refine (HRR.out _ (HC1.out.below hB1')).mono ?_; rintro e w2 ⟨rfl, hb2⟩; have hB2' : Below w0.heap.size w0 w2 := hB1'.trans (hb2.mono hB1'.size))
          | (go_at_call 21; refine (HL.out _ (HC2.out.below (Below.refl _ _).drew)).mono ?_; rintro e w1 ⟨v, rfl, hown, hb1⟩; have hB1' : Below w0.heap.size w0 w1 := (Below.refl _ _).drew.trans hb1)
          | (have := hB2'; (refine step_append_txt (by rfl) _ _ (by rfl) w0.heap.size v R1 (by rfl) (Own.below hown hb2) R2 (by rfl) HIL.out hB2'.size ?_; intro g2 cap2 w3 hown2 hgr2; have hB3' : Below w0.heap.size w0 w3 := hB2'.grown hgr2 hB2'.size (fun q hq => (World.ownsRow.lt hown q hq).1))))
      rw [← HI.out] at hown2
      go_wp2
      rw [HRT.out]
      exact ⟨_, rfl, hown2, hB3'⟩
  · obtain rfl : n = 1 := by omega
    have HI := Lib.hid (incM_one m hn)
    clear ih hz hc0 hn h2n
    go_enter Try.func21, Try.ntmps21
    go_wp2
    rw [HRT.out, HI.out]
    exact ⟨_, rfl, own_nil _ _, Below.refl _ _⟩
end Go.Proofs.Ytigmkhgaoamdkaa

/-
  Consistency proofs: the reference's.
-/
import Derived.Test.YtigmkhgaoamdkaaMRefR
namespace Go.Proofs.Ytigmkhgaoamdkaa
open Go.RowKit

set_option maxRecDepth 100000 in
set_option maxHeartbeats 8000000 in
theorem rcon_any (n : Nat) : ∀ (oa : Option Addr) (cap m : Nat) (b : Bool) (ss : List ByteArray) (_ : ss.length = n) (_ : 1 ≤ n) (_ : n ≤ 64) (_ : n ≤ cap) (_ : 1 ≤ m) (_ : m ≤ n) (_ : Sz ss) (w0 : World) (_ : Strs w0 oa ss),
    Calls Try.prog 22 #[.slice oa n cap, .int .i64 m, .bool b] w0 (RT (conM ss m b) w0) := by
  induction n using Nat.strongRecOn with
  | _ n ih =>
  intro oa cap m b ss hn hn0 hm hcap hm1 hmn hz w0 hc
  have HRT := Lib.hid (show ∀ e w', RT (conM ss m b) w0 e w' = ∃ v, e = .returned v ∧ Own w' w0.heap.size v (conM ss m b) ∧ Below w0.heap.size w0 w' from fun _ _ => rfl)
  generalize RT (conM ss m b) w0 = PO at *
  have hc0 := hc
  clear hc
  by_cases h2 : m ≠ n
  · have hnm : ((m : Int) == (n : Int)) = false := by rw [beq_eq_false_iff_ne]; omega
    have h2n : 2 ≤ n := by omega
    have HP := Lib.hid (fun W => half_any n h2n hm W)
    have hk1 := kM_lt h2n
    have hk0 := kM_pos n
    have hs1 := slice_to oa n cap (kM n) (by omega)
    have hs2 := slice_on oa n cap (kM n) hk1 hcap
    have HC1 := Lib.hid (hc0.take (kM n))
    have HC2 := Lib.hid (hc0.drop (kM n))
    by_cases hik : m ≤ kM n
    · have HI := Lib.hid (conM_left hn h2n h2 hik (b := b))
      have HIL := Lib.hid (show (conM (ss.take (kM n)) m b).length ≤ 1073741824 by rw [conM_length]; have := lenM_le (ss.take (kM n)).length m b; rw [List.length_take] at this ⊢; omega)
      have HL := Lib.hid (fun W hW => ih (kM n) hk1 oa cap m b (ss.take (kM n)) (by rw [List.length_take]; omega) (by omega) (by omega) (by omega) hm1 hik (hz.take _) W hW)
      have HRR := Lib.hid (fun W hW => rroot_any (n - kM n) (oa.map (·.add (kM n))) (cap - kM n) (ss.drop (kM n)) (by rw [List.length_drop]; omega) (by omega) (by omega) (hz.drop _) W hW)
      have hik' : (m : Int) ≤ (kM n : Int) := by omega
      generalize ss.take (kM n) = s1 at *
      generalize ss.drop (kM n) = s2 at *
      generalize conM ss m b = R at *
      generalize conM s1 m b = R1 at *
      generalize rootM s2 = R2 at *
      generalize kM n = k at *
      generalize oa.map (·.add k) = ob at *
      clear ih hz hc0 hn
      go_enter Try.func22, Try.ntmps22
      go_wp2_with fail
      refine (HP.out _).mono ?_
      rintro e w' ⟨rfl, hw⟩
      rw [hw]
      clear hw
      go_wp2
      have HKP : Hid (∀ W, Below w0.heap.size w0 W → Below w0.heap.size w0 W) := Lib.hid fun W hW => hW
      go_region_held3 (fun w' => Below w0.heap.size w0 w')
        ((refine HKP.out _ ?_; first | exact hB3' | exact hB2'.alloc hB2'.size _ | exact hB2' | exact hB1' | exact (Below.refl _ _).drew | exact Below.refl _ _))
        (first
          | (have := hB1'; go_at_call 19; refine (HRR.out _ (HC2.out.below hB1')).mono ?_; rintro e w2 ⟨rfl, hb2⟩; have hB2' : Below w0.heap.size w0 w2 := hB1'.trans (hb2.mono hB1'.size))
          | (go_at_call 22; refine (HL.out _ (HC1.out.below (Below.refl _ _).drew)).mono ?_; rintro e w1 ⟨v, rfl, hown, hb1⟩; have hB1' : Below w0.heap.size w0 w1 := (Below.refl _ _).drew.trans hb1)
          | (have := hB2'; (refine step_append_txt (by rfl) _ _ (by rfl) w0.heap.size v R1 (by rfl) (Own.below hown hb2) R2 (by rfl) HIL.out hB2'.size ?_; intro g2 cap2 w3 hown2 hgr2; have hB3' : Below w0.heap.size w0 w3 := hB2'.grown hgr2 hB2'.size (fun q hq => (World.ownsRow.lt hown q hq).1))))
      rw [← HI.out] at hown2
      go_wp2
      rw [HRT.out]
      exact ⟨_, rfl, hown2, hB3'⟩
    · have HI := Lib.hid (conM_right hn h2n h2 hik (b := b))
      have HIL := Lib.hid (show (conM (ss.drop (kM n)) (m - kM n) false).length ≤ 1073741824 by rw [conM_length]; have := lenM_le (ss.drop (kM n)).length (m - kM n) false; rw [List.length_drop] at this ⊢; omega)
      have HL := Lib.hid (fun W hW => ih (n - kM n) (by omega) (oa.map (·.add (kM n))) (cap - kM n) (m - kM n) false (ss.drop (kM n)) (by rw [List.length_drop]; omega) (by omega) (by omega) (by omega) (by omega) (by omega) (hz.drop _) W hW)
      have HRR := Lib.hid (fun W hW => rroot_any (kM n) oa cap (ss.take (kM n)) (by rw [List.length_take]; omega) (by omega) (by omega) (hz.take _) W hW)
      have hik' : ¬ (m : Int) ≤ (kM n : Int) := by omega
      have hwr : IntKind.i64.wrap ((m : Int) - (kM n : Int)) = ((m - kM n : Nat) : Int) := by rw [IntKind.wrap_i64]; omega
      generalize ss.take (kM n) = s1 at *
      generalize ss.drop (kM n) = s2 at *
      generalize conM ss m b = R at *
      generalize m - kM n = d at *
      generalize conM s2 d false = R1 at *
      generalize rootM s1 = R2 at *
      generalize kM n = k at *
      generalize oa.map (·.add k) = ob at *
      clear ih hz hc0 hn
      go_enter Try.func22, Try.ntmps22
      go_wp2_with fail
      refine (HP.out _).mono ?_
      rintro e w' ⟨rfl, hw⟩
      rw [hw]
      clear hw
      go_wp2
      have HKP : Hid (∀ W, Below w0.heap.size w0 W → Below w0.heap.size w0 W) := Lib.hid fun W hW => hW
      go_region_held3 (fun w' => Below w0.heap.size w0 w')
        ((refine HKP.out _ ?_; first | exact hB3' | exact hB2'.alloc hB2'.size _ | exact hB2' | exact hB1' | exact (Below.refl _ _).drew | exact Below.refl _ _))
        (first
          | (have := hB1'; go_at_call 19; refine (HRR.out _ (HC1.out.below hB1')).mono ?_; rintro e w2 ⟨rfl, hb2⟩; have hB2' : Below w0.heap.size w0 w2 := hB1'.trans (hb2.mono hB1'.size))
          | (go_at_call 22; refine (HL.out _ (HC2.out.below (Below.refl _ _).drew)).mono ?_; rintro e w1 ⟨v, rfl, hown, hb1⟩; have hB1' : Below w0.heap.size w0 w1 := (Below.refl _ _).drew.trans hb1)
          | (have := hB2'; (refine step_append_txt (by rfl) _ _ (by rfl) w0.heap.size v R1 (by rfl) (Own.below hown hb2) R2 (by rfl) HIL.out hB2'.size ?_; intro g2 cap2 w3 hown2 hgr2; have hB3' : Below w0.heap.size w0 w3 := hB2'.grown hgr2 hB2'.size (fun q hq => (World.ownsRow.lt hown q hq).1))))
      rw [← HI.out] at hown2
      go_wp2
      rw [HRT.out]
      exact ⟨_, rfl, hown2, hB3'⟩
  · obtain rfl : m = n := by omega
    have hnm : ((m : Int) == (m : Int)) = true := by rw [beq_iff_eq]
    cases b with
    | true =>
      have HI := Lib.hid (conM_true hn)
      clear ih hz hc0 hn h2
      go_enter Try.func22, Try.ntmps22
      go_wp2
      rw [HRT.out, HI.out]
      exact ⟨_, rfl, own_nil _ _, Below.refl _ _⟩
    | false =>
      have HI := Lib.hid (conM_false hn)
      have HR := Lib.hid (fun W hW => rroot_any m oa cap ss hn hm hcap hz W hW)
      have HC := Lib.hid hc0
      generalize rootM ss = R at *
      clear ih hz hc0 hn h2
      go_enter Try.func22, Try.ntmps22
      go_wp2_with fail
      refine (HR.out _ HC.out).mono ?_
      rintro e w1 ⟨rfl, hB1⟩
      have hB2 := hB1
      have hB3 := hB2.alloc hB2.size (.cells #[.string R] 9)
      have hown := (own_one w1 R).mono (B' := w0.heap.size) hB2.size
      clear hB1 hB2 
      go_wp2
      rw [HRT.out, HI.out]
      exact ⟨_, rfl, hown, hB3⟩
end Go.Proofs.Ytigmkhgaoamdkaa

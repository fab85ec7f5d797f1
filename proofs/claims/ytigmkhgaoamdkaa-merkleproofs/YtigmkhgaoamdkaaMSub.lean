/-
  Consistency proofs: the program's.
-/
import Derived.Test.YtigmkhgaoamdkaaMPath
namespace Go.Proofs.Ytigmkhgaoamdkaa
open Go.RowKit

theorem conM_true {ss : List ByteArray} {n : Nat} (hn : ss.length = n) : conM ss n true = [] := by rw [conM, if_pos hn.symm, if_pos rfl]
theorem conM_false {ss : List ByteArray} {n : Nat} (hn : ss.length = n) : conM ss n false = [rootM ss] := by rw [conM, if_pos hn.symm]; rfl
theorem conM_left {ss : List ByteArray} {n m : Nat} {b : Bool} (hn : ss.length = n) (h2 : 2 ≤ n) (h1 : m ≠ n) (hi : m ≤ kM n) : conM ss m b = conM (ss.take (kM n)) m b ++ [rootM (ss.drop (kM n))] := by
  subst hn; rw [conM, if_neg h1, dif_pos h2, if_pos hi]
theorem conM_right {ss : List ByteArray} {n m : Nat} {b : Bool} (hn : ss.length = n) (h2 : 2 ≤ n) (h1 : m ≠ n) (hi : ¬ m ≤ kM n) : conM ss m b = conM (ss.drop (kM n)) (m - kM n) false ++ [rootM (ss.take (kM n))] := by
  subst hn; rw [conM, if_neg h1, dif_pos h2, if_neg hi]
theorem lenM_le (n : Nat) : ∀ m b, lenM m n b ≤ n + 1 := by
  induction n using Nat.strongRecOn with
  | _ n ih =>
    intro m b
    rw [lenM]
    split
    · split <;> omega
    · split
      · rename_i h2
        have hk := kM_lt h2
        have hk0 := kM_pos n
        split
        · have := ih _ hk m b; omega
        · have := ih (n - kM n) (by omega) (m - kM n) false; omega
      · omega
theorem own_one (W : World) (y : ByteArray) : Own (W.alloc (.cells #[.string y] 9)) W.heap.size (.slice (some ⟨W.heap.size, 0, none⟩) 1 1) [y] :=
  ⟨rfl, .inr ⟨W.heap.size, 1, #[.string y], rfl, Nat.le_refl _, Blk.new _ _ _, Nat.le_refl _, by decide, rfl, rfl⟩⟩

section
attribute [-go_sem] loadVar
set_option maxRecDepth 100000 in
set_option maxHeartbeats 8000000 in
theorem sub_any (n : Nat) : ∀ (oa : Option Addr) (cap m : Nat) (b : Bool) (ss : List ByteArray) (_ : ss.length = n) (_ : 1 ≤ n) (_ : n ≤ 256) (_ : n ≤ cap) (_ : 1 ≤ m) (_ : m ≤ n) (_ : Sz ss) (w : World) (_ : Strs w oa ss),
    Calls Try.prog 31 #[.agg tabV, .slice oa n cap, .int .i64 m, .bool b] w (RT (conM ss m b) w) := by
  induction n using Nat.strongRecOn with
  | _ n ih =>
  intro oa cap m b ss hn hn0 hm hcap hm1 hmn hz w hc
  have HRT := Lib.hid (show ∀ e w', RT (conM ss m b) w e w' = ∃ v, e = .returned v ∧ Own w' w.heap.size v (conM ss m b) ∧ Below w.heap.size w w' from fun _ _ => rfl)
  generalize RT (conM ss m b) w = PO at *
  have hB0 := (Below.refl _ w).alloc (Nat.le_refl _) (.cells tabV 30)
  have hT : Blk (w.alloc (.cells tabV 30)) w.heap.size 30 tabV := Blk.new _ _ _
  have hc0 := hc.below hB0
  clear hc
  by_cases h2 : m ≠ n
  · have hnm : ((m : Int) == (n : Int)) = false := by rw [beq_eq_false_iff_ne]; omega
    have h2n : 2 ≤ n := by omega
    have HP := Lib.hid (fun W => parting_any n h2n hm W)
    have hk1 := kM_lt h2n
    have hk0 := kM_pos n
    have hs1 := slice_to oa n cap (kM n) (by omega)
    have hs2 := slice_on oa n cap (kM n) hk1 hcap
    have HC1 := Lib.hid (hc0.take (kM n))
    have HC2 := Lib.hid (hc0.drop (kM n))
    by_cases hik : m ≤ kM n
    · have HI := Lib.hid (conM_left hn h2n h2 hik (b := b))
      have HIL := Lib.hid (show (conM (ss.take (kM n)) m b).length ≤ 1073741824 by rw [conM_length]; have := lenM_le (ss.take (kM n)).length m b; rw [List.length_take] at this ⊢; omega)
      have HL := Lib.hid (fun W hW => ih (kM n) hk1 oa cap m b (ss.take (kM n)) (by rw [List.length_take]; omega) (by omega) (by omega) (by omega) hm1 hik (hz.take _) W hW)
      have HRR := Lib.hid (fun W hW => mroot_any (n - kM n) (oa.map (·.add (kM n))) (cap - kM n) (ss.drop (kM n)) (by rw [List.length_drop]; omega) (by omega) (by omega) (hz.drop _) W hW)
      have hik' : (m : Int) ≤ (kM n : Int) := by omega
      generalize ss.take (kM n) = s1 at *
      generalize ss.drop (kM n) = s2 at *
      generalize conM ss m b = R at *
      generalize conM s1 m b = R1 at *
      generalize rootM s2 = R2 at *
      generalize kM n = k at *
      generalize oa.map (·.add k) = ob at *
      clear ih hz hc0 hn
      go_enter Try.func31, Try.ntmps31
      go_wp2_with fail
      refine (HP.out _).mono ?_
      rintro e w' ⟨rfl, rfl⟩
      go_wp2
      generalize w.alloc (.cells tabV 30) = w0 at *
      obtain ⟨B, hBB⟩ : ∃ B, w.heap.size = B := ⟨_, rfl⟩
      rw [hBB] at hB0 hT ⊢
      have HBB := Lib.hid hBB
      clear hBB
      have HKP : Hid (∀ W, Below w0.heap.size w0 W → (loadVar 30 ⟨B, 0, none⟩).run Try.prog W = .ok (.agg tabV) W ∧ Below w0.heap.size w0 W) := Lib.hid fun W hW => ⟨tab_run (hT.below hW hT.lt), hW⟩
      clear hT
      go_region_held3 (fun w' => (loadVar 30 ⟨B, 0, none⟩).run Try.prog w' = .ok (.agg tabV) w' ∧ Below w0.heap.size w0 w')
        ((refine HKP.out _ ?_; first | exact hB3' | exact hB2'.alloc hB2'.size _ | exact hB2' | exact hB1' | exact (Below.refl _ _).drew | exact Below.refl _ _))
        (first
          | (have := hB1'; go_at_call 14; refine (HRR.out _ (HC2.out.below hB1')).mono ?_; rintro e w2 ⟨rfl, hb2⟩; have hB2' : Below w0.heap.size w0 w2 := hB1'.trans (hb2.mono hB1'.size))
          | (go_at_call 31; refine (HL.out _ (HC1.out.below (Below.refl _ _).drew)).mono ?_; rintro e w1 ⟨v, rfl, hown, hb1⟩; have hB1' : Below w0.heap.size w0 w1 := (Below.refl _ _).drew.trans hb1)
          | (have := hB2'; (refine step_append_txt (by rfl) _ _ (by rfl) w0.heap.size v R1 (by rfl) (Own.below hown hb2) R2 (by rfl) HIL.out hB2'.size ?_; intro g2 cap2 w3 hown2 hgr2; have hB3' : Below w0.heap.size w0 w3 := hB2'.grown hgr2 hB2'.size (fun q hq => (World.ownsRow.lt hown q hq).1))))
      rw [← HI.out] at hown2
      have hB6 := hB0.trans (hB3'.mono (by have := hB0.size; have := HBB.out; omega))
      have hown3 := hown2.mono (B' := B) (by have := hB0.size; have := HBB.out; omega)
      rw [← HBB.out] at hB6 hown3
      go_wp2
      rw [HRT.out]
      exact ⟨_, rfl, hown3, hB6⟩
    · have HI := Lib.hid (conM_right hn h2n h2 hik (b := b))
      have HIL := Lib.hid (show (conM (ss.drop (kM n)) (m - kM n) false).length ≤ 1073741824 by rw [conM_length]; have := lenM_le (ss.drop (kM n)).length (m - kM n) false; rw [List.length_drop] at this ⊢; omega)
      have HL := Lib.hid (fun W hW => ih (n - kM n) (by omega) (oa.map (·.add (kM n))) (cap - kM n) (m - kM n) false (ss.drop (kM n)) (by rw [List.length_drop]; omega) (by omega) (by omega) (by omega) (by omega) (by omega) (hz.drop _) W hW)
      have HRR := Lib.hid (fun W hW => mroot_any (kM n) oa cap (ss.take (kM n)) (by rw [List.length_take]; omega) (by omega) (by omega) (hz.take _) W hW)
      have hik' : ¬ (m : Int) ≤ (kM n : Int) := by omega
      have hwr : IntKind.i64.wrap ((m : Int) - (kM n : Int)) = ((m - kM n : Nat) : Int) := by rw [IntKind.wrap_i64]; omega
      generalize ss.take (kM n) = s1 at *
      generalize ss.drop (kM n) = s2 at *
      generalize conM ss m b = R at *
      generalize m - kM n = d at *
      generalize conM s2 d false = R1 at *
      generalize rootM s1 = R2 at *
      generalize kM n = k at *
      generalize oa.map (·.add k) = ob at *
      clear ih hz hc0 hn
      go_enter Try.func31, Try.ntmps31
      go_wp2_with fail
      refine (HP.out _).mono ?_
      rintro e w' ⟨rfl, rfl⟩
      go_wp2
      generalize w.alloc (.cells tabV 30) = w0 at *
      obtain ⟨B, hBB⟩ : ∃ B, w.heap.size = B := ⟨_, rfl⟩
      rw [hBB] at hB0 hT ⊢
      have HBB := Lib.hid hBB
      clear hBB
      have HKP : Hid (∀ W, Below w0.heap.size w0 W → (loadVar 30 ⟨B, 0, none⟩).run Try.prog W = .ok (.agg tabV) W ∧ Below w0.heap.size w0 W) := Lib.hid fun W hW => ⟨tab_run (hT.below hW hT.lt), hW⟩
      clear hT
      go_region_held3 (fun w' => (loadVar 30 ⟨B, 0, none⟩).run Try.prog w' = .ok (.agg tabV) w' ∧ Below w0.heap.size w0 w')
        ((refine HKP.out _ ?_; first | exact hB3' | exact hB2'.alloc hB2'.size _ | exact hB2' | exact hB1' | exact (Below.refl _ _).drew | exact Below.refl _ _))
        (first
          | (have := hB1'; go_at_call 14; refine (HRR.out _ (HC1.out.below hB1')).mono ?_; rintro e w2 ⟨rfl, hb2⟩; have hB2' : Below w0.heap.size w0 w2 := hB1'.trans (hb2.mono hB1'.size))
          | (go_at_call 31; refine (HL.out _ (HC2.out.below (Below.refl _ _).drew)).mono ?_; rintro e w1 ⟨v, rfl, hown, hb1⟩; have hB1' : Below w0.heap.size w0 w1 := (Below.refl _ _).drew.trans hb1)
          | (have := hB2'; (refine step_append_txt (by rfl) _ _ (by rfl) w0.heap.size v R1 (by rfl) (Own.below hown hb2) R2 (by rfl) HIL.out hB2'.size ?_; intro g2 cap2 w3 hown2 hgr2; have hB3' : Below w0.heap.size w0 w3 := hB2'.grown hgr2 hB2'.size (fun q hq => (World.ownsRow.lt hown q hq).1))))
      rw [← HI.out] at hown2
      have hB6 := hB0.trans (hB3'.mono (by have := hB0.size; have := HBB.out; omega))
      have hown3 := hown2.mono (B' := B) (by have := hB0.size; have := HBB.out; omega)
      rw [← HBB.out] at hB6 hown3
      go_wp2
      rw [HRT.out]
      exact ⟨_, rfl, hown3, hB6⟩
  · obtain rfl : m = n := by omega
    have hnm : ((m : Int) == (m : Int)) = true := by rw [beq_iff_eq]
    cases b with
    | true =>
      have HI := Lib.hid (conM_true hn)
      clear ih hz hc0 hn h2 hT
      go_enter Try.func31, Try.ntmps31
      go_wp2
      rw [HRT.out, HI.out]
      exact ⟨_, rfl, own_nil _ _, hB0⟩
    | false =>
      have HI := Lib.hid (conM_false hn)
      have HR := Lib.hid (fun W hW => mroot_any m oa cap ss hn hm hcap hz W hW)
      have HC := Lib.hid hc0
      have hT1 := tab_run hT
      generalize rootM ss = R at *
      clear ih hz hc0 hn h2 hT
      go_enter Try.func31, Try.ntmps31
      go_wp2_with fail
      refine (HR.out _ HC.out).mono ?_
      rintro e w1 ⟨rfl, hB1⟩
      have hB2 := hB0.trans (hB1.mono hB0.size)
      have hB3 := hB2.alloc hB2.size (.cells #[.string R] 9)
      have hown := (own_one w1 R).mono (B' := w.heap.size) hB2.size
      clear hB1 hB2 hB0 hT1
      go_wp2
      rw [HRT.out, HI.out]
      exact ⟨_, rfl, hown, hB3⟩
end
end Go.Proofs.Ytigmkhgaoamdkaa

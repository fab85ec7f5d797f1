/-
  Inclusion proofs: the program's.
-/
import Derived.Test.YtigmkhgaoamdkaaMRoot
namespace Go.Proofs.Ytigmkhgaoamdkaa
open Go.RowKit

theorem incM_left {ss : List ByteArray} {n i : Nat} (hn : ss.length = n) (h2 : 2 ≤ n) (hi : i < kM n) : incM ss i = incM (ss.take (kM n)) i ++ [rootM (ss.drop (kM n))] := by
  subst hn; rw [incM, dif_pos h2, if_pos hi]
theorem incM_right {ss : List ByteArray} {n i : Nat} (hn : ss.length = n) (h2 : 2 ≤ n) (hi : ¬ i < kM n) : incM ss i = incM (ss.drop (kM n)) (i - kM n) ++ [rootM (ss.take (kM n))] := by
  subst hn; rw [incM, dif_pos h2, if_neg hi]
theorem incM_one {ss : List ByteArray} (i : Nat) (hn : ss.length = 1) : incM ss i = [] := by rw [incM, dif_neg (by omega)]
theorem depM_lt (n : Nat) : ∀ i, depM i n ≤ n := by
  induction n using Nat.strongRecOn with
  | _ n ih =>
    intro i
    rw [depM]
    split
    · rename_i h2
      have hk := kM_lt h2
      have hk0 := kM_pos n
      split
      · have := ih _ hk i; omega
      · have := ih (n - kM n) (by omega) (i - kM n); omega
    · omega

section
attribute [-go_sem] loadVar
set_option maxRecDepth 100000 in
set_option maxHeartbeats 4000000 in
theorem path_any (n : Nat) : ∀ (oa : Option Addr) (cap i : Nat) (ss : List ByteArray) (_ : ss.length = n) (_ : 1 ≤ n) (_ : n ≤ 256) (_ : n ≤ cap) (_ : i < n) (_ : Sz ss) (w : World) (_ : Strs w oa ss),
    Calls Try.prog 36 #[.agg tabV, .slice oa n cap, .int .i64 i] w (RT (incM ss i) w) := by
  induction n using Nat.strongRecOn with
  | _ n ih =>
  intro oa cap i ss hn hn0 hm hcap hi hz w hc
  have HRT := Lib.hid (show ∀ e w', RT (incM ss i) w e w' = ∃ v, e = .returned v ∧ Own w' w.heap.size v (incM ss i) ∧ Below w.heap.size w w' from fun _ _ => rfl)
  generalize RT (incM ss i) w = PO at *
  have hB0 := (Below.refl _ w).alloc (Nat.le_refl _) (.cells tabV 30)
  have hT : Blk (w.alloc (.cells tabV 30)) w.heap.size 30 tabV := Blk.new _ _ _
  have hc0 := hc.below hB0
  clear hc
  by_cases h2 : 2 ≤ n
  · have hn1 : ((n : Int) == 1) = false := by rw [beq_eq_false_iff_ne]; omega
    have HP := Lib.hid (fun W => parting_any n h2 hm W)
    have hk1 := kM_lt h2
    have hk0 := kM_pos n
    have hs1 := slice_to oa n cap (kM n) (by omega)
    have hs2 := slice_on oa n cap (kM n) hk1 hcap
    have HC1 := Lib.hid (hc0.take (kM n))
    have HC2 := Lib.hid (hc0.drop (kM n))
    by_cases hik : i < kM n
    · have HI := Lib.hid (incM_left hn h2 hik)
      have HIL := Lib.hid (show (incM (ss.take (kM n)) i).length ≤ 1073741824 by rw [incM_length]; have := depM_lt (ss.take (kM n)).length i; rw [List.length_take] at this ⊢; omega)
      have HL := Lib.hid (fun W hW => ih (kM n) hk1 oa cap i (ss.take (kM n)) (by rw [List.length_take]; omega) (by omega) (by omega) (by omega) hik (hz.take _) W hW)
      have HRR := Lib.hid (fun W hW => mroot_any (n - kM n) (oa.map (·.add (kM n))) (cap - kM n) (ss.drop (kM n)) (by rw [List.length_drop]; omega) (by omega) (by omega) (hz.drop _) W hW)
      have hik' : (i : Int) < (kM n : Int) := by omega
      generalize ss.take (kM n) = s1 at *
      generalize ss.drop (kM n) = s2 at *
      generalize incM ss i = R at *
      generalize incM s1 i = R1 at *
      generalize rootM s2 = R2 at *
      generalize kM n = k at *
      generalize oa.map (·.add k) = ob at *
      clear ih hz hc0 hn
      go_enter Try.func36, Try.ntmps36
      go_wp2_with fail
      refine (HP.out _).mono ?_
      rintro e w' ⟨rfl, rfl⟩
      go_wp2
      generalize w.alloc (.cells tabV 30) = w0 at *
      obtain ⟨B, hBB⟩ : ∃ B, w.heap.size = B := ⟨_, rfl⟩
      rw [hBB] at hB0 hT ⊢
      have HBB := Lib.hid hBB
      clear hBB
      have HKP : Hid (∀ W, Below w0.heap.size w0 W → (loadVar 30 ⟨B, 0, none⟩).run Try.prog W = .ok (.agg tabV) W ∧ Below w0.heap.size w0 W) := Lib.hid fun W hW => ⟨tab_run (hT.below hW hT.lt), hW⟩
      clear hT
      go_region_held3 (fun w' => (loadVar 30 ⟨B, 0, none⟩).run Try.prog w' = .ok (.agg tabV) w' ∧ Below w0.heap.size w0 w')
        ((refine HKP.out _ ?_; first | exact hB3' | exact hB2'.alloc hB2'.size _ | exact hB2' | exact hB1' | exact (Below.refl _ _).drew | exact Below.refl _ _))
        (first
          | (have := hB1'; go_at_call 14; refine (HRR.out _ (HC2.out.below hB1')).mono ?_; rintro e w2 ⟨rfl, hb2⟩; have hB2' : Below w0.heap.size w0 w2 := hB1'.trans (hb2.mono hB1'.size))
          | (go_at_call 36; refine (HL.out _ (HC1.out.below (Below.refl _ _).drew)).mono ?_; rintro e w1 ⟨v, rfl, hown, hb1⟩; have hB1' : Below w0.heap.size w0 w1 := (Below.refl _ _).drew.trans hb1)
          | (have := hB2'; (refine step_append_txt (by rfl) _ _ (by rfl) w0.heap.size v R1 (by rfl) (Own.below hown hb2) R2 (by rfl) HIL.out hB2'.size ?_; intro g2 cap2 w3 hown2 hgr2; have hB3' : Below w0.heap.size w0 w3 := hB2'.grown hgr2 hB2'.size (fun q hq => (World.ownsRow.lt hown q hq).1))))
      rw [← HI.out] at hown2
      have hB6 := hB0.trans (hB3'.mono (by have := hB0.size; have := HBB.out; omega))
      have hown3 := hown2.mono (B' := B) (by have := hB0.size; have := HBB.out; omega)
      rw [← HBB.out] at hB6 hown3
      go_wp2
      rw [HRT.out]
      exact ⟨_, rfl, hown3, hB6⟩
    · have HI := Lib.hid (incM_right hn h2 hik)
      have HIL := Lib.hid (show (incM (ss.drop (kM n)) (i - kM n)).length ≤ 1073741824 by rw [incM_length]; have := depM_lt (ss.drop (kM n)).length (i - kM n); rw [List.length_drop] at this ⊢; omega)
      have HL := Lib.hid (fun W hW => ih (n - kM n) (by omega) (oa.map (·.add (kM n))) (cap - kM n) (i - kM n) (ss.drop (kM n)) (by rw [List.length_drop]; omega) (by omega) (by omega) (by omega) (by omega) (hz.drop _) W hW)
      have HRR := Lib.hid (fun W hW => mroot_any (kM n) oa cap (ss.take (kM n)) (by rw [List.length_take]; omega) (by omega) (by omega) (hz.take _) W hW)
      have hik' : ¬ (i : Int) < (kM n : Int) := by omega
      have hwr : IntKind.i64.wrap ((i : Int) - (kM n : Int)) = ((i - kM n : Nat) : Int) := by rw [IntKind.wrap_i64]; omega
      generalize ss.take (kM n) = s1 at *
      generalize ss.drop (kM n) = s2 at *
      generalize incM ss i = R at *
      generalize i - kM n = d at *
      generalize incM s2 d = R1 at *
      generalize rootM s1 = R2 at *
      generalize kM n = k at *
      generalize oa.map (·.add k) = ob at *
      clear ih hz hc0 hn
      go_enter Try.func36, Try.ntmps36
      go_wp2_with fail
      refine (HP.out _).mono ?_
      rintro e w' ⟨rfl, rfl⟩
      go_wp2
      generalize w.alloc (.cells tabV 30) = w0 at *
      obtain ⟨B, hBB⟩ : ∃ B, w.heap.size = B := ⟨_, rfl⟩
      rw [hBB] at hB0 hT ⊢
      have HBB := Lib.hid hBB
      clear hBB
      have HKP : Hid (∀ W, Below w0.heap.size w0 W → (loadVar 30 ⟨B, 0, none⟩).run Try.prog W = .ok (.agg tabV) W ∧ Below w0.heap.size w0 W) := Lib.hid fun W hW => ⟨tab_run (hT.below hW hT.lt), hW⟩
      clear hT
      go_region_held3 (fun w' => (loadVar 30 ⟨B, 0, none⟩).run Try.prog w' = .ok (.agg tabV) w' ∧ Below w0.heap.size w0 w')
        ((refine HKP.out _ ?_; first | exact hB3' | exact hB2'.alloc hB2'.size _ | exact hB2' | exact hB1' | exact (Below.refl _ _).drew | exact Below.refl _ _))
        (first
          | (have := hB1'; go_at_call 14; refine (HRR.out _ (HC1.out.below hB1')).mono ?_; rintro e w2 ⟨rfl, hb2⟩; have hB2' : Below w0.heap.size w0 w2 := hB1'.trans (hb2.mono hB1'.size))
          | (go_at_call 36; refine (HL.out _ (HC2.out.below (Below.refl _ _).drew)).mono ?_; rintro e w1 ⟨v, rfl, hown, hb1⟩; have hB1' : Below w0.heap.size w0 w1 := (Below.refl _ _).drew.trans hb1)
          | (have := hB2'; (refine step_append_txt (by rfl) _ _ (by rfl) w0.heap.size v R1 (by rfl) (Own.below hown hb2) R2 (by rfl) HIL.out hB2'.size ?_; intro g2 cap2 w3 hown2 hgr2; have hB3' : Below w0.heap.size w0 w3 := hB2'.grown hgr2 hB2'.size (fun q hq => (World.ownsRow.lt hown q hq).1))))
      rw [← HI.out] at hown2
      have hB6 := hB0.trans (hB3'.mono (by have := hB0.size; have := HBB.out; omega))
      have hown3 := hown2.mono (B' := B) (by have := hB0.size; have := HBB.out; omega)
      rw [← HBB.out] at hB6 hown3
      go_wp2
      rw [HRT.out]
      exact ⟨_, rfl, hown3, hB6⟩
  · obtain rfl : n = 1 := by omega
    have HI := Lib.hid (incM_one i hn)
    clear ih hz hc0 hn h2 hT
    go_enter Try.func36, Try.ntmps36
    go_wp2
    rw [HRT.out, HI.out]
    exact ⟨_, rfl, own_nil _ _, hB0⟩
end
end Go.Proofs.Ytigmkhgaoamdkaa

/-
  Roots: the reference's. A region that draws its order, level by level: what may come up is told by which operations are listed.
-/
import Derived.Test.YtakgolbgeeoioaaGreatMMathMRoot
import Derived.Test.YtakgolbgeeoioaaGreatMRefLSRefAHSBitMSPairSRefAMHStep
namespace Go.Proofs.YtakgolbgeeoioaaGreat
open Go.RowKit

set_option maxRecDepth 100000 in
set_option maxHeartbeats 4000000 in
theorem rroot_any (n : Nat) : ∀ (oa : Option Addr) (cap : Nat) (ss : List ByteArray) (_ : ss.length = n) (_ : n ≤ 64) (_ : n ≤ cap) (_ : Sz ss) (w0 : World) (_ : Strs w0 oa ss),
 Calls Tryz.prog 51 #[.slice oa n cap] w0 fun e w' => e = .returned (.string (rootM ss)) ∧ Below w0.heap.size w0 w' := by
 induction n using Nat.strongRecOn with
 | _ n ih =>
 intro oa cap ss hn hm hcap hz w0 hc0
 by_cases h2 : 2 ≤ n
 · have hn0 : ((n : Int) == 0) = false := by rw [beq_eq_false_iff_ne]; omega
   have hn1 : ((n : Int) == 1) = false := by rw [beq_eq_false_iff_ne]; omega
   have HP := Lib.hid (fun W => half_any n h2 hm W)
   have hk1 := kM_lt h2
   have hk0 := kM_pos n
   have HR := Lib.hid (show rootM ss = nodM (rootM (ss.take (kM n))) (rootM (ss.drop (kM n))) by rw [rootM_more (by omega), hn])
   have HL := Lib.hid (fun W hW => ih (kM n) hk1 oa cap (ss.take (kM n)) (by rw [List.length_take]; omega) (by omega) (by omega) (hz.take _) W hW)
   have HRR := Lib.hid (fun W hW => ih (n - kM n) (by omega) (oa.map (·.add (kM n))) (cap - kM n) (ss.drop (kM n)) (by rw [List.length_drop]; omega) (by omega) (by omega) (hz.drop _) W hW)
   have z1 := rootM_sz (hz.take (kM n))
   have z2 := rootM_sz (hz.drop (kM n))
   have hs1 := slice_to oa n cap (kM n) (by omega)
   have hs2 := slice_on oa n cap (kM n) hk1 hcap
   have HC1 := Lib.hid (hc0.take (kM n))
   have HC2 := Lib.hid (hc0.drop (kM n))
   generalize ss.take (kM n) = s1 at *
   generalize ss.drop (kM n) = s2 at *
   generalize rootM ss = R at *
   generalize rootM s1 = R1 at *
   generalize rootM s2 = R2 at *
   have z0 : (⟨#[1]⟩ : ByteArray).size = 1 := rfl
   have r1 := addRun (a := ⟨#[1]⟩) (b := R1) (by omega)
   have r2 := addRun (a := ⟨#[1]⟩ ++ R1) (b := R2) (by simp only [ByteArray.size_append]; omega)
   have HJ := Lib.hid (fun W => rh4_any (⟨#[1]⟩ ++ R1 ++ R2) (by simp only [ByteArray.size_append]; omega) W)
   change Hid (∀ W, Calls Tryz.prog 81 _ W fun e w' => e = .returned (.string (nodM R1 R2)) ∧ Below W.heap.size W w') at HJ
   rw [← HR.out] at HJ
   generalize kM n = k at *
   generalize oa.map (·.add k) = ob at *
   clear HR ih hz hc0 hn z0 z1 z2
   go_enter Tryz.func51, Tryz.ntmps51
   go_wp2_with fail
   refine (HP.out _).mono ?_
   rintro e w' ⟨rfl, hw⟩
   rw [hw]
   clear hw
   go_wp2
   go_region_held3 (fun w' => Below w0.heap.size w0 w')
    ((first | exact hB3' | exact hB2' | exact hB1' | exact (Below.refl _ _).drew | exact Below.refl _ _))
    (first
     | (have := hB2'; go_at_call 81; refine (HJ.out _).mono ?_; rintro e w3 ⟨rfl, hb3⟩; have hB3' : Below w0.heap.size w0 w3 := hB2'.trans (hb3.mono hB2'.size))
     | (have := hB1'; go_at_call 51; refine (HRR.out _ (HC2.out.below hB1')).mono ?_; rintro e w2 ⟨rfl, hb2⟩; have hB2' : Below w0.heap.size w0 w2 := hB1'.trans (hb2.mono hB1'.size))
     | (go_at_call 51; refine (HL.out _ (HC1.out.below (Below.refl _ _).drew)).mono ?_; rintro e w1 ⟨rfl, hb1⟩; have hB1' : Below w0.heap.size w0 w1 := (Below.refl _ _).drew.trans hb1))
   go_wp2
   go_ret
   exact ⟨rfl, hB3'⟩
 · by_cases h1 : n = 1
   · have HR := Lib.hid (rootM_one (l := ss) (by omega))
     have hn1 : n = 1 := h1
     obtain ⟨a, rfl, hab, hcell⟩ := hc0 0 (by omega)
     rw [HR.out]
     generalize ss.getD 0 ByteArray.empty = R at *
     rw [show a.add 0 = a from rfl] at hcell
     subst hn1
     clear HR ih hz hc0 hn h2
     go_enter Tryz.func51, Tryz.ntmps51
     go_wp2
     go_ret
     exact ⟨rfl, Below.refl _ _⟩
   · obtain rfl : n = 0 := by omega
     have HR := Lib.hid (rootM_nil hn)
     have HS := Lib.hid (fun W => rh4_any ⟨#[]⟩ (by decide) W)
     rw [HR.out]
     generalize hB ⟨#[]⟩ = R at *
     clear HR ih hz hc0 hn h2
     go_enter Tryz.func51, Tryz.ntmps51
     go_wp2_with fail
     refine (HS.out _).mono ?_
     rintro e w' ⟨rfl, hB⟩
     go_wp2
     go_ret
     exact ⟨rfl, hB⟩
end Go.Proofs.YtakgolbgeeoioaaGreat
namespace Go.Proofs.YtakgolbgeeoioaaGreat
open Go.RowKit

/-- whether these operations are listed, or not -/
def agr (l : List Bool) : List (Nat × Bool) → Bool
 | [] => true
 | x :: c => (match l[x.1]? with
  | some b => b == x.2
  | none => false) && agr l c
section
variable {P : Program} {ops : Array Oper} {Q : Exit → Act → World → Prop} {md : Region.Mode} {S : World → Prop} {fuel : Nat} {listed : Array Bool} {a : Act} {w : World}
theorem doHq (c : List (Nat × Bool)) (_ : agr listed.toList c = true) {i : Nat} {oi : Oper} {rest : List Oper} (hd : ops.toList.drop i = oi :: rest)
 (hr : Region.ready md ops listed = [i]) (hw : Region.wanted oi (yielded ops a.tmps) = true)
 (h : ∀ K' : Act → World → Prop, Shut (∀ a w, S w → (S w → wpAnyH P md ops Q S fuel (listed.setIfInBounds i true) a w) → K' a w) → Oper.wp P oi a w K' Q) :
 wpAnyH P md ops Q S (fuel + 1) listed a w := doH hd hr hw h
theorem doHq2 (c : List (Nat × Bool)) (_ : agr listed.toList c = true) {i j : Nat} {oi oj : Oper} {rest rest' : List Oper} (hd : ops.toList.drop i = oi :: rest) (hd' : ops.toList.drop j = oj :: rest')
 (hr : Region.ready md ops listed = [i, j]) (hw : Region.wanted oi (yielded ops a.tmps) = true) (hw' : Region.wanted oj (yielded ops a.tmps) = true)
 (h : ∀ K' : Act → World → Prop, Shut (∀ a w, S w → (S w → wpAnyH P md ops Q S fuel (listed.setIfInBounds i true) a w) → K' a w) → Oper.wp P oi a w K' Q)
 (h' : ∀ K' : Act → World → Prop, Shut (∀ a w, S w → (S w → wpAnyH P md ops Q S fuel (listed.setIfInBounds j true) a w) → K' a w) → Oper.wp P oj a w K' Q) :
 wpAnyH P md ops Q S (fuel + 1) listed a w := doH2 hd hd' hr hw hw' h h'
theorem doHq3 (c : List (Nat × Bool)) (_ : agr listed.toList c = true) {i j k : Nat} {oi oj ok : Oper} {rest rest' rest'' : List Oper} (hd : ops.toList.drop i = oi :: rest) (hd' : ops.toList.drop j = oj :: rest') (hd'' : ops.toList.drop k = ok :: rest'')
 (hr : Region.ready md ops listed = [i, j, k]) (hw : Region.wanted oi (yielded ops a.tmps) = true) (hw' : Region.wanted oj (yielded ops a.tmps) = true) (hw'' : Region.wanted ok (yielded ops a.tmps) = true)
 (h : ∀ K' : Act → World → Prop, Shut (∀ a w, S w → (S w → wpAnyH P md ops Q S fuel (listed.setIfInBounds i true) a w) → K' a w) → Oper.wp P oi a w K' Q)
 (h' : ∀ K' : Act → World → Prop, Shut (∀ a w, S w → (S w → wpAnyH P md ops Q S fuel (listed.setIfInBounds j true) a w) → K' a w) → Oper.wp P oj a w K' Q)
 (h'' : ∀ K' : Act → World → Prop, Shut (∀ a w, S w → (S w → wpAnyH P md ops Q S fuel (listed.setIfInBounds k true) a w) → K' a w) → Oper.wp P ok a w K' Q) :
 wpAnyH P md ops Q S (fuel + 1) listed a w := doH3 hd hd' hd'' hr hw hw' hw'' h h' h''
end
end Go.Proofs.YtakgolbgeeoioaaGreat

/-
  A region that draws its order, in which three operations may come up.
-/
import Derived.Test.YtmokkahkfmmnmaaHStep
namespace Go.Proofs.Ytmokkahkfmmnmaa
open Go.RowKit

/-- three operations may come up -/
theorem doH3 {P : Program} {ops : Array Oper} {Q : Exit → Act → World → Prop} {md : Region.Mode} {S : World → Prop} {i j k : Nat} {oi oj ok : Oper} {rest rest' rest'' : List Oper} {fuel : Nat} {listed : Array Bool} {a : Act} {w : World} (hd : ops.toList.drop i = oi :: rest) (hd' : ops.toList.drop j = oj :: rest') (hd'' : ops.toList.drop k = ok :: rest'')
    (hr : Region.ready md ops listed = [i, j, k]) (hw : Region.wanted oi (yielded ops a.tmps) = true) (hw' : Region.wanted oj (yielded ops a.tmps) = true) (hw'' : Region.wanted ok (yielded ops a.tmps) = true)
    (h : ∀ K' : Act → World → Prop, Shut (∀ a w, S w → (S w → wpAnyH P md ops Q S fuel (listed.setIfInBounds i true) a w) → K' a w) → Oper.wp P oi a w K' Q)
    (h' : ∀ K' : Act → World → Prop, Shut (∀ a w, S w → (S w → wpAnyH P md ops Q S fuel (listed.setIfInBounds j true) a w) → K' a w) → Oper.wp P oj a w K' Q)
    (h'' : ∀ K' : Act → World → Prop, Shut (∀ a w, S w → (S w → wpAnyH P md ops Q S fuel (listed.setIfInBounds k true) a w) → K' a w) → Oper.wp P ok a w K' Q) :
    wpAnyH P md ops Q S (fuel + 1) listed a w :=
  wpAnyH_ready hr (by simp) (AllReadyH.cons (at_drop hd) (fun K' hK => by rw [if_pos hw]; exact h K' hK) (AllReadyH.cons (at_drop hd') (fun K' hK => by rw [if_pos hw']; exact h' K' hK) (AllReadyH.cons (at_drop hd'') (fun K' hK => by rw [if_pos hw'']; exact h'' K' hK) AllReadyH.nil)))
end Go.Proofs.Ytmokkahkfmmnmaa

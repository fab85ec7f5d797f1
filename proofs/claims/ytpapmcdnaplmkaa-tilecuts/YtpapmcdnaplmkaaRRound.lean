/-
  A region that draws its order, in a round of a range over a function: as anywhere.
-/
import Derived.Test.YtpapmcdnaplmkaaHStep
import Derived.Test.YtpapmcdnaplmkaaRLaw
namespace Go.Proofs.Ytpapmcdnaplmkaa
open Go.RowKit Go.Shelf

def noDefer (ops : Array Oper) : Bool := ops.toList.all fun o => match o.op with | .defer _ => false | _ => true
/-- only what goes on -/
def onlyN (Q : Exit → Act → World → Prop) : Exit → Act → World → Prop
  | .normal, a, w => Q .normal a w
  | _, _, _ => False
theorem ops_round {l n : Nat} {ops : Array Oper} {Q : Exit → Act → World → Prop} (hd : noDefer ops = true) : ∀ (order : List Nat) (a : Act) (w : World), wpOps Try.prog ops (onlyN Q) order a w → wpOpsIn (Fence.wide.inRound l) n Try.prog ops Q order a w := by
  intro order
  induction order with
  | nil => intro a w h; exact h
  | cons i rest ih =>
    intro a w h
    unfold wpOps at h
    unfold wpOpsIn
    cases ho : ops[i]? with
    | none => rw [ho] at h; exact ih a w h
    | some o =>
      rw [ho] at h
      dsimp only at h ⊢
      by_cases hw : Region.wanted o (yielded ops a.tmps) = true
      · rw [if_pos hw] at h ⊢
        rcases h with h | ⟨_, ⟨_, _, h⟩⟩
        · have hnd : ∀ c, o.op ≠ .defer c := fun c hc => by
            have := List.all_eq_true.1 hd o (List.mem_of_getElem? (by rw [Array.getElem?_toList]; exact ho))
            rw [hc] at this
            cases this
          refine ⟨fun _ _ => trivial, ?_⟩
          unfold Oper.wp at h
          rw [show (Fence.wide.inRound l).round = some l from rfl, Oper.semAt_some l a.eval o hnd]
          generalize (execOp a.eval o).run Try.prog w = r at h ⊢
          cases r with
          | ok nx w' =>
            cases nx with
            | value v => exact ih _ _ h
            | skip => exact ih _ _ h
            | defer d => exact ih _ _ h
            | enter f args =>
              refine ⟨fun hh => (by cases hh), CallsIn.inRound l (callsIn_wide.2 (Calls.mono h ?_))⟩
              intro e w'' hh
              cases e with
              | returned v => exact ih _ _ hh
              | panicked ch => exact False.elim hh
              | outgrown => obtain ⟨_, _, hh⟩ := hh; exact False.elim hh
            | row row args =>
              refine ⟨fun hh => (by cases hh), fun c cs _ => ?_⟩
              obtain ⟨v, w2, hR, hst⟩ := h c cs
              exact ⟨v, w2, ih _ _ hR, stepsIn_wide.2 hst⟩
            | _ => exact False.elim h
          | halt hl w' =>
            cases hl with
            | panic v => exact False.elim h
            | _ => exact False.elim h
        · exact False.elim h
      · rw [if_neg hw] at h ⊢
        exact ⟨fun _ _ => trivial, ih _ _ h⟩
theorem region_round {l n id : Nat} {ops : Array Oper} {Q : Exit → Act → World → Prop} {S : World → Prop} {a : Act} {w : World} (hd : noDefer ops = true) (hm : Try.prog.follows .mixedOrders = true) (hS : S w.drew)
    (h : S w.drew → wpAnyH Try.prog .any ops (onlyN Q) S ops.size (Array.replicate ops.size false) a w.drew) : (Code.region id ops true).wpIn (Fence.wide.inRound l) n Try.prog Q a w :=
  wpIn_region_draw fun t => by
    simp only [Region.schedule, hm, Bool.true_or, if_true]
    exact ops_round hd _ a _ (wpAny_sound ops.size t _ a _ (wpAny_of_held _ _ _ _ (h hS)))
/-- a region that draws its order, in a function that holds a range over a function -/
theorem region_wide {n id : Nat} {ops : Array Oper} {Q : Exit → Act → World → Prop} {S : World → Prop} {a : Act} {w : World} (hm : Try.prog.follows .mixedOrders = true) (hS : S w.drew)
    (h : S w.drew → wpAnyH Try.prog .any ops (onlyN Q) S ops.size (Array.replicate ops.size false) a w.drew) : (Code.region id ops true).wpIn Fence.wide n Try.prog Q a w :=
  wpIn_wide.2 (Code.wp_mono (fun e a w hh => by
    cases e with
    | normal => exact hh
    | _ => exact False.elim hh) (wp_region_held_drew hm hS h))
/-- two operations may come up: each is carried out first -/
theorem doH2 {P : Program} {ops : Array Oper} {Q : Exit → Act → World → Prop} {md : Region.Mode} {S : World → Prop} {i j : Nat} {oi oj : Oper} {rest rest' : List Oper} {fuel : Nat} {listed : Array Bool} {a : Act} {w : World} (hd : ops.toList.drop i = oi :: rest) (hd' : ops.toList.drop j = oj :: rest')
    (hr : Region.ready md ops listed = [i, j]) (hw : Region.wanted oi (yielded ops a.tmps) = true) (hw' : Region.wanted oj (yielded ops a.tmps) = true)
    (h : ∀ K' : Act → World → Prop, Shut (∀ a w, S w → (S w → wpAnyH P md ops Q S fuel (listed.setIfInBounds i true) a w) → K' a w) → Oper.wp P oi a w K' Q)
    (h' : ∀ K' : Act → World → Prop, Shut (∀ a w, S w → (S w → wpAnyH P md ops Q S fuel (listed.setIfInBounds j true) a w) → K' a w) → Oper.wp P oj a w K' Q) :
    wpAnyH P md ops Q S (fuel + 1) listed a w :=
  wpAnyH_ready hr (by simp) (AllReadyH.cons (at_drop hd) (fun K' hK => by rw [if_pos hw]; exact h K' hK) (AllReadyH.cons (at_drop hd') (fun K' hK => by rw [if_pos hw']; exact h' K' hK) AllReadyH.nil))
end Go.Proofs.Ytpapmcdnaplmkaa

/-
  A range over a function whose iterator says in which order its values come: the body is asked at those alone.
-/
import Derived.Test.YtpapmcdnaplmkaaMake
namespace Go.Proofs.Ytpapmcdnaplmkaa
open Go.RowKit Go.Shelf

/-- the iterator hands out xs, in this order, to a body that never leaves -/
def Hands {α : Type} (n g : Nat) (lb : Array Value) (encs : α → Array Value) (xs : List α) (w : World) : Prop :=
  ∀ (l : Nat) (J : List α → World → Prop) (W : World), Below w.heap.size w W →
    (∀ (pre : List α) (x : α) (rest : List α) (W1 : World), xs = pre ++ x :: rest → J pre W1 → YieldAt Fence.wide (n - 1) Try.prog l (encs x) W1 fun e W' => e = .returned (.bool true) ∧ J (pre ++ [x]) W') →
    J [] W → CallsIn Fence.wide n Try.prog g (#[.func (.yield l) #[] #[]] ++ lb) W fun e W' => (∃ v, e = .returned v) ∧ J xs W'
/-- how a round ends -/
def goesOn (I : World → Prop) (W : World) : Exit → Act → World → Prop
  | .normal, _, W' => KeepsOthers W W' ∧ I W'
  | _, _, _ => False
theorem range_hands {α : Type} {n : Nat} {g : Operand} {ps : Array Tmp} {assign body : Code} {Q : Exit → Act → World → Prop} {a : Act} {w : World} (h1 : 1 ≤ n) {gf : Nat} {lb : Array Value} (hg : a.eval g = .func (.func gf) #[] lb)
    (eg : ∀ args w, (callFunc gf args).run Try.prog w = .ok (.enter gf args) w) {encs : α → Array Value} {xs : List α} (hseq : Hands (n - 1) gf lb encs xs w) (hps : ∀ x, (encs x).size = ps.size)
    (I : List α → World → Prop) (hI : OwnFrom w.heap.size I) (h0 : I [] w) (a1 : α → Act)
    (hassign : ∀ (l : Nat) (x : α) (W : World) (K : Act → World → Prop), K (a1 x) W →
      assign.wpIn (Fence.wide.inRound l) (n - 1 - 1) Try.prog (Exit.then K (fun _ _ _ => False)) { tmps := (ps.zip (encs x)).foldl (fun t (p, v) => t.setIfInBounds p v) a.tmps, defers := [] } W)
    (hbody : ∀ (l : Nat) (pre : List α) (x : α) (rest : List α) (W : World), xs = pre ++ x :: rest → I pre W → body.wpIn (Fence.wide.inRound l) (n - 1 - 1) Try.prog (goesOn (I (pre ++ [x])) W) (a1 x) W)
    (hdone : ∀ (D : Nat) (W : World), w.heap.size ≤ D → I xs W → W.heap[D]? = some (.deferred (some [])) → Q .normal { a with defers := { target := .collected D, args := #[] } :: a.defers } W) :
    (Code.rangeFunc g ps assign body).wpIn Fence.wide n Try.prog Q a w := by
  refine wpIn_rangeFunc fun fn hfn => ?_
  obtain ⟨B, hB⟩ : ∃ B, w.heap.size = B := ⟨_, rfl⟩
  obtain ⟨mk, hmk⟩ : ∃ mk : LoopState → Loop, mk = fun st => { state := st, pending := none, fn, tmps := a.tmps, params := ps, assign, body, defers := B } := ⟨_, rfl⟩
  obtain ⟨wl, hwl⟩ : ∃ wl, (w.alloc (.deferred (some []))).alloc (.loop (mk .ready)) = wl := ⟨_, rfl⟩
  have lD : wl.heap[B]? = some (.deferred (some [])) := by
    rw [← hwl, ← hB]
    exact (Below.heap_alloc _ _ _ (by simp)).trans (World.alloc_heap_new w _)
  have lL : wl.heap[B + 1]? = some (.loop (mk .ready)) := by
    have := World.alloc_heap_new (w.alloc (.deferred (some []))) (.loop (mk .ready))
    rw [← hwl, ← hB]
    rwa [World.size_alloc] at this
  have lI : I [] wl := by rw [← hwl]; exact hI.alloc _ (hI.alloc _ h0)
  have lB : Below w.heap.size w wl := by rw [← hwl]; exact ((Below.refl _ w).alloc (Nat.le_refl _) _).alloc (by simp) _
  refine ⟨B + 1, [{ target := .collected B, args := #[] }], wl, { target := .fn (.func gf) lb, args := #[.func (.yield (B + 1)) #[] #[]] }, wl, gf, #[.func (.yield (B + 1)) #[] #[]] ++ lb, wl, ?_, ?_, fun _ _ => trivial, ?_, fun _ => h1, ?_⟩
  · rw [← hwl, hmk, ← hB]
    exact run_enterLoop_outer _ _ _ _ _
  · simp only [resolve, hg]
    simp [go_sem]
  · simp [invoke, go_sem, eg]
  · refine (hseq (B + 1) (fun pre W => I pre W ∧ W.heap[B + 1]? = some (.loop (mk .ready)) ∧ W.heap[B]? = some (.deferred (some []))) wl lB ?_ ⟨lI, lL, lD⟩).mono ?_
    · rintro pre x rest W hx ⟨hi, hl, hd⟩
      have hlt : B + 1 < W.heap.size := (Array.getElem?_eq_some_iff.1 hl).1
      have hy := run_yield (P := Try.prog) (args := encs x) hl (by rw [hmk]; exact hps x)
      rw [hmk] at hy
      refine ⟨fn, _, assign, body, hy, roundIn_of_wpIn hfn (hassign _ x W _ ⟨_, run_beginRound hl (by rw [hmk]), ?_⟩)⟩
      have b1 : (W.putObj (B + 1) (.loop { mk .ready with state := .busy })).heap[B + 1]? = some (.loop { mk .ready with state := .busy }) := World.putObj_heap_same hlt
      have b2 : (W.putObj (B + 1) (.loop { mk .ready with state := .busy })).heap[B]? = some (.deferred (some [])) := (World.putObj_heap_other (by omega)).trans hd
      refine wpIn_mono (hbody _ pre x rest _ hx (hI.putObj _ hi (by omega) hl rfl)) ?_
      intro e a3 W3 hp
      cases e with
      | normal =>
        obtain ⟨hk, hi3⟩ := hp
        have c1 := hk.same _ _ b1 rfl
        have hr := run_endRound (P := Try.prog) none c1
        rw [hmk] at hr c1
        refine ⟨_, _, hr, rfl, hI.putObj _ hi3 (by omega) c1 rfl, ?_, (World.putObj_heap_other (by omega)).trans (hk.same _ _ b2 rfl)⟩
        rw [hmk]
        exact World.putObj_heap_same (Array.getElem?_eq_some_iff.1 c1).1
      | _ => exact hp.elim
    · rintro e W2 ⟨⟨v, rfl⟩, hi, hl, hd⟩
      have hr := run_endLoop (P := Try.prog) hl (by rw [hmk]; simp)
      rw [hmk] at hr
      exact ⟨none, _, hr, hdone _ _ (by omega) (hI.putObj _ hi (by omega) hl rfl) ((World.putObj_heap_other (by omega)).trans hd)⟩
end Go.Proofs.Ytpapmcdnaplmkaa

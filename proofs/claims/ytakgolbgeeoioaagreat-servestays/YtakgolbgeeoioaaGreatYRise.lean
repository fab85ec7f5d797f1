/-
 Calls appended to calls; two structs that are stored behind a call.
-/
import Derived.Test.YtakgolbgeeoioaaGreatYDo
namespace Go.Proofs.YtakgolbgeeoioaaGreat
open Go.RowKit

/-- append(v, ys...), whatever room ys has -/
theorem append_g2 {α : Type} {K : Kind α} (hK : K.Ok) {W : World} {B : Nat} {v : Value} {xs ys : List α} (hown : OwnG K W B v xs) (oa : Option Addr) (m c : Nat) (hm : ys.length = m) (hs : RowG K W oa ys) (hlen : xs.length + m ≤ 1073741824) (hB : B ≤ W.heap.size) :
 ∃ v' w', (Builtin.append_ #[K.ts, K.ts] K.ts #[v, .slice oa m c]).run Tryz.prog W = .ok v' w' ∧ OwnG K w' B v' (xs ++ ys) ∧ W.grownBy w' v.ownBlock := by
 cases oa with
 | some a => exact append_g hK hown (some a) m c hm hs (fun _ h => by cases h) hlen hB
 | none =>
  have h0 : ys = [] := by
   cases ys with
   | nil => rfl
   | cons y r => obtain ⟨g, o, e, _⟩ := hs 0 y rfl; cases e
  subst h0
  obtain rfl : m = 0 := hm.symm
  obtain ⟨i0, hi, hz0, hz1, hz2⟩ := info_parts hK.info
  refine ⟨v, W, ?_, by rw [List.append_nil]; exact hown, grown_refl _ _⟩
  rcases hown.2 with ⟨rfl, hn⟩ | ⟨g, cap, cur, rfl, hg, hk, hc1, hc2, hc3, hc4⟩
  · simp [Builtin.append_, run_underlying hK.under, sizeOf, typeInfo, hi, Builtin.lenOf, Builtin.firstCells]
  · simp [Builtin.append_, run_underlying hK.under, sizeOf, typeInfo, hi, Builtin.lenOf, Builtin.firstCells, hc1, storeCells]
theorem row_below {w y : World} (h : Below w.heap.size w y) (g : Nat) (hg : w.heap.size ≤ g) (cs : Array Value) : Below w.heap.size w (y.setRow g cs) := h.grown (only_setRow (grown_refl y (some g)) cs) h.size (fun q hq => by injection hq with e; omega)
theorem iSt {cs : Array Value} (h : cs.size = 22) : (Tryz.prog.info? 40).map (·.size) = some cs.size := by rw [h]; exact infoS
theorem iWd {cs : Array Value} (h : cs.size = 3) : (Tryz.prog.info? 43).map (·.size) = some cs.size := by rw [h]; kernel_rfl
/-- both stores are made: the state stands, and its slices -/
theorem rise_tail {B B' ga gb : Nat} {yc y : World} {cs2 ds2 : Array Value} {P : Wd} (hX : StC yc (geP B') cs2 P) (hbc : Below yc.heap.size yc y) (ka : Blk y ga 40 zeroSt) (hne : ga ≠ gb) (hB : B ≤ B') (h : ∀ q, q < yc.heap.size → B' ≤ q → q ≠ ga ∧ q ≠ gb) :
 Blk ((y.setRow ga cs2).setRow gb ds2) ga 40 cs2 ∧ StC ((y.setRow ga cs2).setRow gb ds2) (geP B) cs2 P :=
 ⟨Blk.setRow (setRow_heap y ga zeroSt cs2 40 (0, 0) ka) (by omega) ds2,
  (hX.same (by have := hbc.size; simp; omega) (fun q h1 h2 => by
   have h8 := h q h1 h2
   rw [setRow_other _ gb q _ (by omega), setRow_other _ ga q _ (by omega)]
   exact hbc.block q h1)).imp (fun q _ h2 => by unfold geP at h2 ⊢; omega)⟩
end Go.Proofs.YtakgolbgeeoioaaGreat

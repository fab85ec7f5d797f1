/-
  Slices of steps that a call made and appends to.
-/
import Derived.Test.YtjdjndginacdnaaSPair
namespace Go.Proofs.Ytjdjndginacdnaa
open Go.RowKit

theorem stepInfo : (Try.prog.info? 91).map (fun i => (i.zero, i.size, i.bytes)) = some (some (.agg #[.string ⟨#[]⟩, .string ⟨#[]⟩]), 2, 32) := by kernel_rfl
/-- a slice of steps that the call made -/
def OwnS (w : World) (B : Nat) (v : Value) (ps : List (ByteArray × ByteArray)) : Prop := w.ownsRow B 91 2 v ps.length (pcells ps)
theorem OwnS.form {w : World} {B : Nat} {v : Value} {ps : List (ByteArray × ByteArray)} (h : OwnS w B v ps) : ∃ oa cap, v = .slice oa ps.length cap ∧ ps.length ≤ cap ∧ Prs w oa ps := by
  have h0 := h
  rcases h.2 with ⟨rfl, hn⟩ | ⟨g, cap, cur, rfl, hg, hk, hc1, hc2, hc3, hc4⟩
  · have : ps = [] := List.length_eq_zero_iff.1 hn
    subst this
    exact ⟨none, 0, rfl, Nat.le_refl _, .inl rfl⟩
  · refine ⟨some ⟨g, 0, none⟩, cap, rfl, hc1, .inr ⟨g, 0, rfl, (show Blk w g 91 cur from hk).lt, fun i hi => ?_⟩⟩
    obtain ⟨p1, p2⟩ := pcells_get ps i hi
    have q1 := World.ownsRow.cells h0 (g := g) rfl _ _ p1
    have q2 := World.ownsRow.cells h0 (g := g) rfl _ _ p2
    rw [addr_add] at q1 q2
    exact ⟨q1, q2⟩
theorem OwnS.grown {w w' : World} {B : Nat} {v : Value} {ps : List (ByteArray × ByteArray)} {row : Option Nat} (h : OwnS w B v ps) (hg : w.grownBy w' row) (hne : v.ownBlock = none ∨ v.ownBlock ≠ row) : OwnS w' B v ps := World.ownsRow.kept h hg hne
theorem OwnS.below {w w' : World} {B : Nat} {v : Value} {ps : List (ByteArray × ByteArray)} (h : OwnS w B v ps) (hb : Below w.heap.size w w') : OwnS w' B v ps :=
  World.ownsRow.kept h (only_of_below hb none) (by cases v.ownBlock <;> simp)
theorem OwnS.mono {w : World} {B B' : Nat} {v : Value} {ps : List (ByteArray × ByteArray)} (h : OwnS w B v ps) (hb : B' ≤ B) : OwnS w B' v ps := World.ownsRow.mono h hb
theorem ownS_nil (w : World) (B : Nat) : OwnS w B (.slice none 0 0) [] := ⟨rfl, .inl ⟨rfl, rfl⟩⟩
theorem ownS_one (W : World) (y : ByteArray × ByteArray) : OwnS (W.alloc (.cells #[.string y.1, .string y.2] 91)) W.heap.size (.slice (some ⟨W.heap.size, 0, none⟩) 1 1) [y] :=
  World.ownsRow_lit W #[.string y.1, .string y.2] 1 (Nat.le_refl _) (by decide) rfl
set_option maxRecDepth 100000 in
/-- append(v, y), of steps -/
theorem wpList_append_step {W : World} {ops : Array Oper} {rest : List Oper} {o : Oper} {a : Act} {Q : Exit → Act → World → Prop} (hgd : o.guard = none) (s x : Operand)
    (ho : o.op = .call { callee := .builtin .append, args := #[s, x], argTypes := #[67, 67] }) (B : Nat) (v : Value) (ps : List (ByteArray × ByteArray)) (hs : a.eval s = v) (hown : OwnS W B v ps) (y : ByteArray × ByteArray)
    (hx : a.eval x = .slice (some ⟨W.heap.size, 0, none⟩) 1 1) (hlen : ps.length ≤ 1073741824) (hB : B ≤ W.heap.size)
    (h : ∀ g cap w', OwnS w' B (.slice (some ⟨g, 0, none⟩) (ps.length + 1) cap) (ps ++ [y]) → W.grownBy w' v.ownBlock → (v.ownBlock = some g ∨ g = W.heap.size + 1) → wpList Try.prog ops Q rest (a.put o.dst (.slice (some ⟨g, 0, none⟩) (ps.length + 1) cap)) w') :
    wpList Try.prog ops Q (o :: rest) a (W.alloc (.cells #[.string y.1, .string y.2] 91)) := by
  obtain ⟨i0, hi, hz0, hz1, hz2⟩ := info_parts stepInfo
  refine wpList_append_lies _ hgd s x 67 ho B 91 i0 (.agg #[.string ⟨#[]⟩, .string ⟨#[]⟩]) 2 32 Try.underlying67 hi hz0 hz1 hz2 rfl (by decide) v ps.length (pcells ps) hs (World.ownsRow.alloc hown _)
    ⟨W.heap.size, 0, none⟩ 1 1 [.string y.1, .string y.2] hx rfl (two_new W y.1 y.2 91) (by intro u hu; simp at hu; rcases hu with rfl | rfl <;> rfl) (by decide) (by unfold maxLen; omega) (by omega) (by simp; omega) (W.heap.size + 1) (by simp) ?_
  intro g cap w' hown1 hgrow hat hlt
  refine h g cap w' ?_ (grown_trans (grown_alloc (grown_refl W _) _) hgrow) hat
  unfold OwnS
  rw [List.length_append]
  have e : pcells (ps ++ [y]) = pcells ps ++ [.string y.1, .string y.2] := by simp [pcells]
  rw [e]
  exact hown1
end Go.Proofs.Ytjdjndginacdnaa

/-
  Arguments that come in: two numbers of 16 bits.
-/
import Derived.Test.YtnbboabaihddbaaGreatYDoROpensGOpOpsPost
import Derived.OpenShut
import Derived.Carry
import Derived.Deep.Fields
import Derived.ProofKit
import Derived.ChangeSame
namespace Go.Proofs.YtnbboabaihddbaaGreat
open Go.ChangeShapes Go.WideShapes Go.RowKit Go.Deep

section
variable {H : Type} {enc : TypeId × Value → H} {W : World} {base b0 : Nat} {spare : Nat → Bool} {held : Bool} {v : Value} {d : DataW H} {p : List MemPlace}
set_option maxRecDepth 100000 in
theorem open_u16x2 (hv : Value.okWide Tryz.prog W .any b0 65 v) (h : DataW.Trod enc Tryz.prog W base spare held 65 v d p) :
    ∃ (a b : Int), v = .agg #[.int .u16 a, .int .u16 b] ∧ ((0 ≤ a ∧ a ≤ 65535) ∧ (0 ≤ b ∧ b ≤ 65535)) := by
  obtain ⟨⟨cs⟩, rfl, hsz⟩ := okWide_array Tryz.underlying65 hv
  obtain ⟨fuel, hf⟩ := h
  match cs, hsz.trans (show Tryz.prog.cellsOf 65 = 2 by kernel_rfl) with
  | [c0, c1], _ =>
    have key := elem_at Tryz.underlying65 (by kernel_rfl) hf
    obtain ⟨_, _, t0⟩ := key 0 c0 (by decide) rfl
    obtain ⟨_, _, t1⟩ := key 1 c1 (by decide) rfl
    obtain ⟨a0, rfl, z0⟩ := num_cell Tryz.underlying64 t0
    obtain ⟨a1, rfl, z1⟩ := num_cell Tryz.underlying64 t1
    exact ⟨a0, a1, rfl, bounds_u16 z0, bounds_u16 z1⟩
end
end Go.Proofs.YtnbboabaihddbaaGreat

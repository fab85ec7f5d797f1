/-
  Arguments that come in: four bytes.
-/
import Derived.Test.YtjmjkcgldencoaaOpensG
import Derived.OpenShut
import Derived.Carry
import Derived.Deep.Fields
import Derived.ProofKit
import Derived.ChangeSame
namespace Go.Proofs.Ytjmjkcgldencoaa
open Go.ChangeShapes Go.WideShapes Go.RowKit Go.Deep

section
variable {H : Type} {enc : TypeId × Value → H} {W : World} {base b0 : Nat} {spare : Nat → Bool} {held : Bool} {v : Value} {d : DataW H} {p : List MemPlace}
set_option maxRecDepth 100000 in
theorem open_u8x4 (hv : Value.okWide Try.prog W .any b0 51 v) (h : DataW.Trod enc Try.prog W base spare held 51 v d p) :
    ∃ (a b c e : Int), v = .agg #[.int .u8 a, .int .u8 b, .int .u8 c, .int .u8 e] ∧ ((0 ≤ a ∧ a ≤ 255) ∧ (0 ≤ b ∧ b ≤ 255) ∧ (0 ≤ c ∧ c ≤ 255) ∧ (0 ≤ e ∧ e ≤ 255)) := by
  obtain ⟨⟨cs⟩, rfl, hsz⟩ := okWide_array Try.underlying51 hv
  obtain ⟨fuel, hf⟩ := h
  match cs, hsz.trans (show Try.prog.cellsOf 51 = 4 by kernel_rfl) with
  | [c0, c1, c2, c3], _ =>
    have key := elem_at Try.underlying51 (by kernel_rfl) hf
    obtain ⟨_, _, t0⟩ := key 0 c0 (by decide) rfl
    obtain ⟨_, _, t1⟩ := key 1 c1 (by decide) rfl
    obtain ⟨_, _, t2⟩ := key 2 c2 (by decide) rfl
    obtain ⟨_, _, t3⟩ := key 3 c3 (by decide) rfl
    obtain ⟨a0, rfl, z0⟩ := num_cell Try.underlying5 t0
    obtain ⟨a1, rfl, z1⟩ := num_cell Try.underlying5 t1
    obtain ⟨a2, rfl, z2⟩ := num_cell Try.underlying5 t2
    obtain ⟨a3, rfl, z3⟩ := num_cell Try.underlying5 t3
    exact ⟨a0, a1, a2, a3, rfl, bounds_u8 z0, bounds_u8 z1, bounds_u8 z2, bounds_u8 z3⟩
end
end Go.Proofs.Ytjmjkcgldencoaa

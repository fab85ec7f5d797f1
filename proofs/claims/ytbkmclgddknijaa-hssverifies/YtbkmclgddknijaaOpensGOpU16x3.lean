/-
  Arguments that come in: three numbers of 16 bits.
-/
import Derived.Test.YtbkmclgddknijaaOpensG
namespace Go.Proofs.Ytbkmclgddknijaa
open Go.ChangeShapes Go.WideShapes Go.RowKit Go.Deep

section
variable {H : Type} {enc : TypeId × Value → H} {W : World} {base b0 : Nat} {spare : Nat → Bool} {held : Bool} {v : Value} {d : DataW H} {p : List MemPlace}
set_option maxRecDepth 100000 in
theorem open_u16x3 (hv : Value.okWide Try.prog W .any b0 40 v) (h : DataW.Trod enc Try.prog W base spare held 40 v d p) :
    ∃ (a b c : Int), v = .agg #[.int .u16 a, .int .u16 b, .int .u16 c] ∧ ((0 ≤ a ∧ a ≤ 65535) ∧ (0 ≤ b ∧ b ≤ 65535) ∧ (0 ≤ c ∧ c ≤ 65535)) := by
  obtain ⟨⟨cs⟩, rfl, hsz⟩ := okWide_array Try.underlying40 hv
  obtain ⟨fuel, hf⟩ := h
  match cs, hsz.trans (show Try.prog.cellsOf 40 = 3 by kernel_rfl) with
  | [c0, c1, c2], _ =>
    have key := elem_at Try.underlying40 (by kernel_rfl) hf
    obtain ⟨_, _, t0⟩ := key 0 c0 (by decide) rfl
    obtain ⟨_, _, t1⟩ := key 1 c1 (by decide) rfl
    obtain ⟨_, _, t2⟩ := key 2 c2 (by decide) rfl
    obtain ⟨a0, rfl, z0⟩ := num_cell Try.underlying39 t0
    obtain ⟨a1, rfl, z1⟩ := num_cell Try.underlying39 t1
    obtain ⟨a2, rfl, z2⟩ := num_cell Try.underlying39 t2
    exact ⟨a0, a1, a2, rfl, bounds_u16 z0, bounds_u16 z1, bounds_u16 z2⟩
end
end Go.Proofs.Ytbkmclgddknijaa

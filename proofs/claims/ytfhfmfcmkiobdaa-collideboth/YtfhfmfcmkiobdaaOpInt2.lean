/-
  Arguments that come in: two numbers.
-/
import Derived.Test.YtfhfmfcmkiobdaaOpensG
import Derived.OpenShut
import Derived.Carry
import Derived.Deep.Fields
import Derived.ProofKit
import Derived.ChangeSame
namespace Go.Proofs.Ytfhfmfcmkiobdaa
open Go.ChangeShapes Go.WideShapes Go.RowKit Go.Deep

section
variable {H : Type} {enc : TypeId × Value → H} {W : World} {base b0 : Nat} {spare : Nat → Bool} {held : Bool} {v : Value} {d : DataW H} {p : List MemPlace}
set_option maxRecDepth 100000 in
theorem open_int2 (hv : Value.okWide Try.prog W .any b0 43 v) (h : DataW.Trod enc Try.prog W base spare held 43 v d p) :
    ∃ (a b : Int), v = .agg #[.int .i64 a, .int .i64 b] ∧ ((-9223372036854775808 ≤ a ∧ a ≤ 9223372036854775807) ∧ (-9223372036854775808 ≤ b ∧ b ≤ 9223372036854775807)) := by
  obtain ⟨⟨cs⟩, rfl, hsz⟩ := okWide_array Try.underlying43 hv
  obtain ⟨fuel, hf⟩ := h
  match cs, hsz.trans (show Try.prog.cellsOf 43 = 2 by kernel_rfl) with
  | [c0, c1], _ =>
    have key := elem_at Try.underlying43 (by kernel_rfl) hf
    obtain ⟨_, _, t0⟩ := key 0 c0 (by decide) rfl
    obtain ⟨_, _, t1⟩ := key 1 c1 (by decide) rfl
    obtain ⟨a0, rfl, z0⟩ := num_cell Try.underlying3 t0
    obtain ⟨a1, rfl, z1⟩ := num_cell Try.underlying3 t1
    exact ⟨a0, a1, rfl, bounds_i64 z0, bounds_i64 z1⟩
end
end Go.Proofs.Ytfhfmfcmkiobdaa

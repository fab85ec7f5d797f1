/-
  Arguments that come in: two texts.
-/
import Derived.Test.YtbkmclgddknijaaOpensG
import Derived.OpenShut
import Derived.Carry
import Derived.Deep.Fields
import Derived.ProofKit
import Derived.ChangeSame
namespace Go.Proofs.Ytbkmclgddknijaa
open Go.ChangeShapes Go.WideShapes Go.RowKit Go.Deep

section
variable {H : Type} {enc : TypeId × Value → H} {W : World} {base b0 : Nat} {spare : Nat → Bool} {held : Bool} {v : Value} {d : DataW H} {p : List MemPlace}
set_option maxRecDepth 100000 in
theorem open_txt2 (hv : Value.okWide Try.prog W .any b0 38 v) (h : DataW.Trod enc Try.prog W base spare held 38 v d p) :
    ∃ (a b : ByteArray), v = .agg #[.string a, .string b] ∧ (a.size ≤ 9223372036854775807 ∧ b.size ≤ 9223372036854775807) := by
  obtain ⟨⟨cs⟩, rfl, hsz⟩ := okWide_array Try.underlying38 hv
  obtain ⟨fuel, hf⟩ := h
  match cs, hsz.trans (show Try.prog.cellsOf 38 = 2 by kernel_rfl) with
  | [c0, c1], _ =>
    have key := elem_at Try.underlying38 (by kernel_rfl) hf
    obtain ⟨_, _, t0⟩ := key 0 c0 (by decide) rfl
    obtain ⟨_, _, t1⟩ := key 1 c1 (by decide) rfl
    obtain ⟨s0, rfl, z0⟩ := txt_cell Try.underlying9 t0
    obtain ⟨s1, rfl, z1⟩ := txt_cell Try.underlying9 t1
    exact ⟨s0, s1, rfl, z0, z1⟩
end
end Go.Proofs.Ytbkmclgddknijaa

/-
 Arguments that come in: a query.
-/
import Derived.Test.YtakgolbgeeoioaaGreatOpensGOpOps
import Derived.Test.YtakgolbgeeoioaaGreatSvMathYStateMLeaf
import Derived.OpenShut
import Derived.Carry
import Derived.ChangeSame
import Derived.ChangeArms
namespace Go.Proofs.YtakgolbgeeoioaaGreat
open Go.ChangeShapes Go.WideShapes Go.RowKit Go.Deep

/-- its numbers are ints, its key a text -/
def BndY (q : Qry) : Prop := (-9223372036854775808 ≤ q.k ∧ q.k ≤ 9223372036854775807) ∧ (-9223372036854775808 ≤ q.a ∧ q.a ≤ 9223372036854775807) ∧ (-9223372036854775808 ≤ q.b ∧ q.b ≤ 9223372036854775807) ∧ q.key.size ≤ 9223372036854775807
section
variable {H : Type} {enc : TypeId × Value → H} {W : World} {base b0 : Nat} {spare : Nat → Bool} {held : Bool} {v : Value} {d : DataW H} {p : List MemPlace}
set_option maxRecDepth 100000 in
theorem open_qry (hv : Value.okWide Tryz.prog W .any b0 49 v) (h : DataW.Trod enc Tryz.prog W base spare held 49 v d p) : ∃ q : Qry, v = .agg q.enc ∧ BndY q := by
 obtain ⟨⟨cs⟩, rfl, hsz⟩ := okWide_struct Tryz.underlying49 hv
 obtain ⟨fuel, hf⟩ := h
 match cs, hsz.trans (show Tryz.prog.cellsOf 49 = 4 by kernel_rfl) with
 | [c0, c1, c2, c3], _ =>
  have key := field_atY Tryz.underlying49 (by kernel_rfl) hf
  obtain ⟨_, _, t0⟩ := key 0 _ c0 rfl rfl
  obtain ⟨_, _, t1⟩ := key 1 _ c1 rfl rfl
  obtain ⟨_, _, t2⟩ := key 2 _ c2 rfl rfl
  obtain ⟨_, _, t3⟩ := key 3 _ c3 rfl rfl
  obtain ⟨a0, rfl, w0⟩ := num_cell Tryz.underlying3 t0
  obtain ⟨a1, rfl, w1⟩ := num_cell Tryz.underlying3 t1
  obtain ⟨a2, rfl, w2⟩ := num_cell Tryz.underlying3 t2
  obtain ⟨s3, rfl, z3⟩ := txt_cell Tryz.underlying9 t3
  exact ⟨⟨a0, a1, a2, s3⟩, rfl, bounds_i64 w0, bounds_i64 w1, bounds_i64 w2, z3⟩
end
end Go.Proofs.YtakgolbgeeoioaaGreat

/-
  Arguments that come in: a request with all that is known of it.
-/
import Derived.Test.YtjmjkcgldencoaaGreatOpensGOpOps
import Derived.OpenShut
import Derived.Carry
import Derived.ChangeSame
import Derived.ChangeArms
namespace Go.Proofs.YtjmjkcgldencoaaGreat
open Go.ChangeShapes Go.WideShapes Go.RowKit Go.Deep

section
variable {H : Type} {enc : TypeId × Value → H} {W : World} {base b0 : Nat} {spare : Nat → Bool} {held : Bool} {v : Value} {d : DataW H} {p : List MemPlace}
set_option maxRecDepth 100000 in
theorem open_reqY (hv : Value.okWide Tryz.prog W .any b0 24 v) (h : DataW.Trod enc Tryz.prog W base spare held 24 v d p) : ∃ r : Req, v = .agg r.enc.toArray ∧ BndQ r := by
  obtain ⟨⟨cs⟩, rfl, hsz⟩ := okWide_struct Tryz.underlying24 hv
  obtain ⟨fuel, hf⟩ := h
  match cs, hsz.trans (show Tryz.prog.cellsOf 24 = 5 by kernel_rfl) with
  | [c0, c1, c2, c3, c4], _ =>
    obtain ⟨r, e, hb⟩ := req_cells (show DataW.trod enc Tryz.prog W base spare held fuel 24 [c0, c1, c2, c3, c4] = some _ from hf)
    exact ⟨r, by rw [← e], hb⟩
end
end Go.Proofs.YtjmjkcgldencoaaGreat

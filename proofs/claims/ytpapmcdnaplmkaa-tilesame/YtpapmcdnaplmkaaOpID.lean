/-
  Arguments that come in: a place (two numbers).
-/
import Derived.Test.YtpapmcdnaplmkaaOpensG
import Derived.OpenShut
import Derived.Carry
import Derived.Deep.Fields
import Derived.ProofKit
import Derived.ChangeSame
namespace Go.Proofs.Ytpapmcdnaplmkaa
open Go.ChangeShapes Go.WideShapes Go.RowKit Go.Deep

section
variable {H : Type} {enc : TypeId × Value → H} {W : World} {base b0 : Nat} {spare : Nat → Bool} {held : Bool} {v : Value} {d : DataW H} {p : List MemPlace}
theorem field_at7 {t : TypeId} {fs : Array Field} (ht : Try.prog.underlying t = some (.struct fs)) (hone : oneCellFields Try.prog fs = true) {cs : List Value} {fuel : Nat} {x : DataW H × List MemPlace}
    (h : DataW.trod enc Try.prog W base spare held fuel t cs = some x) (i : Nat) (f : Field) (c : Value) (hf : fs[i]? = some f) (hc : cs[i]? = some c) : ∃ n y, DataW.trod enc Try.prog W base spare held n f.type [c] = some y := by
  obtain ⟨xs, n, _, _, _, hlen, hg⟩ := DataW.trod_struct ht h
  obtain ⟨ho, hk⟩ := hone_of hone i f hf
  have h1 := hg i f hf
  have hi : i < xs.length := by rw [hlen]; exact (Array.getElem?_eq_some_iff.1 hf).1
  have e : (cs.drop f.offset).take (Try.prog.cellsOf f.type) = [c] := by
    obtain ⟨hj, hcj⟩ := List.getElem?_eq_some_iff.1 hc
    rw [ho, hk, List.drop_eq_getElem_cons hj, hcj]
    rfl
  rw [e, List.getElem?_eq_getElem hi] at h1
  exact ⟨n, _, h1⟩
set_option maxRecDepth 100000 in
theorem open_id (hv : Value.okWide Try.prog W .any b0 26 v) (h : DataW.Trod enc Try.prog W base spare held 26 v d p) :
    ∃ (a b : Int), v = .agg #[.int .i64 a, .int .i64 b] ∧ ((-9223372036854775808 ≤ a ∧ a ≤ 9223372036854775807) ∧ (-9223372036854775808 ≤ b ∧ b ≤ 9223372036854775807)) := by
  obtain ⟨⟨cs⟩, rfl, hsz⟩ := okWide_struct Try.underlying26 hv
  obtain ⟨fuel, hf⟩ := h
  match cs, hsz.trans (show Try.prog.cellsOf 26 = 2 by kernel_rfl) with
  | [c0, c1], _ =>
    have key := field_at7 Try.underlying26 (by kernel_rfl) hf
    obtain ⟨_, _, t0⟩ := key 0 _ c0 rfl rfl
    obtain ⟨_, _, t1⟩ := key 1 _ c1 rfl rfl
    obtain ⟨a0, rfl, z0⟩ := num_cell Try.underlying3 t0
    obtain ⟨a1, rfl, z1⟩ := num_cell Try.underlying3 t1
    exact ⟨a0, a1, rfl, bounds_i64 z0, bounds_i64 z1⟩
end
end Go.Proofs.Ytpapmcdnaplmkaa

/-
  Arguments that come in: what arrays of any length stand on.
-/
import Derived.Test.YtjmjkcgldencoaaBase
import Derived.OpenShut
import Derived.Carry
import Derived.Deep.Fields
import Derived.ProofKit
import Derived.ChangeSame
namespace Go.Proofs.Ytjmjkcgldencoaa
open Go.ChangeShapes Go.WideShapes Go.RowKit Go.Deep

section
variable {H : Type} {enc : TypeId × Value → H} {W : World} {base b0 : Nat} {spare : Nat → Bool} {held : Bool} {v : Value} {d : DataW H} {p : List MemPlace}
theorem okWide_array {P : Program} {w : World} {r : Reach} {t e : TypeId} {n : Nat} (ht : P.underlying t = some (.array n e)) (h : Value.okWide P w r base t v) : ∃ cs, v = .agg cs ∧ cs.size = P.cellsOf t := by
  simp only [Value.okWide, ht] at h
  obtain ⟨cs, h1, h2, _⟩ := h
  exact ⟨cs, h1, h2⟩
/-- one element of an array whose elements are of one cell each -/
theorem elem_at {t e : TypeId} {k : Nat} (ht : Try.prog.underlying t = some (.array k e)) (h1 : Try.prog.cellsOf e = 1) {cs : List Value} {fuel : Nat} {x : DataW H × List MemPlace}
    (h : DataW.trod enc Try.prog W base spare held fuel t cs = some x) (i : Nat) (c : Value) (hi : i < k) (hc : cs[i]? = some c) : ∃ n y, DataW.trod enc Try.prog W base spare held n e [c] = some y := by
  obtain ⟨xs, n, _, _, _, hlen, hg⟩ := DataW.trod_array ht h
  have h2 := hg i hi
  have e : (cs.drop (i * Try.prog.cellsOf e)).take (Try.prog.cellsOf e) = [c] := by
    obtain ⟨hj, hcj⟩ := List.getElem?_eq_some_iff.1 hc
    rw [h1, Nat.mul_one, List.drop_eq_getElem_cons hj, hcj]
    rfl
  rw [e, List.getElem?_eq_getElem (by omega)] at h2
  exact ⟨n, _, h2⟩
theorem num_cell {t : TypeId} {k : IntKind} {n : Nat} {c : Value} {y : DataW H × List MemPlace} (ht : Try.prog.underlying t = some (.int k)) (h : DataW.trod enc Try.prog W base spare held n t [c] = some y) : ∃ a, c = .int k a ∧ (Lit.int k a).wf = true := by
  obtain ⟨a, e, hw⟩ := DataW.trod_int ht h
  exact ⟨a, by simpa using e, by simp_all⟩
theorem txt_cell {t : TypeId} {n : Nat} {c : Value} {y : DataW H × List MemPlace} (ht : Try.prog.underlying t = some .string) (h : DataW.trod enc Try.prog W base spare held n t [c] = some y) : ∃ s, c = .string s ∧ s.size ≤ 9223372036854775807 := by
  obtain ⟨s, e, _, hs⟩ := DataW.trod_string ht h
  exact ⟨s, by simpa using e, by unfold maxLen at hs; omega⟩
end
end Go.Proofs.Ytjmjkcgldencoaa

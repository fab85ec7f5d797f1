/-
  Arguments that come in: arrays.
-/
import Derived.Test.YtdbfkkopolhpaaaBase
import Derived.OpenShut
import Derived.Carry
import Derived.Deep.Fields
import Derived.ProofKit
import Derived.ChangeSame
namespace Go.Proofs.Ytdbfkkopolhpaaa
open Go.ChangeShapes Go.WideShapes Go.RowKit Go.Deep

section
variable {H : Type} {enc : TypeId × Value → H} {W : World} {base b0 : Nat} {spare : Nat → Bool} {held : Bool} {v : Value} {d : DataW H} {p : List MemPlace}
theorem okWide_array {P : Program} {w : World} {r : Reach} {t e : TypeId} {n : Nat} (ht : P.underlying t = some (.array n e)) (h : Value.okWide P w r base t v) : ∃ cs, v = .agg cs ∧ cs.size = P.cellsOf t := by
  simp only [Value.okWide, ht] at h
  obtain ⟨cs, h1, h2, _⟩ := h
  exact ⟨cs, h1, h2⟩
/-- one element of an array whose elements are of one cell each -/
theorem elem_at {t e : TypeId} {k : Nat} (ht : Try.prog.underlying t = some (.array k e)) (h1 : Try.prog.cellsOf e = 1) {cs : List Value} {fuel : Nat} {x : DataW H × List MemPlace}
    (h : DataW.trod enc Try.prog W base spare held fuel t cs = some x) (i : Nat) (c : Value) (hi : i < k) (hc : cs[i]? = some c) : ∃ n y, DataW.trod enc Try.prog W base spare held n e [c] = some y := by
  obtain ⟨xs, n, _, _, _, hlen, hg⟩ := DataW.trod_array ht h
  have h2 := hg i hi
  have e : (cs.drop (i * Try.prog.cellsOf e)).take (Try.prog.cellsOf e) = [c] := by
    obtain ⟨hj, hcj⟩ := List.getElem?_eq_some_iff.1 hc
    rw [h1, Nat.mul_one, List.drop_eq_getElem_cons hj, hcj]
    rfl
  rw [e, List.getElem?_eq_getElem (by omega)] at h2
  exact ⟨n, _, h2⟩
theorem num_cell {t : TypeId} {k : IntKind} {n : Nat} {c : Value} {y : DataW H × List MemPlace} (ht : Try.prog.underlying t = some (.int k)) (h : DataW.trod enc Try.prog W base spare held n t [c] = some y) : ∃ a, c = .int k a ∧ (Lit.int k a).wf = true := by
  obtain ⟨a, e, hw⟩ := DataW.trod_int ht h
  exact ⟨a, by simpa using e, by simp_all⟩
theorem txt_cell {t : TypeId} {n : Nat} {c : Value} {y : DataW H × List MemPlace} (ht : Try.prog.underlying t = some .string) (h : DataW.trod enc Try.prog W base spare held n t [c] = some y) : ∃ s, c = .string s ∧ s.size ≤ 9223372036854775807 := by
  obtain ⟨s, e, _, hs⟩ := DataW.trod_string ht h
  exact ⟨s, by simpa using e, by unfold maxLen at hs; omega⟩
set_option maxRecDepth 100000 in
theorem open_txt2 (hv : Value.okWide Try.prog W .any b0 22 v) (h : DataW.Trod enc Try.prog W base spare held 22 v d p) :
    ∃ (a b : ByteArray), v = .agg #[.string a, .string b] ∧ (a.size ≤ 9223372036854775807 ∧ b.size ≤ 9223372036854775807) := by
  obtain ⟨⟨cs⟩, rfl, hsz⟩ := okWide_array Try.underlying22 hv
  obtain ⟨fuel, hf⟩ := h
  match cs, hsz.trans (show Try.prog.cellsOf 22 = 2 by kernel_rfl) with
  | [c0, c1], _ =>
    have key := elem_at Try.underlying22 (by kernel_rfl) hf
    obtain ⟨_, _, t0⟩ := key 0 c0 (by decide) rfl
    obtain ⟨_, _, t1⟩ := key 1 c1 (by decide) rfl
    obtain ⟨s0, rfl, z0⟩ := txt_cell Try.underlying9 t0
    obtain ⟨s1, rfl, z1⟩ := txt_cell Try.underlying9 t1
    exact ⟨s0, s1, rfl, z0, z1⟩
set_option maxRecDepth 100000 in
theorem open_u8x2 (hv : Value.okWide Try.prog W .any b0 23 v) (h : DataW.Trod enc Try.prog W base spare held 23 v d p) :
    ∃ (a b : Int), v = .agg #[.int .u8 a, .int .u8 b] ∧ ((0 ≤ a ∧ a ≤ 255) ∧ (0 ≤ b ∧ b ≤ 255)) := by
  obtain ⟨⟨cs⟩, rfl, hsz⟩ := okWide_array Try.underlying23 hv
  obtain ⟨fuel, hf⟩ := h
  match cs, hsz.trans (show Try.prog.cellsOf 23 = 2 by kernel_rfl) with
  | [c0, c1], _ =>
    have key := elem_at Try.underlying23 (by kernel_rfl) hf
    obtain ⟨_, _, t0⟩ := key 0 c0 (by decide) rfl
    obtain ⟨_, _, t1⟩ := key 1 c1 (by decide) rfl
    obtain ⟨a0, rfl, z0⟩ := num_cell Try.underlying5 t0
    obtain ⟨a1, rfl, z1⟩ := num_cell Try.underlying5 t1
    exact ⟨a0, a1, rfl, bounds_u8 z0, bounds_u8 z1⟩
set_option maxRecDepth 100000 in
theorem open_u16x3 (hv : Value.okWide Try.prog W .any b0 46 v) (h : DataW.Trod enc Try.prog W base spare held 46 v d p) :
    ∃ (a b c : Int), v = .agg #[.int .u16 a, .int .u16 b, .int .u16 c] ∧ ((0 ≤ a ∧ a ≤ 65535) ∧ (0 ≤ b ∧ b ≤ 65535) ∧ (0 ≤ c ∧ c ≤ 65535)) := by
  obtain ⟨⟨cs⟩, rfl, hsz⟩ := okWide_array Try.underlying46 hv
  obtain ⟨fuel, hf⟩ := h
  match cs, hsz.trans (show Try.prog.cellsOf 46 = 3 by kernel_rfl) with
  | [c0, c1, c2], _ =>
    have key := elem_at Try.underlying46 (by kernel_rfl) hf
    obtain ⟨_, _, t0⟩ := key 0 c0 (by decide) rfl
    obtain ⟨_, _, t1⟩ := key 1 c1 (by decide) rfl
    obtain ⟨_, _, t2⟩ := key 2 c2 (by decide) rfl
    obtain ⟨a0, rfl, z0⟩ := num_cell Try.underlying45 t0
    obtain ⟨a1, rfl, z1⟩ := num_cell Try.underlying45 t1
    obtain ⟨a2, rfl, z2⟩ := num_cell Try.underlying45 t2
    exact ⟨a0, a1, a2, rfl, bounds_u16 z0, bounds_u16 z1, bounds_u16 z2⟩
end
end Go.Proofs.Ytdbfkkopolhpaaa

/-
  Arguments that come in: requests, heads, slices of texts.
-/
import Derived.Test.YtfbeakakokhfhaaWList
import Derived.OpenShut
import Derived.SliceStrings
import Derived.Carry
import Derived.Deep.Fields
import Derived.ProofKit
import Derived.ChangeSame
namespace Go.Proofs.Ytfbeakakokhfhaa
open Go.ChangeShapes Go.WideShapes Go.RowKit Go.Deep

section
variable {H : Type} {enc : TypeId × Value → H} {W : World} {base b0 : Nat} {spare : Nat → Bool} {held : Bool} {v : Value} {d : DataW H} {p : List MemPlace}
/-- one field of a struct whose fields are of one cell each -/
theorem field_at {t : TypeId} {fs : Array Field} (ht : Try.prog.underlying t = some (.struct fs)) (hone : oneCellFields Try.prog fs = true) {cs : List Value} {fuel : Nat} {x : DataW H × List MemPlace}
    (h : DataW.trod enc Try.prog W base spare held fuel t cs = some x) (i : Nat) (f : Field) (c : Value) (hf : fs[i]? = some f) (hc : cs[i]? = some c) : ∃ n y, DataW.trod enc Try.prog W base spare held n f.type [c] = some y := by
  obtain ⟨xs, n, _, _, _, hlen, hg⟩ := DataW.trod_struct ht h
  obtain ⟨ho, hk⟩ := hone_of hone i f hf
  have h1 := hg i f hf
  have hi : i < xs.length := by rw [hlen]; exact (Array.getElem?_eq_some_iff.1 hf).1
  have e : (cs.drop f.offset).take (Try.prog.cellsOf f.type) = [c] := by
    obtain ⟨hj, hcj⟩ := List.getElem?_eq_some_iff.1 hc
    rw [ho, hk, List.drop_eq_getElem_cons hj, hcj]
    rfl
  rw [e, List.getElem?_eq_getElem hi] at h1
  exact ⟨n, _, h1⟩
theorem int_cell {t : TypeId} {n : Nat} {c : Value} {y : DataW H × List MemPlace} (ht : Try.prog.underlying t = some (.int .i64)) (h : DataW.trod enc Try.prog W base spare held n t [c] = some y) : ∃ a, c = .int .i64 a := by
  obtain ⟨a, e, _⟩ := DataW.trod_int ht h
  exact ⟨a, by simpa using e⟩
theorem str_cell {t : TypeId} {n : Nat} {c : Value} {y : DataW H × List MemPlace} (ht : Try.prog.underlying t = some .string) (h : DataW.trod enc Try.prog W base spare held n t [c] = some y) : ∃ s, c = .string s ∧ s.size ≤ 9223372036854775807 := by
  obtain ⟨s, e, _, hs⟩ := DataW.trod_string ht h
  exact ⟨s, by simpa using e, by unfold maxLen at hs; omega⟩
theorem open_req (hv : Value.okWide Try.prog W .any b0 23 v) (h : DataW.Trod enc Try.prog W base spare held 23 v d p) :
    ∃ (c q : Int) (l k u : ByteArray), v = .agg #[.int .i64 c, .int .i64 q, .string l, .string k, .string u] ∧ (l.size ≤ 9223372036854775807 ∧ k.size ≤ 9223372036854775807 ∧ u.size ≤ 9223372036854775807) := by
  obtain ⟨⟨cs⟩, rfl, hsz⟩ := okWide_struct Try.underlying23 hv
  obtain ⟨fuel, hf⟩ := h
  match cs, hsz.trans (show Try.prog.cellsOf 23 = 5 by kernel_rfl) with
  | [c0, c1, c2, c3, c4], _ =>
    have key := field_at Try.underlying23 (by kernel_rfl) hf
    obtain ⟨_, _, t0⟩ := key 0 _ c0 rfl rfl
    obtain ⟨_, _, t1⟩ := key 1 _ c1 rfl rfl
    obtain ⟨_, _, t2⟩ := key 2 _ c2 rfl rfl
    obtain ⟨_, _, t3⟩ := key 3 _ c3 rfl rfl
    obtain ⟨_, _, t4⟩ := key 4 _ c4 rfl rfl
    obtain ⟨a0, rfl⟩ := int_cell Try.underlying3 t0
    obtain ⟨a1, rfl⟩ := int_cell Try.underlying3 t1
    obtain ⟨s2, rfl, z2⟩ := str_cell Try.underlying9 t2
    obtain ⟨s3, rfl, z3⟩ := str_cell Try.underlying9 t3
    obtain ⟨s4, rfl, z4⟩ := str_cell Try.underlying9 t4
    exact ⟨a0, a1, s2, s3, s4, rfl, z2, z3, z4⟩
theorem open_head (hv : Value.okWide Try.prog W .any b0 34 v) (h : DataW.Trod enc Try.prog W base spare held 34 v d p) :
    ∃ (a b c : Int) (r m : ByteArray), v = .agg #[.int .i64 a, .int .i64 b, .int .i64 c, .string r, .string m] ∧ (r.size ≤ 9223372036854775807 ∧ m.size ≤ 9223372036854775807) := by
  obtain ⟨⟨cs⟩, rfl, hsz⟩ := okWide_struct Try.underlying34 hv
  obtain ⟨fuel, hf⟩ := h
  match cs, hsz.trans (show Try.prog.cellsOf 34 = 5 by kernel_rfl) with
  | [c0, c1, c2, c3, c4], _ =>
    have key := field_at Try.underlying34 (by kernel_rfl) hf
    obtain ⟨_, _, t0⟩ := key 0 _ c0 rfl rfl
    obtain ⟨_, _, t1⟩ := key 1 _ c1 rfl rfl
    obtain ⟨_, _, t2⟩ := key 2 _ c2 rfl rfl
    obtain ⟨_, _, t3⟩ := key 3 _ c3 rfl rfl
    obtain ⟨_, _, t4⟩ := key 4 _ c4 rfl rfl
    obtain ⟨a0, rfl⟩ := int_cell Try.underlying3 t0
    obtain ⟨a1, rfl⟩ := int_cell Try.underlying3 t1
    obtain ⟨a2, rfl⟩ := int_cell Try.underlying3 t2
    obtain ⟨s3, rfl, z3⟩ := str_cell Try.underlying9 t3
    obtain ⟨s4, rfl, z4⟩ := str_cell Try.underlying9 t4
    exact ⟨a0, a1, a2, s3, s4, rfl, z3, z4⟩
theorem cellsStr : Try.prog.cellsOf 9 = 1 := by kernel_rfl
theorem open_strs (hv : Value.okWide Try.prog W .any b0 39 v) (h : DataW.Trod enc Try.prog W base spare held 39 v d p) :
    ∃ (oa : Option Addr) (n cap : Nat) (ss : List ByteArray), v = .slice oa n cap ∧ ss.length = n ∧ n ≤ 9223372036854775807 ∧ Strs W oa ss ∧ (∀ s ∈ ss, s.size ≤ 9223372036854775807) := by
  obtain ⟨oa, len, cap, rfl⟩ := okWide_slice Try.underlying39 hv
  obtain ⟨fuel, hf⟩ := h
  rcases open_strings Try.underlying39 Try.underlying9 cellsStr hf with ⟨hcs, _⟩ | ⟨a, len', cap', ss, hcs, _, hl, hm, hz, _, hcell, hws⟩
  · have hv : oa = none ∧ len = 0 ∧ cap = 0 := by simpa [Value.cells] using hcs
    obtain ⟨rfl, rfl, rfl⟩ := hv
    exact ⟨none, 0, 0, [], rfl, rfl, by omega, fun i hi => absurd hi (by simp), fun s hs => absurd hs (by simp)⟩
  · have hv : oa = some a ∧ len = len' ∧ cap = cap' := by simpa [Value.cells] using hcs
    obtain ⟨rfl, rfl, rfl⟩ := hv
    have hlen : len ≤ ss.length := by
      have h1 : ss.length = if spare a.block then cap else len := hz
      split at h1 <;> omega
    refine ⟨some a, len, cap, ss.take len, rfl, by rw [List.length_take]; omega, by unfold maxLen at hm; omega, fun i hi => ⟨a, rfl, ?_, ?_⟩, fun s hs => ?_⟩
    · rw [List.length_take] at hi
      have hc := hcell i (by omega)
      rcases Nat.lt_or_ge a.block W.heap.size with h1 | h1
      · exact h1
      · unfold World.cell? at hc
        rw [add_block, Array.getElem?_eq_none h1] at hc
        simp at hc
    · rw [List.length_take] at hi
      have hc := hcell i (by omega)
      rw [hc, List.getD_eq_getElem?_getD, List.getD_eq_getElem?_getD, List.getElem?_take, if_pos (by omega)]
    · have := hws s (List.mem_of_mem_take hs)
      unfold maxLen at this
      omega
end
end Go.Proofs.Ytfbeakakokhfhaa

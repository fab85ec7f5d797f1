/-
  Arguments that come in: slices of texts.
-/
import Derived.Test.YtfhfmfcmkiobdaaTxt
import Derived.OpenShut
import Derived.SliceStrings
import Derived.Carry
import Derived.Deep.Fields
import Derived.ProofKit
import Derived.ChangeSame
namespace Go.Proofs.Ytfhfmfcmkiobdaa
open Go.ChangeShapes Go.WideShapes Go.RowKit Go.Deep

section
variable {H : Type} {enc : TypeId × Value → H} {W : World} {base b0 : Nat} {spare : Nat → Bool} {held : Bool} {v : Value} {d : DataW H} {p : List MemPlace}
theorem cellsStr : Try.prog.cellsOf 9 = 1 := by kernel_rfl
set_option maxRecDepth 100000 in
theorem open_strs (hv : Value.okWide Try.prog W .any b0 22 v) (h : DataW.Trod enc Try.prog W base spare held 22 v d p) :
    ∃ (oa : Option Addr) (n cap : Nat) (ss : List ByteArray), v = .slice oa n cap ∧ ss.length = n ∧ n ≤ 9223372036854775807 ∧ Strs W oa ss ∧ (∀ s ∈ ss, s.size ≤ 9223372036854775807) := by
  obtain ⟨oa, len, cap, rfl⟩ := okWide_slice Try.underlying22 hv
  obtain ⟨fuel, hf⟩ := h
  rcases open_strings Try.underlying22 Try.underlying9 cellsStr hf with ⟨hcs, _⟩ | ⟨a, len', cap', ss, hcs, _, hl, hm, hz, _, hcell, hws⟩
  · have hv : oa = none ∧ len = 0 ∧ cap = 0 := by simpa [Value.cells] using hcs
    obtain ⟨rfl, rfl, rfl⟩ := hv
    exact ⟨none, 0, 0, [], rfl, rfl, by omega, fun i hi => absurd hi (by simp), fun s hs => absurd hs (by simp)⟩
  · have hv : oa = some a ∧ len = len' ∧ cap = cap' := by simpa [Value.cells] using hcs
    obtain ⟨rfl, rfl, rfl⟩ := hv
    have hlen : len ≤ ss.length := by
      have h1 : ss.length = if spare a.block then cap else len := hz
      split at h1 <;> omega
    refine ⟨some a, len, cap, ss.take len, rfl, by rw [List.length_take]; omega, by unfold maxLen at hm; omega, fun i hi => ⟨a, rfl, ?_, ?_⟩, fun s hs => ?_⟩
    · rw [List.length_take] at hi
      have hc := hcell i (by omega)
      rcases Nat.lt_or_ge a.block W.heap.size with h1 | h1
      · exact h1
      · unfold World.cell? at hc
        rw [add_block, Array.getElem?_eq_none h1] at hc
        simp at hc
    · rw [List.length_take] at hi
      have hc := hcell i (by omega)
      rw [hc, List.getD_eq_getElem?_getD, List.getD_eq_getElem?_getD, List.getElem?_take, if_pos (by omega)]
    · have := hws s (List.mem_of_mem_take hs)
      unfold maxLen at this
      omega
set_option maxRecDepth 100000 in
theorem open_strsc (hv : Value.okWide Try.prog W .any b0 22 v) (h : DataW.Trod enc Try.prog W base spare held 22 v d p) :
    ∃ (oa : Option Addr) (n cap : Nat) (ss : List ByteArray), v = .slice oa n cap ∧ ss.length = n ∧ n ≤ 9223372036854775807 ∧ Strs W oa ss ∧ (∀ s ∈ ss, s.size ≤ 9223372036854775807) ∧ n ≤ cap := by
  obtain ⟨oa, len, cap, rfl⟩ := okWide_slice Try.underlying22 hv
  obtain ⟨fuel, hf⟩ := h
  rcases open_strings Try.underlying22 Try.underlying9 cellsStr hf with ⟨hcs, _⟩ | ⟨a, len', cap', ss, hcs, _, hl, hm, hz, _, hcell, hws⟩
  · have hv : oa = none ∧ len = 0 ∧ cap = 0 := by simpa [Value.cells] using hcs
    obtain ⟨rfl, rfl, rfl⟩ := hv
    exact ⟨none, 0, 0, [], rfl, rfl, by omega, fun i hi => absurd hi (by simp), fun s hs => absurd hs (by simp), Nat.le_refl _⟩
  · have hv : oa = some a ∧ len = len' ∧ cap = cap' := by simpa [Value.cells] using hcs
    obtain ⟨rfl, rfl, rfl⟩ := hv
    have hlen : len ≤ ss.length := by
      have h1 : ss.length = if spare a.block then cap else len := hz
      split at h1 <;> omega
    refine ⟨some a, len, cap, ss.take len, rfl, by rw [List.length_take]; omega, by unfold maxLen at hm; omega, fun i hi => ⟨a, rfl, ?_, ?_⟩, fun s hs => ?_, hl⟩
    · rw [List.length_take] at hi
      have hc := hcell i (by omega)
      rcases Nat.lt_or_ge a.block W.heap.size with h1 | h1
      · exact h1
      · unfold World.cell? at hc
        rw [add_block, Array.getElem?_eq_none h1] at hc
        simp at hc
    · rw [List.length_take] at hi
      have hc := hcell i (by omega)
      rw [hc, List.getD_eq_getElem?_getD, List.getD_eq_getElem?_getD, List.getElem?_take, if_pos (by omega)]
    · have := hws s (List.mem_of_mem_take hs)
      unfold maxLen at this
      omega
end
end Go.Proofs.Ytfhfmfcmkiobdaa

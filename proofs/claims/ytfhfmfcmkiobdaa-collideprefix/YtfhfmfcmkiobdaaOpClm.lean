/-
  Arguments that come in: a claim (a text, two numbers, a slice of texts).
-/
import Derived.Test.YtfhfmfcmkiobdaaOpStrs
import Derived.Test.YtfhfmfcmkiobdaaCRoot
import Derived.Test.YtfhfmfcmkiobdaaOpensG
import Derived.Deep.Fields
import Derived.ProofKit
import Derived.ChangeSame
namespace Go.Proofs.Ytfhfmfcmkiobdaa
open Go.ChangeShapes Go.WideShapes Go.RowKit Go.Deep

section
variable {H : Type} {enc : TypeId × Value → H} {W : World} {base b0 : Nat} {spare : Nat → Bool} {held : Bool} {v : Value} {d : DataW H} {p : List MemPlace}
theorem field_at8 {t : TypeId} {fs : Array Field} (ht : Try.prog.underlying t = some (.struct fs)) (hone : oneCellFields Try.prog fs = true) {cs : List Value} {fuel : Nat} {x : DataW H × List MemPlace}
    (h : DataW.trod enc Try.prog W base spare held fuel t cs = some x) (i : Nat) (f : Field) (c : Value) (hf : fs[i]? = some f) (hc : cs[i]? = some c) : ∃ n y, DataW.trod enc Try.prog W base spare held n f.type [c] = some y := by
  obtain ⟨xs, n, _, _, _, hlen, hg⟩ := DataW.trod_struct ht h
  obtain ⟨ho, hk⟩ := hone_of hone i f hf
  have h1 := hg i f hf
  have hi : i < xs.length := by rw [hlen]; exact (Array.getElem?_eq_some_iff.1 hf).1
  have e : (cs.drop f.offset).take (Try.prog.cellsOf f.type) = [c] := by
    obtain ⟨hj, hcj⟩ := List.getElem?_eq_some_iff.1 hc
    rw [ho, hk, List.drop_eq_getElem_cons hj, hcj]
    rfl
  rw [e, List.getElem?_eq_getElem hi] at h1
  exact ⟨n, _, h1⟩
theorem str_cell8 {t : TypeId} {n : Nat} {c : Value} {y : DataW H × List MemPlace} (ht : Try.prog.underlying t = some .string) (h : DataW.trod enc Try.prog W base spare held n t [c] = some y) : ∃ s, c = .string s ∧ s.size ≤ 9223372036854775807 := by
  obtain ⟨s, e, _, hs⟩ := DataW.trod_string ht h
  exact ⟨s, by simpa using e, by unfold maxLen at hs; omega⟩
/-- a slice of texts in a cell -/
theorem strs_cell {c : Value} {n : Nat} {y : DataW H × List MemPlace} (hf : DataW.trod enc Try.prog W base spare held n 22 [c] = some y) :
    ∃ (oa : Option Addr) (n cap : Nat) (ss : List ByteArray), c = .slice oa n cap ∧ ss.length = n ∧ n ≤ 9223372036854775807 ∧ Strs W oa ss ∧ (∀ s ∈ ss, s.size ≤ 9223372036854775807) ∧ n ≤ cap := by
  rcases open_strings Try.underlying22 Try.underlying9 cellsStr hf with ⟨hcs, _⟩ | ⟨a, len', cap', ss, hcs, _, hl, hm, hz, _, hcell, hws⟩
  · injection hcs with hcs _
    subst hcs
    exact ⟨none, 0, 0, [], rfl, rfl, by omega, fun i hi => absurd hi (by simp), fun s hs => absurd hs (by simp), Nat.le_refl _⟩
  · injection hcs with hcs _
    subst hcs
    have hlen : len' ≤ ss.length := by
      have h1 : ss.length = if spare a.block then cap' else len' := hz
      split at h1 <;> omega
    refine ⟨some a, len', cap', ss.take len', rfl, by rw [List.length_take]; omega, by unfold maxLen at hm; omega, fun i hi => ⟨a, rfl, ?_, ?_⟩, fun s hs => ?_, hl⟩
    · rw [List.length_take] at hi
      have hc := hcell i (by omega)
      rcases Nat.lt_or_ge a.block W.heap.size with h1 | h1
      · exact h1
      · unfold World.cell? at hc
        rw [add_block, Array.getElem?_eq_none h1] at hc
        simp at hc
    · rw [List.length_take] at hi
      have hc := hcell i (by omega)
      rw [hc, List.getD_eq_getElem?_getD, List.getD_eq_getElem?_getD, List.getElem?_take, if_pos (by omega)]
    · have := hws s (List.mem_of_mem_take hs)
      unfold maxLen at this
      omega
set_option maxRecDepth 100000 in
theorem clm_cells {c0 c1 c2 c3 : Value} {fuel : Nat} {y : DataW H × List MemPlace} (hf : DataW.trod enc Try.prog W base spare held fuel 24 [c0, c1, c2, c3] = some y) :
    ∃ c : Clm, [c0, c1, c2, c3] = [.string c.lf, .int .i64 c.I, .int .i64 c.N, .slice c.oa c.len c.cap] ∧ c.raw W := by
  have key := field_at8 Try.underlying24 (by kernel_rfl) hf
  obtain ⟨_, _, t0⟩ := key 0 _ c0 rfl rfl
  obtain ⟨_, _, t1⟩ := key 1 _ c1 rfl rfl
  obtain ⟨_, _, t2⟩ := key 2 _ c2 rfl rfl
  obtain ⟨_, _, t3⟩ := key 3 _ c3 rfl rfl
  obtain ⟨s0, rfl, z0⟩ := str_cell8 Try.underlying9 t0
  obtain ⟨a1, rfl, z1⟩ := num_cell Try.underlying3 t1
  obtain ⟨a2, rfl, z2⟩ := num_cell Try.underlying3 t2
  obtain ⟨oa, n, cap, ss, rfl, hn, hm, hs, hz, hk⟩ := strs_cell t3
  exact ⟨⟨s0, a1, a2, oa, n, cap, ss⟩, rfl, ⟨hs, hn, hm, z0, hk, hz, bounds_i64 z1, bounds_i64 z2⟩⟩
set_option maxRecDepth 100000 in
theorem open_clm (hv : Value.okWide Try.prog W .any b0 24 v) (h : DataW.Trod enc Try.prog W base spare held 24 v d p) : ∃ c : Clm, v = c.val ∧ c.raw W := by
  obtain ⟨⟨cs⟩, rfl, hsz⟩ := okWide_struct Try.underlying24 hv
  obtain ⟨fuel, hf⟩ := h
  match cs, hsz.trans (show Try.prog.cellsOf 24 = 4 by kernel_rfl) with
  | [c0, c1, c2, c3], _ =>
    obtain ⟨c, e, hc⟩ := clm_cells (show DataW.trod enc Try.prog W base spare held fuel 24 [c0, c1, c2, c3] = some _ from hf)
    exact ⟨c, by rw [e]; rfl, hc⟩
end
end Go.Proofs.Ytfhfmfcmkiobdaa

/-
  Arguments that come in: a consistency proof and two claims.
-/
import Derived.Test.YtfhfmfcmkiobdaaOpClm
import Derived.Test.YtfhfmfcmkiobdaaCBoth
namespace Go.Proofs.Ytfhfmfcmkiobdaa
open Go.ChangeShapes Go.WideShapes Go.RowKit Go.Deep

section
variable {H : Type} {enc : TypeId × Value → H} {W : World} {base b0 : Nat} {spare : Nat → Bool} {held : Bool} {v : Value} {d : DataW H} {p : List MemPlace}
theorem field_in {t : TypeId} {fs : Array Field} (ht : Try.prog.underlying t = some (.struct fs)) {cs : List Value} {fuel : Nat} {x : DataW H × List MemPlace}
    (h : DataW.trod enc Try.prog W base spare held fuel t cs = some x) (i : Nat) (f : Field) (hf : fs[i]? = some f) : ∃ n y, DataW.trod enc Try.prog W base spare held n f.type ((cs.drop f.offset).take (Try.prog.cellsOf f.type)) = some y := by
  obtain ⟨xs, n, _, _, _, hlen, hg⟩ := DataW.trod_struct ht h
  have h1 := hg i f hf
  have hi : i < xs.length := by rw [hlen]; exact (Array.getElem?_eq_some_iff.1 hf).1
  rw [List.getElem?_eq_getElem hi] at h1
  exact ⟨n, _, h1⟩
theorem cellsOfS : Try.prog.cellsOf 9 = 1 := by kernel_rfl
theorem cellsOfL : Try.prog.cellsOf 22 = 1 := by kernel_rfl
theorem cellsOfC : Try.prog.cellsOf 24 = 4 := by kernel_rfl
/-- a slice of texts in a cell; nil has no room -/
theorem strs_nil {c : Value} {n : Nat} {y : DataW H × List MemPlace} (hf : DataW.trod enc Try.prog W base spare held n 22 [c] = some y) (oa : Option Addr) (k cap : Nat) (hc : c = .slice oa k cap) (hn : oa = none) : k = 0 ∧ cap = 0 := by
  rcases open_strings Try.underlying22 Try.underlying9 cellsStr hf with ⟨hcs, _⟩ | ⟨a, len', cap', ss, hcs, _⟩
  · injection hcs with hcs _
    rw [hc] at hcs
    injection hcs with _ h2 h3
    exact ⟨h2, h3⟩
  · injection hcs with hcs _
    rw [hc, hn] at hcs
    injection hcs with h1
    cases h1
set_option maxRecDepth 100000 in
theorem open_chg (hv : Value.okWide Try.prog W .any b0 37 v) (h : DataW.Trod enc Try.prog W base spare held 37 v d p) : ∃ c : Chg, v = c.val ∧ c.raw W := by
  obtain ⟨⟨cs⟩, rfl, hsz⟩ := okWide_struct Try.underlying37 hv
  obtain ⟨fuel, hf⟩ := h
  match cs, hsz.trans (show Try.prog.cellsOf 37 = 11 by kernel_rfl) with
  | [c0, c1, c2, c3, c4, c5, c6, c7, c8, c9, c10], _ =>
    have key := field_in (cs := [c0, c1, c2, c3, c4, c5, c6, c7, c8, c9, c10]) Try.underlying37 hf
    obtain ⟨u0, y0, r0⟩ := key 0 _ rfl
    have t0 : DataW.trod enc Try.prog W base spare held u0 9 [c0] = some y0 := by
      have e : List.take (Try.prog.cellsOf 9) (List.drop 0 [c0, c1, c2, c3, c4, c5, c6, c7, c8, c9, c10]) = [c0] := by rw [cellsOfS]; rfl
      rw [← e]
      exact r0
    obtain ⟨u1, y1, r1⟩ := key 1 _ rfl
    have t1 : DataW.trod enc Try.prog W base spare held u1 9 [c1] = some y1 := by
      have e : List.take (Try.prog.cellsOf 9) (List.drop 1 [c0, c1, c2, c3, c4, c5, c6, c7, c8, c9, c10]) = [c1] := by rw [cellsOfS]; rfl
      rw [← e]
      exact r1
    obtain ⟨u2, y2, r2⟩ := key 2 _ rfl
    have t2 : DataW.trod enc Try.prog W base spare held u2 22 [c2] = some y2 := by
      have e : List.take (Try.prog.cellsOf 22) (List.drop 2 [c0, c1, c2, c3, c4, c5, c6, c7, c8, c9, c10]) = [c2] := by rw [cellsOfL]; rfl
      rw [← e]
      exact r2
    obtain ⟨u3, y3, r3⟩ := key 3 _ rfl
    have t3 : DataW.trod enc Try.prog W base spare held u3 24 [c3, c4, c5, c6] = some y3 := by
      have e : List.take (Try.prog.cellsOf 24) (List.drop 3 [c0, c1, c2, c3, c4, c5, c6, c7, c8, c9, c10]) = [c3, c4, c5, c6] := by rw [cellsOfC]; rfl
      rw [← e]
      exact r3
    obtain ⟨u4, y4, r4⟩ := key 4 _ rfl
    have t4 : DataW.trod enc Try.prog W base spare held u4 24 [c7, c8, c9, c10] = some y4 := by
      have e : List.take (Try.prog.cellsOf 24) (List.drop 7 [c0, c1, c2, c3, c4, c5, c6, c7, c8, c9, c10]) = [c7, c8, c9, c10] := by rw [cellsOfC]; rfl
      rw [← e]
      exact r4
    clear r0 r1 r2 r3 r4
    obtain ⟨s0, rfl, z0⟩ := str_cell8 Try.underlying9 t0
    obtain ⟨s1, rfl, z1⟩ := str_cell8 Try.underlying9 t1
    have hnil := strs_nil t2
    obtain ⟨oa, n, cap, ss, rfl, hn, hm, hs, hz, hk⟩ := strs_cell t2
    obtain ⟨A, eA, hA⟩ := clm_cells t3
    obtain ⟨D, eD, hD⟩ := clm_cells t4
    refine ⟨⟨s0, s1, oa, n, cap, ss, A, D⟩, ?_, ⟨z0, z1, hs, hn, hm, hk, hnil oa n cap rfl, hz, hA, hD⟩⟩
    injection eA with a0 eA; injection eA with a1 eA; injection eA with a2 eA; injection eA with a3 _
    injection eD with b0 eD; injection eD with b1 eD; injection eD with b2 eD; injection eD with b3 _
    subst a0 a1 a2 a3 b0 b1 b2 b3
    rfl
end
end Go.Proofs.Ytfhfmfcmkiobdaa

/-
  Arguments that come in: pairs, and slices of them.
-/
import Derived.Test.YtjdjndginacdnaaSPair
import Derived.OpenShut
import Derived.Carry
import Derived.Deep.Fields
import Derived.Deep.SlicePairs
import Derived.ProofKit
import Derived.ChangeSame
namespace Go.Proofs.Ytjdjndginacdnaa
open Go.ChangeShapes Go.WideShapes Go.RowKit Go.Deep

section
variable {H : Type} {enc : TypeId × Value → H} {W : World} {base b0 : Nat} {spare : Nat → Bool} {held : Bool} {v : Value} {d : DataW H} {p : List MemPlace}
def strV : Value → ByteArray
  | .string s => s
  | _ => ByteArray.empty
theorem txt_cellP {t : TypeId} {n : Nat} {c : Value} {y : DataW H × List MemPlace} (ht : Try.prog.underlying t = some .string) (h : DataW.trod enc Try.prog W base spare held n t [c] = some y) : c = .string (strV c) := by
  obtain ⟨s, e, _, hs⟩ := DataW.trod_string ht h
  have : c = .string s := by simpa using e
  rw [this]
  rfl
theorem spot_none {a : Addr} {u : Value} (h : W.cell? a = some u) : a = ⟨a.block, a.off, none⟩ := by
  obtain ⟨b, o, s⟩ := a
  cases s with
  | none => rfl
  | some x =>
    unfold World.cell? at h
    split at h <;> simp at h
set_option maxRecDepth 100000 in
theorem open_pairs (hv : Value.okWide Try.prog W .any b0 36 v) (h : DataW.Trod enc Try.prog W base spare held 36 v d p) :
    ∃ (oa : Option Addr) (n cap : Nat) (ps : List (ByteArray × ByteArray)), v = .slice oa n cap ∧ ps.length = n ∧ Prs W oa ps := by
  obtain ⟨oa, len, cap, rfl⟩ := okWide_slice Try.underlying36 hv
  obtain ⟨fuel, hf⟩ := h
  rcases open_slice_pairs Try.underlying36 Try.underlying48 (by kernel_rfl) rfl rfl (by kernel_rfl) (by kernel_rfl) hf with ⟨hcs, _⟩ | ⟨a, len', cap', m, n, V0, V1, D0, D1, P0, P1, hcs, _, hl, hm, hmm, _, hcell⟩
  · have hv : oa = none ∧ len = 0 ∧ cap = 0 := by simpa [Value.cells] using hcs
    obtain ⟨rfl, rfl, rfl⟩ := hv
    exact ⟨none, 0, 0, [], rfl, rfl, .inl rfl⟩
  · have hv : oa = some a ∧ len = len' ∧ cap = cap' := by simpa [Value.cells] using hcs
    obtain ⟨rfl, rfl, rfl⟩ := hv
    have hlm : len ≤ m := by rw [hmm]; split <;> omega
    refine ⟨some a, len, cap, (List.range len).map fun i => (strV (V0 i), strV (V1 i)), rfl, by simp, ?_⟩
    by_cases h0 : len = 0
    · subst h0; exact .inl rfl
    · obtain ⟨c0, _⟩ := hcell 0 (by omega)
      rw [Nat.zero_mul, show a.add 0 = a from rfl] at c0
      have ha := spot_none c0
      refine .inr ⟨a.block, a.off, by rw [← ha], block_lt_of_cell c0, fun i hi => ?_⟩
      have hi2 : i < len := by simpa using hi
      obtain ⟨q0, q1, t0, t1⟩ := hcell i (by omega)
      rw [ha, addr_add] at q0 q1
      have e0 := txt_cellP Try.underlying9 t0
      have e1 := txt_cellP Try.underlying9 t1
      simp only [List.getElem_map, List.getElem_range]
      rw [← e0, ← e1]
      exact ⟨q0, q1⟩
theorem field_atP {t : TypeId} {fs : Array Field} (ht : Try.prog.underlying t = some (.struct fs)) (hone : oneCellFields Try.prog fs = true) {cs : List Value} {fuel : Nat} {x : DataW H × List MemPlace}
    (h : DataW.trod enc Try.prog W base spare held fuel t cs = some x) (i : Nat) (f : Field) (c : Value) (hf : fs[i]? = some f) (hc : cs[i]? = some c) : ∃ n y, DataW.trod enc Try.prog W base spare held n f.type [c] = some y := by
  obtain ⟨xs, n, _, _, _, hlen, hg⟩ := DataW.trod_struct ht h
  obtain ⟨ho, hk⟩ := hone_of hone i f hf
  have h1 := hg i f hf
  have hi : i < xs.length := by rw [hlen]; exact (Array.getElem?_eq_some_iff.1 hf).1
  have e : (cs.drop f.offset).take (Try.prog.cellsOf f.type) = [c] := by
    obtain ⟨hj, hcj⟩ := List.getElem?_eq_some_iff.1 hc
    rw [ho, hk, List.drop_eq_getElem_cons hj, hcj]
    rfl
  rw [e, List.getElem?_eq_getElem hi] at h1
  exact ⟨n, _, h1⟩
set_option maxRecDepth 100000 in
theorem open_pair (hv : Value.okWide Try.prog W .any b0 48 v) (h : DataW.Trod enc Try.prog W base spare held 48 v d p) :
    ∃ (a b : ByteArray), v = .agg #[.string a, .string b] := by
  obtain ⟨⟨cs⟩, rfl, hsz⟩ := okWide_struct Try.underlying48 hv
  obtain ⟨fuel, hf⟩ := h
  match cs, hsz.trans (show Try.prog.cellsOf 48 = 2 by kernel_rfl) with
  | [c0, c1], _ =>
    have key := field_atP Try.underlying48 (by kernel_rfl) hf
    obtain ⟨_, _, t0⟩ := key 0 _ c0 rfl rfl
    obtain ⟨_, _, t1⟩ := key 1 _ c1 rfl rfl
    exact ⟨strV c0, strV c1, by rw [← txt_cellP Try.underlying9 t0, ← txt_cellP Try.underlying9 t1]⟩
end
end Go.Proofs.Ytjdjndginacdnaa

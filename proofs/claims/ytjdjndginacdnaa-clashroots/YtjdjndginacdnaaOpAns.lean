/-
  Arguments that come in: an answer (a bool, two texts), and two of them.
-/
import Derived.Test.YtjdjndginacdnaaOpensG
import Derived.ChangeArms
namespace Go.Proofs.Ytjdjndginacdnaa
open Go.ChangeShapes Go.WideShapes Go.RowKit Go.Deep

section
variable {H : Type} {enc : TypeId × Value → H} {W : World} {base b0 : Nat} {spare : Nat → Bool} {held : Bool} {v : Value} {d : DataW H} {p : List MemPlace}
theorem field_at9 {t : TypeId} {fs : Array Field} (ht : Try.prog.underlying t = some (.struct fs)) (hone : oneCellFields Try.prog fs = true) {cs : List Value} {fuel : Nat} {x : DataW H × List MemPlace}
    (h : DataW.trod enc Try.prog W base spare held fuel t cs = some x) (i : Nat) (f : Field) (c : Value) (hf : fs[i]? = some f) (hc : cs[i]? = some c) : ∃ n y, DataW.trod enc Try.prog W base spare held n f.type [c] = some y := by
  obtain ⟨xs, n, _, _, _, hlen, hg⟩ := DataW.trod_struct ht h
  obtain ⟨ho, hk⟩ := hone_of hone i f hf
  have h1 := hg i f hf
  have hi : i < xs.length := by rw [hlen]; exact (Array.getElem?_eq_some_iff.1 hf).1
  have e : (cs.drop f.offset).take (Try.prog.cellsOf f.type) = [c] := by
    obtain ⟨hj, hcj⟩ := List.getElem?_eq_some_iff.1 hc
    rw [ho, hk, List.drop_eq_getElem_cons hj, hcj]
    rfl
  rw [e, List.getElem?_eq_getElem hi] at h1
  exact ⟨n, _, h1⟩
theorem bool_cell {t : TypeId} {n : Nat} {c : Value} {y : DataW H × List MemPlace} (ht : Try.prog.underlying t = some .bool) (h : DataW.trod enc Try.prog W base spare held n t [c] = some y) : ∃ b, c = .bool b := by
  obtain ⟨b, e, _⟩ := DataW.trod_bool ht h
  exact ⟨b, by simpa using e⟩
set_option maxRecDepth 100000 in
theorem ans_cells {c0 c1 c2 : Value} {fuel : Nat} {y : DataW H × List MemPlace} (hf : DataW.trod enc Try.prog W base spare held fuel 23 [c0, c1, c2] = some y) : ∃ (th : Bool) (v s : ByteArray), [c0, c1, c2] = [.bool th, .string v, .string s] := by
  have key := field_at9 Try.underlying23 (by kernel_rfl) hf
  obtain ⟨_, _, t0⟩ := key 0 _ c0 rfl rfl
  obtain ⟨_, _, t1⟩ := key 1 _ c1 rfl rfl
  obtain ⟨_, _, t2⟩ := key 2 _ c2 rfl rfl
  obtain ⟨b, rfl⟩ := bool_cell Try.underlying4 t0
  obtain ⟨x, rfl, _⟩ := txt_cell Try.underlying9 t1
  obtain ⟨z, rfl, _⟩ := txt_cell Try.underlying9 t2
  exact ⟨b, x, z, rfl⟩
set_option maxRecDepth 100000 in
theorem open_ans (hv : Value.okWide Try.prog W .any b0 23 v) (h : DataW.Trod enc Try.prog W base spare held 23 v d p) : ∃ (th : Bool) (a s : ByteArray), v = .agg #[.bool th, .string a, .string s] := by
  obtain ⟨⟨cs⟩, rfl, hsz⟩ := okWide_struct Try.underlying23 hv
  obtain ⟨fuel, hf⟩ := h
  match cs, hsz.trans (show Try.prog.cellsOf 23 = 3 by kernel_rfl) with
  | [c0, c1, c2], _ =>
    obtain ⟨b, x, z, e⟩ := ans_cells (show DataW.trod enc Try.prog W base spare held fuel 23 [c0, c1, c2] = some _ from hf)
    exact ⟨b, x, z, by rw [e]⟩
theorem cellsOfA : Try.prog.cellsOf 23 = 3 := by kernel_rfl
set_option maxRecDepth 100000 in
theorem open_ans2 (hv : Value.okWide Try.prog W .any b0 29 v) (h : DataW.Trod enc Try.prog W base spare held 29 v d p) :
    ∃ (ta : Bool) (va sa : ByteArray) (tb : Bool) (vb sb : ByteArray), v = .agg #[.bool ta, .string va, .string sa, .bool tb, .string vb, .string sb] := by
  obtain ⟨⟨cs⟩, rfl, hsz⟩ := okWide_array Try.underlying29 hv
  obtain ⟨fuel, hf⟩ := h
  match cs, hsz.trans (show Try.prog.cellsOf 29 = 6 by kernel_rfl) with
  | [c0, c1, c2, c3, c4, c5], _ =>
    obtain ⟨xs, n, _, _, _, hlen, hg⟩ := DataW.trod_array Try.underlying29 (show DataW.trod enc Try.prog W base spare held fuel 29 [c0, c1, c2, c3, c4, c5] = some _ from hf)
    have h0 := hg 0 (by decide)
    have h1 := hg 1 (by decide)
    rw [cellsOfA, List.getElem?_eq_getElem (by omega)] at h0 h1
    obtain ⟨ta, va, sa, ea⟩ := ans_cells (show DataW.trod enc Try.prog W base spare held n 23 [c0, c1, c2] = some _ from h0)
    obtain ⟨tb, vb, sb, eb⟩ := ans_cells (show DataW.trod enc Try.prog W base spare held n 23 [c3, c4, c5] = some _ from h1)
    refine ⟨ta, va, sa, tb, vb, sb, ?_⟩
    injection ea with a0 ea; injection ea with a1 ea; injection ea with a2 _
    injection eb with b0 eb; injection eb with b1 eb; injection eb with b2 _
    subst a0 a1 a2 b0 b1 b2
    rfl
end
end Go.Proofs.Ytjdjndginacdnaa

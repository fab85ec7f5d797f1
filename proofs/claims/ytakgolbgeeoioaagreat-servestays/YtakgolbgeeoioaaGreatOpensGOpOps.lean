/-
  Arguments that come in: what arrays of any length stand on. Arguments that come in: requests, and slices of calls of layer 11.
-/
import Derived.Test.YtakgolbgeeoioaaGreatBase
import Derived.OpenShut
import Derived.Carry
import Derived.Deep.Fields
import Derived.ProofKit
import Derived.ChangeSame
import Derived.Test.YtakgolbgeeoioaaGreatWNumWReqYKind
import Derived.Deep.Slices
import Derived.ChangeArms
namespace Go.Proofs.YtakgolbgeeoioaaGreat
open Go.ChangeShapes Go.WideShapes Go.RowKit Go.Deep

section
variable {H : Type} {enc : TypeId × Value → H} {W : World} {base b0 : Nat} {spare : Nat → Bool} {held : Bool} {v : Value} {d : DataW H} {p : List MemPlace}
theorem okWide_array {P : Program} {w : World} {r : Reach} {t e : TypeId} {n : Nat} (ht : P.underlying t = some (.array n e)) (h : Value.okWide P w r base t v) : ∃ cs, v = .agg cs ∧ cs.size = P.cellsOf t := by
 simp only [Value.okWide, ht] at h
 obtain ⟨cs, h1, h2, _⟩ := h
 exact ⟨cs, h1, h2⟩
/-- one element of an array whose elements are of one cell each -/
theorem elem_at {t e : TypeId} {k : Nat} (ht : Tryz.prog.underlying t = some (.array k e)) (h1 : Tryz.prog.cellsOf e = 1) {cs : List Value} {fuel : Nat} {x : DataW H × List MemPlace}
 (h : DataW.trod enc Tryz.prog W base spare held fuel t cs = some x) (i : Nat) (c : Value) (hi : i < k) (hc : cs[i]? = some c) : ∃ n y, DataW.trod enc Tryz.prog W base spare held n e [c] = some y := by
 obtain ⟨xs, n, _, _, _, hlen, hg⟩ := DataW.trod_array ht h
 have h2 := hg i hi
 have e : (cs.drop (i * Tryz.prog.cellsOf e)).take (Tryz.prog.cellsOf e) = [c] := by
  obtain ⟨hj, hcj⟩ := List.getElem?_eq_some_iff.1 hc
  rw [h1, Nat.mul_one, List.drop_eq_getElem_cons hj, hcj]
  rfl
 rw [e, List.getElem?_eq_getElem (by omega)] at h2
 exact ⟨n, _, h2⟩
theorem num_cell {t : TypeId} {k : IntKind} {n : Nat} {c : Value} {y : DataW H × List MemPlace} (ht : Tryz.prog.underlying t = some (.int k)) (h : DataW.trod enc Tryz.prog W base spare held n t [c] = some y) : ∃ a, c = .int k a ∧ (Lit.int k a).wf = true := by
 obtain ⟨a, e, hw⟩ := DataW.trod_int ht h
 exact ⟨a, by simpa using e, by simp_all⟩
theorem txt_cell {t : TypeId} {n : Nat} {c : Value} {y : DataW H × List MemPlace} (ht : Tryz.prog.underlying t = some .string) (h : DataW.trod enc Tryz.prog W base spare held n t [c] = some y) : ∃ s, c = .string s ∧ s.size ≤ 9223372036854775807 := by
 obtain ⟨s, e, _, hs⟩ := DataW.trod_string ht h
 exact ⟨s, by simpa using e, by unfold maxLen at hs; omega⟩
end
end Go.Proofs.YtakgolbgeeoioaaGreat
namespace Go.Proofs.YtakgolbgeeoioaaGreat
open Go.ChangeShapes Go.WideShapes Go.RowKit Go.Deep

/-- numbers and texts as Go has them -/
def BndQ (r : Req) : Prop := (-9223372036854775808 ≤ r.c ∧ r.c ≤ 9223372036854775807) ∧ (-9223372036854775808 ≤ r.q ∧ r.q ≤ 9223372036854775807) ∧ r.l.size ≤ 9223372036854775807 ∧ r.k.size ≤ 9223372036854775807 ∧ r.v.size ≤ 9223372036854775807
def BndO (x : OpR) : Prop := BndQ x.r ∧ (-9223372036854775808 ≤ x.now ∧ x.now ≤ 9223372036854775807)
section
variable {H : Type} {enc : TypeId × Value → H} {W : World} {base b0 : Nat} {spare : Nat → Bool} {held : Bool} {v : Value} {d : DataW H} {p : List MemPlace}
theorem field_atY {t : TypeId} {fs : Array Field} (ht : Tryz.prog.underlying t = some (.struct fs)) (hone : oneCellFields Tryz.prog fs = true) {cs : List Value} {fuel : Nat} {x : DataW H × List MemPlace}
 (h : DataW.trod enc Tryz.prog W base spare held fuel t cs = some x) (i : Nat) (f : Field) (c : Value) (hf : fs[i]? = some f) (hc : cs[i]? = some c) : ∃ n y, DataW.trod enc Tryz.prog W base spare held n f.type [c] = some y := by
 obtain ⟨xs, n, _, _, _, hlen, hg⟩ := DataW.trod_struct ht h
 obtain ⟨ho, hk⟩ := hone_of hone i f hf
 have h1 := hg i f hf
 have hi : i < xs.length := by rw [hlen]; exact (Array.getElem?_eq_some_iff.1 hf).1
 have e : (cs.drop f.offset).take (Tryz.prog.cellsOf f.type) = [c] := by
  obtain ⟨hj, hcj⟩ := List.getElem?_eq_some_iff.1 hc
  rw [ho, hk, List.drop_eq_getElem_cons hj, hcj]
  rfl
 rw [e, List.getElem?_eq_getElem hi] at h1
 exact ⟨n, _, h1⟩
set_option maxRecDepth 100000 in
theorem req_cells {c0 c1 c2 c3 c4 : Value} {fuel : Nat} {y : DataW H × List MemPlace} (hf : DataW.trod enc Tryz.prog W base spare held fuel 61 [c0, c1, c2, c3, c4] = some y) : ∃ r : Req, [c0, c1, c2, c3, c4] = r.enc ∧ BndQ r := by
 have key := field_atY Tryz.underlying61 (by kernel_rfl) hf
 obtain ⟨_, _, t0⟩ := key 0 _ c0 rfl rfl
 obtain ⟨_, _, t1⟩ := key 1 _ c1 rfl rfl
 obtain ⟨_, _, t2⟩ := key 2 _ c2 rfl rfl
 obtain ⟨_, _, t3⟩ := key 3 _ c3 rfl rfl
 obtain ⟨_, _, t4⟩ := key 4 _ c4 rfl rfl
 obtain ⟨a0, rfl, z0⟩ := num_cell Tryz.underlying3 t0
 obtain ⟨a1, rfl, z1⟩ := num_cell Tryz.underlying3 t1
 obtain ⟨s2, rfl, z2⟩ := txt_cell Tryz.underlying9 t2
 obtain ⟨s3, rfl, z3⟩ := txt_cell Tryz.underlying9 t3
 obtain ⟨s4, rfl, z4⟩ := txt_cell Tryz.underlying9 t4
 exact ⟨⟨a0, a1, s2, s3, s4⟩, rfl, bounds_i64 z0, bounds_i64 z1, z2, z3, z4⟩
theorem cellsOfR : Tryz.prog.cellsOf 61 = 5 := by kernel_rfl
theorem cellsOfO : Tryz.prog.cellsOf 63 = 7 := by kernel_rfl
theorem cellsOfB : Tryz.prog.cellsOf 4 = 1 := by kernel_rfl
theorem cellsOfI : Tryz.prog.cellsOf 3 = 1 := by kernel_rfl
set_option maxRecDepth 100000 in
theorem op_cells {cs : List Value} (hl : cs.length = 7) {fuel : Nat} {y : DataW H × List MemPlace} (hf : DataW.trod enc Tryz.prog W base spare held fuel 63 cs = some y) : ∃ x : OpR, cs = x.enc ∧ BndO x := by
 match cs, hl with
 | [c0, c1, c2, c3, c4, c5, c6], _ =>
  obtain ⟨xs, n, _, _, _, hlen, hg⟩ := DataW.trod_struct Tryz.underlying63 hf
  have g0 := hg 0 _ rfl
  have g1 := hg 1 _ rfl
  have g2 := hg 2 _ rfl
  have h3 : xs.length = 3 := hlen
  rw [List.getElem?_eq_getElem (by omega)] at g0 g1 g2
  have k0 : (List.drop 0 [c0, c1, c2, c3, c4, c5, c6]).take (Tryz.prog.cellsOf 61) = [c0, c1, c2, c3, c4] := by rw [cellsOfR]; rfl
  have k1 : (List.drop 5 [c0, c1, c2, c3, c4, c5, c6]).take (Tryz.prog.cellsOf 4) = [c5] := by rw [cellsOfB]; rfl
  have k2 : (List.drop 6 [c0, c1, c2, c3, c4, c5, c6]).take (Tryz.prog.cellsOf 3) = [c6] := by rw [cellsOfI]; rfl
  change DataW.trod enc Tryz.prog W base spare held n 61 ((List.drop 0 [c0, c1, c2, c3, c4, c5, c6]).take (Tryz.prog.cellsOf 61)) = _ at g0
  change DataW.trod enc Tryz.prog W base spare held n 4 ((List.drop 5 [c0, c1, c2, c3, c4, c5, c6]).take (Tryz.prog.cellsOf 4)) = _ at g1
  change DataW.trod enc Tryz.prog W base spare held n 3 ((List.drop 6 [c0, c1, c2, c3, c4, c5, c6]).take (Tryz.prog.cellsOf 3)) = _ at g2
  rw [k0] at g0
  rw [k1] at g1
  rw [k2] at g2
  obtain ⟨r, er, hb⟩ := req_cells (show DataW.trod enc Tryz.prog W base spare held n 61 [c0, c1, c2, c3, c4] = some _ from g0)
  obtain ⟨b, eb, _⟩ := DataW.trod_bool Tryz.underlying4 (show DataW.trod enc Tryz.prog W base spare held n 4 [c5] = some _ from g1)
  obtain ⟨a, ea, za⟩ := num_cell Tryz.underlying3 (show DataW.trod enc Tryz.prog W base spare held n 3 [c6] = some _ from g2)
  refine ⟨⟨r, b, a⟩, ?_, hb, bounds_i64 za⟩
  have e5 : c5 = .bool b := by simpa using eb
  show [c0, c1, c2, c3, c4] ++ [c5, c6] = r.enc ++ [.bool b, .int .i64 a]
  rw [er, e5, ea]
theorem spotY {a : Addr} {u : Value} (h : W.cell? a = some u) : a = ⟨a.block, a.off, none⟩ := by
 obtain ⟨b, o, s⟩ := a
 cases s with
 | none => rfl
 | some x =>
  unfold World.cell? at h
  split at h <;> simp at h
set_option maxRecDepth 100000 in
theorem open_ops (hv : Value.okWide Tryz.prog W .any b0 22 v) (h : DataW.Trod enc Tryz.prog W base spare held 22 v d p) :
 ∃ (oa : Option Addr) (n cap : Nat) (os : List OpR), v = .slice oa n cap ∧ os.length = n ∧ n ≤ cap ∧ n ≤ 9223372036854775807 ∧ RowG opK W oa os ∧ ∀ x ∈ os, BndO x := by
 obtain ⟨oa, len, cap, rfl⟩ := okWide_slice Tryz.underlying22 hv
 obtain ⟨fuel, hf⟩ := h
 rcases open_slice Tryz.underlying22 hf with ⟨hcs, _⟩ | ⟨a, len', cap', m, n, D, Pl, hcs, _, hl, hm, hmm, _, hcell⟩
 · have hv : oa = none ∧ len = 0 ∧ cap = 0 := by simpa [Value.cells] using hcs
   obtain ⟨rfl, rfl, rfl⟩ := hv
   exact ⟨none, 0, 0, [], rfl, rfl, Nat.le_refl _, by omega, RowG.nil _ _, fun x hx => by cases hx⟩
 · have hv : oa = some a ∧ len = len' ∧ cap = cap' := by simpa [Value.cells] using hcs
   obtain ⟨rfl, rfl, rfl⟩ := hv
   have hlm : len ≤ m := by rw [hmm]; split <;> omega
   have each : ∀ i, i < len → ∃ x : OpR, BndO x ∧ ∀ j u, (x.enc)[j]? = some u → W.cell? (a.add (i * 7 + j)) = some u := by
    intro i hi
    obtain ⟨cs', h1, h2⟩ := hcell i (by omega)
    rw [cellsOfO] at h1
    obtain ⟨_, hlen, hc⟩ := World.cells?_some h1
    obtain ⟨x, ex, hb⟩ := op_cells hlen h2
    refine ⟨x, hb, fun j u hu => ?_⟩
    have hj : j < 7 := by have := (List.getElem?_eq_some_iff.1 hu).1; exact this
    have := hc j hj
    rw [add_add] at this
    rw [this, ex]
    exact hu
   classical
   let f : Nat → OpR := fun i => if h : i < len then Classical.choose (each i h) else default
   have hfs : ∀ i, i < len → BndO (f i) ∧ ∀ j u, ((f i).enc)[j]? = some u → W.cell? (a.add (i * 7 + j)) = some u := by
    intro i hi
    have := Classical.choose_spec (each i hi)
    simp only [f, dif_pos hi]
    exact this
   refine ⟨some a, len, cap, (List.range len).map f, rfl, by simp, hl, by unfold maxLen at hm; omega, fun i x hx => ?_, fun x hx => ?_⟩
   · have hi : i < len := by have := (List.getElem?_eq_some_iff.1 hx).1; simpa using this
     have hxe : x = f i := by
      rw [List.getElem?_map, List.getElem?_range hi] at hx
      simpa using hx.symm
     subst hxe
     have c0 := (hfs i hi).2 0 _ rfl
     have hz := (hfs 0 (by omega)).2 0 _ rfl
     rw [Nat.zero_mul, Nat.zero_add, show a.add 0 = a from rfl] at hz
     have ha := spotY hz
     refine ⟨a.block, a.off, by rw [← ha], block_lt_of_cell hz, fun j u hu => ?_⟩
     have := (hfs i hi).2 j u hu
     rw [ha, addr_add] at this
     exact this
   · obtain ⟨i, hi, rfl⟩ := List.mem_map.1 hx
     exact (hfs i (List.mem_range.1 hi)).1
end
end Go.Proofs.YtakgolbgeeoioaaGreat

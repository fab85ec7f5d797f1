/-
 Arguments that come in: slices of requests, and of heads.
-/
import Derived.Test.YtnbboabaihddbaaGreatYDoROpensGOpOpsPost
namespace Go.Proofs.YtnbboabaihddbaaGreat
open Go.ChangeShapes Go.WideShapes Go.RowKit Go.Deep

/-- a head as Go has it -/
def BndH (h : Hd) : Prop := (-9223372036854775808 ≤ h.q ∧ h.q ≤ 9223372036854775807) ∧ (-9223372036854775808 ≤ h.z ∧ h.z ≤ 9223372036854775807) ∧ (-9223372036854775808 ≤ h.t ∧ h.t ≤ 9223372036854775807) ∧ h.r.size ≤ 9223372036854775807 ∧ h.m.size ≤ 9223372036854775807
section
variable {H : Type} {enc : TypeId × Value → H} {W : World} {base b0 : Nat} {spare : Nat → Bool} {held : Bool} {v : Value} {d : DataW H} {p : List MemPlace}
theorem cellsOfH : Tryz.prog.cellsOf 48 = 5 := by kernel_rfl
set_option maxRecDepth 100000 in
theorem hd_cells {c0 c1 c2 c3 c4 : Value} {fuel : Nat} {y : DataW H × List MemPlace} (hf : DataW.trod enc Tryz.prog W base spare held fuel 48 [c0, c1, c2, c3, c4] = some y) : ∃ r : Hd, [c0, c1, c2, c3, c4] = r.enc ∧ BndH r := by
 have key := field_atY Tryz.underlying48 (by kernel_rfl) hf
 obtain ⟨_, _, t0⟩ := key 0 _ c0 rfl rfl
 obtain ⟨_, _, t1⟩ := key 1 _ c1 rfl rfl
 obtain ⟨_, _, t2⟩ := key 2 _ c2 rfl rfl
 obtain ⟨_, _, t3⟩ := key 3 _ c3 rfl rfl
 obtain ⟨_, _, t4⟩ := key 4 _ c4 rfl rfl
 obtain ⟨a0, rfl, z0⟩ := num_cell Tryz.underlying3 t0
 obtain ⟨a1, rfl, z1⟩ := num_cell Tryz.underlying3 t1
 obtain ⟨a2, rfl, z2⟩ := num_cell Tryz.underlying3 t2
 obtain ⟨s3, rfl, z3⟩ := txt_cell Tryz.underlying9 t3
 obtain ⟨s4, rfl, z4⟩ := txt_cell Tryz.underlying9 t4
 exact ⟨⟨a0, a1, a2, s3, s4⟩, rfl, bounds_i64 z0, bounds_i64 z1, bounds_i64 z2, z3, z4⟩
set_option maxRecDepth 100000 in
theorem open_reqs (hv : Value.okWide Tryz.prog W .any b0 32 v) (h : DataW.Trod enc Tryz.prog W base spare held 32 v d p) :
 ∃ (oa : Option Addr) (n cap : Nat) (os : List Req), v = .slice oa n cap ∧ os.length = n ∧ n ≤ cap ∧ n ≤ 9223372036854775807 ∧ RowG reqK W oa os ∧ ∀ x ∈ os, BndQ x := by
 obtain ⟨oa, len, cap, rfl⟩ := okWide_slice Tryz.underlying32 hv
 obtain ⟨fuel, hf⟩ := h
 rcases open_slice Tryz.underlying32 hf with ⟨hcs, _⟩ | ⟨a, len', cap', m, n, D, Pl, hcs, _, hl, hm, hmm, _, hcell⟩
 · have hv : oa = none ∧ len = 0 ∧ cap = 0 := by simpa [Value.cells] using hcs
   obtain ⟨rfl, rfl, rfl⟩ := hv
   exact ⟨none, 0, 0, [], rfl, rfl, Nat.le_refl _, by omega, RowG.nil _ _, fun x hx => by cases hx⟩
 · have hv : oa = some a ∧ len = len' ∧ cap = cap' := by simpa [Value.cells] using hcs
   obtain ⟨rfl, rfl, rfl⟩ := hv
   have hlm : len ≤ m := by rw [hmm]; split <;> omega
   have each : ∀ i, i < len → ∃ x : Req, BndQ x ∧ ∀ j u, (x.enc)[j]? = some u → W.cell? (a.add (i * 5 + j)) = some u := by
    intro i hi
    obtain ⟨cs', h1, h2⟩ := hcell i (by omega)
    rw [cellsOfR] at h1
    obtain ⟨_, hlen, hc⟩ := World.cells?_some h1
    match cs', hlen with
    | [c0, c1, c2, c3, c4], _ =>
     obtain ⟨x, ex, hb⟩ := req_cells h2
     refine ⟨x, hb, fun j u hu => ?_⟩
     have hj : j < 5 := by have := (List.getElem?_eq_some_iff.1 hu).1; exact this
     have := hc j hj
     rw [add_add] at this
     rw [this, ex]
     exact hu
   classical
   let f : Nat → Req := fun i => if h : i < len then Classical.choose (each i h) else default
   have hfs : ∀ i, i < len → BndQ (f i) ∧ ∀ j u, ((f i).enc)[j]? = some u → W.cell? (a.add (i * 5 + j)) = some u := by
    intro i hi
    have := Classical.choose_spec (each i hi)
    simp only [f, dif_pos hi]
    exact this
   refine ⟨some a, len, cap, (List.range len).map f, rfl, by simp, hl, by unfold maxLen at hm; omega, fun i x hx => ?_, fun x hx => ?_⟩
   · have hi : i < len := by have := (List.getElem?_eq_some_iff.1 hx).1; simpa using this
     have hxe : x = f i := by
      rw [List.getElem?_map, List.getElem?_range hi] at hx
      simpa using hx.symm
     subst hxe
     have c0 := (hfs i hi).2 0 _ rfl
     have hz := (hfs 0 (by omega)).2 0 _ rfl
     rw [Nat.zero_mul, Nat.zero_add, show a.add 0 = a from rfl] at hz
     have ha := spotY hz
     refine ⟨a.block, a.off, by rw [← ha], block_lt_of_cell hz, fun j u hu => ?_⟩
     have := (hfs i hi).2 j u hu
     rw [ha, addr_add] at this
     exact this
   · obtain ⟨i, hi, rfl⟩ := List.mem_map.1 hx
     exact (hfs i (List.mem_range.1 hi)).1
set_option maxRecDepth 100000 in
theorem open_hds (hv : Value.okWide Tryz.prog W .any b0 39 v) (h : DataW.Trod enc Tryz.prog W base spare held 39 v d p) :
 ∃ (oa : Option Addr) (n cap : Nat) (os : List Hd), v = .slice oa n cap ∧ os.length = n ∧ n ≤ cap ∧ n ≤ 9223372036854775807 ∧ RowG hdK W oa os ∧ ∀ x ∈ os, BndH x := by
 obtain ⟨oa, len, cap, rfl⟩ := okWide_slice Tryz.underlying39 hv
 obtain ⟨fuel, hf⟩ := h
 rcases open_slice Tryz.underlying39 hf with ⟨hcs, _⟩ | ⟨a, len', cap', m, n, D, Pl, hcs, _, hl, hm, hmm, _, hcell⟩
 · have hv : oa = none ∧ len = 0 ∧ cap = 0 := by simpa [Value.cells] using hcs
   obtain ⟨rfl, rfl, rfl⟩ := hv
   exact ⟨none, 0, 0, [], rfl, rfl, Nat.le_refl _, by omega, RowG.nil _ _, fun x hx => by cases hx⟩
 · have hv : oa = some a ∧ len = len' ∧ cap = cap' := by simpa [Value.cells] using hcs
   obtain ⟨rfl, rfl, rfl⟩ := hv
   have hlm : len ≤ m := by rw [hmm]; split <;> omega
   have each : ∀ i, i < len → ∃ x : Hd, BndH x ∧ ∀ j u, (x.enc)[j]? = some u → W.cell? (a.add (i * 5 + j)) = some u := by
    intro i hi
    obtain ⟨cs', h1, h2⟩ := hcell i (by omega)
    rw [cellsOfH] at h1
    obtain ⟨_, hlen, hc⟩ := World.cells?_some h1
    match cs', hlen with
    | [c0, c1, c2, c3, c4], _ =>
     obtain ⟨x, ex, hb⟩ := hd_cells h2
     refine ⟨x, hb, fun j u hu => ?_⟩
     have hj : j < 5 := by have := (List.getElem?_eq_some_iff.1 hu).1; exact this
     have := hc j hj
     rw [add_add] at this
     rw [this, ex]
     exact hu
   classical
   let f : Nat → Hd := fun i => if h : i < len then Classical.choose (each i h) else default
   have hfs : ∀ i, i < len → BndH (f i) ∧ ∀ j u, ((f i).enc)[j]? = some u → W.cell? (a.add (i * 5 + j)) = some u := by
    intro i hi
    have := Classical.choose_spec (each i hi)
    simp only [f, dif_pos hi]
    exact this
   refine ⟨some a, len, cap, (List.range len).map f, rfl, by simp, hl, by unfold maxLen at hm; omega, fun i x hx => ?_, fun x hx => ?_⟩
   · have hi : i < len := by have := (List.getElem?_eq_some_iff.1 hx).1; simpa using this
     have hxe : x = f i := by
      rw [List.getElem?_map, List.getElem?_range hi] at hx
      simpa using hx.symm
     subst hxe
     have c0 := (hfs i hi).2 0 _ rfl
     have hz := (hfs 0 (by omega)).2 0 _ rfl
     rw [Nat.zero_mul, Nat.zero_add, show a.add 0 = a from rfl] at hz
     have ha := spotY hz
     refine ⟨a.block, a.off, by rw [← ha], block_lt_of_cell hz, fun j u hu => ?_⟩
     have := (hfs i hi).2 j u hu
     rw [ha, addr_add] at this
     exact this
   · obtain ⟨i, hi, rfl⟩ := List.mem_map.1 hx
     exact (hfs i (List.mem_range.1 hi)).1
end
end Go.Proofs.YtnbboabaihddbaaGreat

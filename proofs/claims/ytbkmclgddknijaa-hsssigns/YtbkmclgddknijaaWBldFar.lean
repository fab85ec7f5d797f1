/-
  What a builder's WriteString leaves: blocks of other types.
-/
import Derived.Test.YtbkmclgddknijaaWBld
namespace Go.Proofs.Ytbkmclgddknijaa
open Go.Shelf Go.RowKit

theorem Bld.apart {w : World} {B b g : Nat} {l : List UInt8} {t : TypeId} {cs : Array Value} (h : Bld w B b l) (hg : Blk w g t cs) (ht : t ≠ 63) : g ≠ b := by
  have key : ∀ p, Lib.BuilderAtF 63 5 B b p (Lib.byteCells l) w → g ≠ b := by
    rintro p ⟨_, v, hbk, _, _⟩ rfl
    unfold Blk at hg
    rw [hbk] at hg
    injection hg with h1
    injection h1 with _ h2
    exact ht h2.symm
  exact h.elim (key _) (key _)
theorem check_far (B b g : Nat) (l : List UInt8) (t : TypeId) (cs : Array Value) (w : World) (h : Bld w B b l) (hg : Blk w g t cs) (ht : t ≠ 63) :
    Calls Try.prog 44 #[.pointer (some ⟨b, 0, none⟩)] w fun e w' => e = .returned (.tuple #[]) ∧
      Lib.BuilderAtF 63 5 B b (.pointer (some ⟨b, 0, none⟩)) (Lib.byteCells l) w' ∧ Below B w w' ∧ Blk w' g t cs := by
  have hne := h.apart hg ht
  rcases h with h | h
  · exact (check_fresh b w h.cell0 h.shape h.frozen0).mono fun e w' ⟨he, hw⟩ => by subst hw; exact ⟨he, h.used _, (Below.refl B w).setCell (p := ⟨b, 0, none⟩) h.1 _, hg.far (p := ⟨b, 0, none⟩) hne _⟩
  · exact (check_used b w h.cell0).mono fun e w' ⟨he, hw⟩ => by subst hw; exact ⟨he, h, Below.refl B _, hg⟩

set_option maxRecDepth 100000 in
set_option maxHeartbeats 1000000 in
theorem bld_write_far (B b : Nat) (l : List UInt8) (s : ByteArray) (g : Nat) (t : TypeId) (cs : Array Value) (ht : t ≠ 63) (ht2 : t ≠ 5) (w : World) (h : Bld w B b l) (hg : Blk w g t cs) (hlen : l.length + s.size ≤ 70368744177664) (hBw : B ≤ w.heap.size) :
    Calls Try.prog 31 #[.pointer (some ⟨b, 0, none⟩), .string s] w fun e w' => e = .returned (.tuple #[.int .i64 s.size, .nilIface]) ∧ Bld w' B b (l ++ s.data.toList) ∧ Below B w w' ∧ Blk w' g t cs := by
  obtain ⟨i0, hi, hz0, hz1, hz2⟩ := info_parts bextra.infoByte
  have hbl : (Lib.byteCells l).length = l.length := Lib.byteCells_length l
  have HBL := Lib.hid hbl
  have HAP := Lib.hid (h.apart hg ht)
  clear hbl
  go_enter Try.func31, Try.ntmps31
  go_wp2_with fail
  refine (check_far B b g l t cs _ h hg ht).mono ?_
  rintro e w1 ⟨rfl, h1, hb1, hg1⟩
  obtain ⟨hB, v, hbk, hown, hne⟩ := h1
  have k0 : w1.cell? ⟨b, 0, none⟩ = some (.pointer (some ⟨b, 0, none⟩)) := by rw [Lib.cell_of_heap hbk]; rfl
  have k1 : w1.cell? ⟨b, 1, none⟩ = some v := by rw [Lib.cell_of_heap hbk]; rfl
  have HVG : Hid (some g ≠ v.ownBlock) := Lib.hid (by
    intro hv
    rcases hown.2 with ⟨hv0, _⟩ | ⟨g', cap, cur, fz, hv0, _, hk, _⟩
    · rw [hv0] at hv; cases hv
    · rw [hv0] at hv
      injection hv with hv
      subst hv
      unfold Blk at hg1
      rw [hk] at hg1
      injection hg1 with e1
      injection e1 with _ e2
      exact ht2 e2.symm)
  have HG1 := Lib.hid hg1
  clear hg hg1
  go_wp2_with (at_builtin; refine Lib.wpList_append_own_stringF _ rfl _ _ 41 9 rfl B 5 i0 Try.underlying41 Try.underlying9 hi hz0 hz1 hz2 _ _ _ rfl hown s rfl ?s1 ?s2 ?s3 ?_)
  case s1 => have := HBL.out; unfold maxLen; omega
  case s2 => have := HBL.out; omega
  case s3 => have := hb1.size; omega
  intro v2 w2 hown2 hgr _
  have hlt : b < w1.heap.size := (show Blk w1 b 63 _ from hbk).lt
  have hbk2 : w2.heap[b]? = some (.cells #[.pointer (some ⟨b, 0, none⟩), v] 63 (0, 0)) := (hgr.block b hlt (fun e => hne e.symm)).trans hbk
  have m0 : w2.cell? ⟨b, 0, none⟩ = some (.pointer (some ⟨b, 0, none⟩)) := by rw [Lib.cell_of_heap hbk2]; rfl
  have m1 : w2.cell? ⟨b, 1, none⟩ = some v := by rw [Lib.cell_of_heap hbk2]; rfl
  have mf : w2.frozen? ⟨b, 1, none⟩ = false := Lib.frozen_of_heap hbk2 1
  have HG2 := Lib.hid ((HG1.out.grown hgr HVG.out).far (p := ⟨b, 1, none⟩) HAP.out)
  obtain ⟨ao, n2, cap, rfl⟩ : ∃ ao n2 cap, v2 = .slice ao n2 cap := by
    rcases hown2.2 with ⟨hv, _⟩ | ⟨g, cap, cur, fz, hv, _⟩
    · exact ⟨_, _, _, hv⟩
    · exact ⟨_, _, _, hv⟩
  go_wp2
  go_ret2
  refine ⟨rfl, .inr ?_, ?_, HG2.out _⟩
  · rw [Lib.byteCells_append, ← Lib.strCells_eq]
    exact Lib.BuilderAtF.put hB hbk2 (by simpa [Lib.strCells_length] using hown2) (by decide)
  · exact (hb1.grown hgr (by have := hb1.size; omega) (fun k hk => (hown.lt k hk).1)).setCell (p := ⟨b, 1, none⟩) hB _
end Go.Proofs.Ytbkmclgddknijaa

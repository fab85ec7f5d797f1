/-
  The walk of the law ShaTable.
-/
import Derived.Test.YtclmladcbhcphaaAwake
import Derived.BigQuiet
import Derived.Deep.QuietTactic
namespace Go.Proofs.Ytclmladcbhcphaa
open Go.RowKit

theorem Blk.new_at {w : World} {g : Nat} {t : TypeId} {cs : Array Value} (h : g = w.heap.size) : Blk (w.alloc (.cells cs t)) g t cs := by subst h; exact Blk.new _ _ _
theorem Blk.setRow {w : World} {g g' : Nat} {t : TypeId} {cs : Array Value} (h : Blk w g t cs) (hne : g ≠ g') (c : Array Value) : Blk (w.setRow g' c) g t cs := (setRow_other w g' g c hne).trans h

theorem below_drewN {B : Nat} {a w : World} (h : Below B a w) (n : Nat) : Below B a (w.drewN n) := ⟨h.os, h.tape, h.output, h.size, h.block⟩
theorem map_at {l : List Nat} {f : Nat → Value} {j : Nat} (h : j < l.length) : ((l.map f).toArray)[j]? = some (f (l.getD j 0)) := by
  simp [h, List.getD_eq_getElem?_getD]
theorem tabV_k {j : Nat} (h : j < 64) : tabV[j]? = some (U32 (stdK.getD j 0)) := by
  unfold tabV stdT
  rw [map_at (by show j < 72; omega)]
  rw [List.getD_eq_getElem?_getD, List.getD_eq_getElem?_getD, List.getElem?_append_left (show j < stdK.length from h)]
theorem tabV_h {j : Nat} (h : j < 8) : tabV[64 + j]? = some (U32 (stdH.getD j 0)) := by
  unfold tabV stdT
  rw [map_at (by show 64 + j < 72; omega)]
  rw [List.getD_eq_getElem?_getD, List.getD_eq_getElem?_getD, List.getElem?_append_right (show stdK.length ≤ 64 + j from Nat.le_add_right 64 j)]
  rw [show 64 + j - stdK.length = j from Nat.add_sub_cancel_left 64 j]
theorem refKV_at {j : Nat} (h : j < 64) : refKV[j]? = some (U64 (stdK.getD j 0)) := map_at (show j < stdK.length from h)
theorem refHV_at {j : Nat} (h : j < 8) : refHV[j]? = some (U64 (stdH.getD j 0)) := map_at (show j < stdH.length from h)
theorem lt_of_all {l : List Nat} (h : l.all (fun x => decide (x < 4294967296)) = true) (j : Nat) : l.getD j 0 < 4294967296 := by
  rw [List.getD_eq_getElem?_getD]
  rcases hj : l[j]? with _ | x
  · simp
  · have := List.all_eq_true.1 h x (List.mem_of_getElem? hj)
    simpa using this
theorem stdK_lt (j : Nat) : stdK.getD j 0 < 4294967296 := lt_of_all (by decide +kernel) j
theorem stdH_lt (j : Nat) : stdH.getD j 0 < 4294967296 := lt_of_all (by decide +kernel) j

set_option maxRecDepth 100000 in
set_option maxHeartbeats 400000 in
theorem law_table (i k : Nat) (hi : i < 256) (hk : k < 256) (w : World) : Calls Try.prog 5 #[.int .u8 i, .int .u8 k] w fun e w' => e = .returned (.bool true) ∧ Below w.heap.size w w' := by
  have z1 := zeroTable
  have z2 := zero64_run
  have z3 := zero8_run
  go_enter Try.func5, Try.ntmps5
  go_wp2_with fail
  refine (make_std _).mono ?_
  rintro e w1 ⟨rfl, hb⟩
  go_wp2_with (refine wpList_store_row rfl 27 _ _ rfl w1.heap.size tabV rfl rfl 27 zero72 (Blk.new _ _ _) (by kernel_rfl) (by kernel_rfl) (by kernel_rfl) ?_)
  rw [World.setRow_alloc_new]
  refine (refK_any _).mono ?_
  rintro e w' ⟨rfl, rfl⟩
  go_wp2_with fail
  refine (refH_any _).mono ?_
  rintro e w' ⟨rfl, rfl⟩
  go_wp2_with (first
    | (refine wpList_store_row rfl 40 _ _ rfl (w1.heap.size + 1 + 1 + 1) refKV rfl rfl 40 zero64 ((Blk.new_at (by simp)).alloc _) (by kernel_rfl) (by kernel_rfl) (by kernel_rfl) ?_)
    | (refine wpList_store_row rfl 42 _ _ rfl (w1.heap.size + 1 + 1 + 1 + 1) refHV rfl rfl 42 zero8 ((Blk.new_at (by simp)).setRow (by simp) _) (by kernel_rfl) (by kernel_rfl) (by kernel_rfl) ?_))
  obtain ⟨W, hW⟩ : ∃ W, (((((((w1.alloc (Obj.cells tabV 27)).alloc (Obj.cells refKV 40)).alloc (Obj.cells refHV 42)).alloc (Obj.cells zero64 40)).alloc
    (Obj.cells zero8 42)).setRow (w1.heap.size + 1 + 1 + 1) refKV).setRow (w1.heap.size + 1 + 1 + 1 + 1) refHV) = W := ⟨_, rfl⟩
  rw [hW]
  have b0 : Blk W w1.heap.size 27 tabV := by
    rw [← hW]; exact ((((((Blk.new_at rfl).alloc _).alloc _).alloc _).alloc _).setRow (by omega) _).setRow (by omega) _
  have b1 : Blk W (w1.heap.size + 1 + 1 + 1) 40 refKV := by
    rw [← hW]; exact Blk.setRow (setRow_heap _ _ zero64 _ _ _ ((Blk.new_at (by simp)).alloc _)) (by omega) _
  have b2 : Blk W (w1.heap.size + 1 + 1 + 1 + 1) 42 refHV := by
    rw [← hW]; exact setRow_heap _ _ zero8 _ _ _ ((Blk.new_at (by simp)).setRow (by omega) _)
  have hB : Below w.heap.size w W := by
    rw [← hW]
    have h0 := hb.size
    exact below_setRow (below_setRow (((((hb.alloc h0 _).alloc (by simp; omega) _).alloc (by simp; omega) _).alloc (by simp; omega) _).alloc (by simp; omega) _) (by omega) _) (by omega) _
  clear hW z1 z2 z3
  generalize w1.heap.size = g at *
  have h64 : i % 64 < 64 := by omega
  have h8 : k % 8 < 8 := by omega
  have q0 := b0.cell (i % 64)
  have q1 := b1.cell (i % 64)
  have q2 := b0.cell (64 + k % 8)
  have q3 := b2.cell (k % 8)
  rw [tabV_k h64] at q0
  rw [refKV_at h64] at q1
  rw [tabV_h h8] at q2
  rw [refHV_at h8] at q3
  have bK := stdK_lt (i % 64)
  have bH := stdH_lt (k % 8)
  generalize stdK.getD (i % 64) 0 = K at *
  generalize stdH.getD (k % 8) 0 = H at *
  unfold U32 at q0 q2
  unfold U64 at q1 q3
  have e1 : (i : Int).tmod 64 = ((i % 64 : Nat) : Int) := by rw [Int.tmod_eq_emod_of_nonneg (by omega)]; omega
  have e2 : (k : Int).tmod 8 = ((k % 8 : Nat) : Int) := by rw [Int.tmod_eq_emod_of_nonneg (by omega)]; omega
  generalize i % 64 = j at *
  generalize k % 8 = m at *
  have j0 : (j : Int) < 64 := by omega
  have m0 : (m : Int) < 8 := by omega
  go_simp
  go_quiet (fail)
  go_wp2
  go_ret
  exact ⟨rfl, below_drewN hB _⟩
end Go.Proofs.Ytclmladcbhcphaa

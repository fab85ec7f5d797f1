/-
  sha.New of the table.
-/
import Derived.Test.YtigmkhgaoamdkaaWrite
namespace Go.Proofs.Ytigmkhgaoamdkaa
open Go.RowKit

def kL : List Value := stdK.map U32
def hL : List Value := stdH.map U32
theorem kL_len : kL.length = 64 := rfl
theorem hL_len : hL.length = 8 := rfl
theorem tabV_range_k {w : World} {g : Nat} (h : Blk w g 30 tabV) : w.rangeAt g 0 kL := by
  intro j v hv
  rw [Nat.zero_add, h.cell, ← hv]
  have hj : j < 64 := (List.getElem?_eq_some_iff.1 hv).1
  show ((stdT.map U32).toArray)[j]? = (stdK.map U32)[j]?
  rw [List.getElem?_toArray]
  unfold stdT
  rw [List.map_append, List.getElem?_append_left (by rw [List.length_map]; exact hj)]
theorem tabV_range_h {w : World} {g : Nat} (h : Blk w g 30 tabV) : w.rangeAt g 64 hL := by
  intro j v hv
  rw [h.cell, ← hv]
  show ((stdT.map U32).toArray)[64 + j]? = (stdH.map U32)[j]?
  rw [List.getElem?_toArray]
  unfold stdT
  rw [List.map_append, List.getElem?_append_right (by rw [List.length_map]; show 64 ≤ 64 + j; omega)]
  congr 1
  rw [List.length_map]
  show 64 + j - 64 = j
  omega
def bs0 : List Nat := List.replicate 64 0

set_option maxRecDepth 100000 in
set_option maxHeartbeats 1000000 in
theorem new_any (w : World) : Calls Try.prog 44 #[.agg tabV] w fun e w' => e = .returned (.pointer (some ⟨w.heap.size + 1, 0, none⟩)) ∧ Dig w' (w.heap.size + 1) [] ∧ Below w.heap.size w w' := by
  have b0 : Blk (w.alloc (.cells tabV 30)) w.heap.size 30 tabV := Blk.new _ _ _
  have r0 := tabV_range_k b0
  have r1 := tabV_range_h b0
  go_enter Try.func44, Try.ntmps44
  go_wp2_with (first
    | (refine wpList_load_mid rfl 27 _ rfl w.heap.size 0 rfl kL _ r0 Try.underlying27 rfl (by kernel_rfl) ?_)
    | (refine wpList_load_mid rfl 28 _ rfl w.heap.size 64 rfl hL _ r1 Try.underlying28 rfl (by kernel_rfl) ?_)
    | (refine wpList_build_as rfl 89 _ rfl (digA stdH bs0 0) (by kernel_rfl) ?_))
  go_ret
  refine ⟨by simp, ⟨bs0, rfl, by simp [bs0], rfl, ?_⟩, ?_⟩
  · exact Blk.new_at (by simp)
  · exact ((Below.refl _ w).alloc (Nat.le_refl _) _).alloc (by simp) _
end Go.Proofs.Ytigmkhgaoamdkaa

/-
  sha.New of the table. The padded message, in numbers.
-/
import Derived.Test.YtbkmclgddknijaaMsgWrite
namespace Go.Proofs.Ytbkmclgddknijaa
open Go.RowKit

def kL : List Value := stdK.map U32
def hL : List Value := stdH.map U32
theorem kL_len : kL.length = 64 := rfl
theorem hL_len : hL.length = 8 := rfl
theorem tabV_range_k {w : World} {g : Nat} (h : Blk w g 27 tabV) : w.rangeAt g 0 kL := by
  intro j v hv
  rw [Nat.zero_add, h.cell, ← hv]
  have hj : j < 64 := (List.getElem?_eq_some_iff.1 hv).1
  show ((stdT.map U32).toArray)[j]? = (stdK.map U32)[j]?
  rw [List.getElem?_toArray]
  unfold stdT
  rw [List.map_append, List.getElem?_append_left (by rw [List.length_map]; exact hj)]
theorem tabV_range_h {w : World} {g : Nat} (h : Blk w g 27 tabV) : w.rangeAt g 64 hL := by
  intro j v hv
  rw [h.cell, ← hv]
  show ((stdT.map U32).toArray)[64 + j]? = (stdH.map U32)[j]?
  rw [List.getElem?_toArray]
  unfold stdT
  rw [List.map_append, List.getElem?_append_right (by rw [List.length_map]; show 64 ≤ 64 + j; omega)]
  congr 1
  rw [List.length_map]
  show 64 + j - 64 = j
  omega
def bs0 : List Nat := List.replicate 64 0

set_option maxRecDepth 100000 in
set_option maxHeartbeats 1000000 in
theorem new_any (w : World) : Calls Try.prog 50 #[.agg tabV] w fun e w' => e = .returned (.pointer (some ⟨w.heap.size + 1, 0, none⟩)) ∧ Dig w' (w.heap.size + 1) [] ∧ Below w.heap.size w w' := by
  have b0 : Blk (w.alloc (.cells tabV 27)) w.heap.size 27 tabV := Blk.new _ _ _
  have r0 := tabV_range_k b0
  have r1 := tabV_range_h b0
  go_enter Try.func50, Try.ntmps50
  go_wp2_with (first
    | (refine wpList_load_mid rfl 24 _ rfl w.heap.size 0 rfl kL _ r0 Try.underlying24 rfl (by kernel_rfl) ?_)
    | (refine wpList_load_mid rfl 25 _ rfl w.heap.size 64 rfl hL _ r1 Try.underlying25 rfl (by kernel_rfl) ?_)
    | (refine wpList_build_as rfl 96 _ rfl (digA stdH bs0 0) (by kernel_rfl) ?_))
  go_ret
  refine ⟨by simp, ⟨bs0, rfl, by simp [bs0], rfl, ?_⟩, ?_⟩
  · exact Blk.new_at (by simp)
  · exact ((Below.refl _ w).alloc (Nat.le_refl _) _).alloc (by simp) _
end Go.Proofs.Ytbkmclgddknijaa
namespace Go.Proofs.Ytbkmclgddknijaa
open Go.RowKit

/-- how many noughts go behind the byte 80 -/
def zs (n : Nat) : Nat := (119 - n % 64) % 64
/-- a number's eight bytes, the greatest first -/
def be8 (n : Nat) : List Nat := (List.range 8).map fun i => n / 256 ^ (7 - i) % 256
def padMsg (m : List Nat) : List Nat := m ++ [128] ++ List.replicate (zs m.length) 0 ++ be8 (m.length * 8)
theorem be8_length (n : Nat) : (be8 n).length = 8 := by simp [be8]
theorem be8_lt (n : Nat) : ∀ x ∈ be8 n, x < 256 := by
  intro x hx
  simp only [be8, List.mem_map] at hx
  obtain ⟨i, _, rfl⟩ := hx
  exact Nat.mod_lt _ (by decide)
theorem zs_lt (n : Nat) : zs n < 64 := Nat.mod_lt _ (by decide)
theorem zs_mod (n : Nat) : (n + 1 + zs n) % 64 = 56 := by unfold zs; omega
theorem zs_least (n k : Nat) (h : k < zs n) : (n + 1 + k) % 64 ≠ 56 := by unfold zs at h; omega
theorem padMsg_length (m : List Nat) : (padMsg m).length = m.length + 1 + zs m.length + 8 := by simp [padMsg, be8_length]; omega
theorem padMsg_mod (m : List Nat) : (padMsg m).length % 64 = 0 := by rw [padMsg_length]; have := zs_mod m.length; omega

theorem conv_bytes {P : Program} (w : World) (src e dst : TypeId) (hs : P.underlying src = some (.slice e)) (he : P.underlying e = some (.int .u8)) (hd : P.underlying dst = some .string) (base g cap : Nat) (l : List Nat)
    (hown : w.ownsRow base e 1 (.slice (some ⟨g, 0, none⟩) l.length cap) l.length (l.map U8)) : (convert src dst (.slice (some ⟨g, 0, none⟩) l.length cap)).run P w = .ok (.string (strN l)) w := by
  have := run_convert_bytes_arg (P := P) w src e hs he g 0 l.length cap (l.map fun (n : Nat) => (n : Int)) (by simp) (fun i hi => by
    have := hown.cells (g := g) rfl i (U8 (l.getD i 0)) (by simp [List.getD_eq_getElem?_getD, List.getElem?_eq_getElem hi])
    have e : (⟨g, 0, none⟩ : Addr).add i = ⟨g, 0 + i, none⟩ := by unfold Addr.add; split <;> simp_all
    rw [← e]
    refine this.trans ?_
    simp [U8, List.getD_eq_getElem?_getD, List.getElem?_eq_getElem hi]) dst hd
  rw [this]
  congr 2
  unfold strOfNums strN
  simp [List.map_map, Function.comp_def]
end Go.Proofs.Ytbkmclgddknijaa

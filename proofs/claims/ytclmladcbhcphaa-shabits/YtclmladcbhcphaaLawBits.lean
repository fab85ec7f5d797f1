/-
  The walk of the law ShaBits.
-/
import Derived.Test.YtclmladcbhcphaaSumF
import Derived.Test.YtclmladcbhcphaaRefSum
import Derived.Deep.OwnRows
namespace Go.Proofs.Ytclmladcbhcphaa
open Go.RowKit

def fillA (k i c : Nat) : Array Value := (List.replicate i (U8 c) ++ List.replicate (k - i) (U8 0)).toArray
theorem made_fill (k c : Nat) : madeCells #[.int .u8 0] k = fillA k 0 c := by
  apply Array.ext
  · rw [size_madeCells]; simp [fillA]
  · intro i h1 h2
    simp [madeCells, fillA, Nat.mod_one, U8]
theorem fillA_step {k i c : Nat} (h : i < k) : (fillA k i c).setIfInBounds i (U8 c) = fillA k (i + 1) c := by
  unfold fillA
  apply Array.ext'
  rw [Array.toList_setIfInBounds]
  show (List.replicate i (U8 c) ++ List.replicate (k - i) (U8 0)).set i (U8 c) = List.replicate (i + 1) (U8 c) ++ List.replicate (k - (i + 1)) (U8 0)
  obtain ⟨d, hd⟩ : ∃ d, k - i = d + 1 := ⟨k - i - 1, by omega⟩
  rw [hd, show k - (i + 1) = d by omega, List.set_append_right _ _ (by simp), List.length_replicate, Nat.sub_self, List.replicate_succ, List.set_cons_zero, List.replicate_succ', List.append_assoc]
  rfl
theorem fillA_size {k i c : Nat} (h : i ≤ k) : (fillA k i c).size = k := by simp [fillA]; omega
theorem fillA_get {k i c j : Nat} (h : i ≤ k) (hj : j < k) : ∃ v, (fillA k i c)[j]? = some v := ⟨_, Array.getElem?_eq_getElem (by rw [fillA_size h]; exact hj)⟩
theorem fillA_full {k c j : Nat} (hj : j < k) : (fillA k k c)[j]? = some (U8 ((List.replicate k c).getD j 0)) := by
  unfold fillA
  rw [Nat.sub_self, List.replicate_zero, List.append_nil, List.getElem?_toArray, List.getElem?_replicate, if_pos hj, List.getD_eq_getElem?_getD, List.getElem?_replicate, if_pos hj]
  rfl

set_option maxRecDepth 100000 in
set_option maxHeartbeats 1000000 in
theorem law_bits (n c : Nat) (hn : n < 65536) (hc : c < 256) (w : World) : Calls Try.prog 4 #[.int .u16 n, .int .u8 c] w fun e w' => e = .returned (.bool true) ∧ Below w.heap.size w w' := by
  obtain ⟨k, hk⟩ : ∃ k, n % 300 = k := ⟨_, rfl⟩
  have hnk : (n : Int) % 300 = (k : Int) := by omega
  have hk300 : k < 300 := by omega
  clear hk
  go_enter Try.func4, Try.ntmps4
  go_wp2_with fail
  refine (awake_any _).mono ?_
  rintro e w1 ⟨rfl, hB1⟩
  obtain ⟨i0, hi0, hz0, hz1, hz2⟩ := info_parts byteInfo
  go_wp2_with (refine wpList_make_row _ rfl _ _ 36 rfl 5 i0 _ Try.underlying36 hi0 hz0 hz1 rfl .i64 .i64 k rfl rfl (by rw [hz2]; omega) (by omega) ?_)
  have hb0 : Blk (w1.alloc (.cells (madeCells #[.int .u8 0] k) 5)) w1.heap.size 5 (fillA k 0 c) := by
    rw [made_fill k c]
    exact Blk.new _ _ _
  have hB2 := hB1.alloc hB1.size (.cells (madeCells #[.int .u8 0] k) 5)
  generalize w1.alloc (.cells (madeCells #[.int .u8 0] k) 5) = w2 at *
  have hg := hB1.size
  generalize w1.heap.size = g at *
  clear hB1 hnk
  go_loopw [6] (fun i wr => ∃ j : Nat, j ≤ k ∧ i = .int .i64 j ∧ Blk wr g 5 (fillA k j c) ∧ Below w.heap.size w wr) (fun i _ => k - (intOf i).toNat)
  case atStart => exact ⟨0, by omega, rfl, hb0, hB2⟩
  case round =>
    clear hb0 hB2
    obtain ⟨j, hj, rfl, hb, hB⟩ := hrel
    by_cases hlt : j < k
    · have hlt' : (j : Int) < (k : Int) := by omega
      obtain ⟨v, hv⟩ := fillA_get (c := c) hj hlt
      have hcell : wr.cell? ⟨g, j, none⟩ = some v := (hb.cell j).trans hv
      have hfz := hb.frozen j
      have HST := Lib.hid (fillA_step (c := c) hlt)
      clear hv
      go_wp2
      go_roundw
      case rel =>
        refine ⟨j + 1, by omega, by go_num, ?_, hB.setCell hg _⟩
        rw [← HST.out]
        exact hb.set_ j (U8 c)
      case measure => simp [intOf]; omega
    · obtain rfl : j = k := by omega
      have hm : ∀ x ∈ List.replicate j c, x < 256 := fun x hx => by rw [(List.mem_replicate.1 hx).2]; exact hc
      have hml : (List.replicate j c).length = j := List.length_replicate
      have hcs : ∀ W, Below wr.heap.size wr W → (convert 36 9 (.slice (some ⟨g, 0, none⟩) j j)).run Try.prog W = .ok (.string (strN (List.replicate j c))) W := fun W hW => by
        have := conv_cells W 36 5 9 Try.underlying36 Try.underlying5 Try.underlying9 g j (List.replicate j c) (fun i hi => by rw [hml] at hi; rw [(hb.below hW hb.lt).cell, fillA_full hi])
        rw [hml] at this
        exact this
      have hsz : (strN (List.replicate j c)).size ≤ 300 := by rw [strN_size, hml]; omega
      generalize strN (List.replicate j c) = s at *
      have HS := Lib.hid (fun W => sum_any s (by omega) W)
      have HR := Lib.hid (fun W => refsum_any s (by omega) W)
      have hS32 := SHA_size (nums s)
      obtain ⟨S, hS⟩ : ∃ S, SHA (nums s) = S := ⟨_, rfl⟩
      rw [hS] at HS HR hS32
      have HCS := Lib.hid hcs
      clear hS hcs hm hml hlt hsz
      have HKP : Hid (∀ W, Below wr.heap.size wr W → (convert 36 9 (.slice (some ⟨g, 0, none⟩) j j)).run Try.prog W = .ok (.string s) W ∧ Below wr.heap.size wr W) := Lib.hid fun W hW => ⟨HCS.out W hW, hW⟩
      go_wp2
      go_region_held3 (fun w' => (convert 36 9 (.slice (some ⟨g, 0, none⟩) j j)).run Try.prog w' = .ok (.string s) w' ∧ Below wr.heap.size wr w')
        ((refine HKP.out _ ?_; first | exact hB5' | exact hB4' | exact (Below.refl _ _).drew | exact Below.refl _ _))
        (first
          | (go_at_call 9; refine (make_std _).mono ?_; rintro e w4 ⟨rfl, hB4⟩; have hB4' : Below wr.heap.size wr w4 := (Below.refl _ _).drew.trans hB4)
          | (go_at_call 14; refine (HS.out _).mono ?_; rintro e w5 ⟨rfl, hB5⟩; have hB5' : Below wr.heap.size wr w5 := hB4'.trans (hB5.mono hB4'.size)))
      have hc5 := HCS.out w5 hB5'
      have hB6 := hB.trans (hB5'.mono hB.size)
      go_wp2_with fail
      refine (HR.out _).mono ?_
      rintro e w7 ⟨rfl, hB7⟩
      have hB8 := hB6.trans (hB7.mono hB6.size)
      go_wp2
      go_ret
      exact ⟨by simp, hB8⟩
end Go.Proofs.Ytclmladcbhcphaa

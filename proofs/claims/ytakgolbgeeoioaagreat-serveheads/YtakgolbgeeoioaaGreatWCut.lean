/-
 What is read is cut off by a closure: cutter, cutNumber, cutText.
-/
import Derived.Test.YtakgolbgeeoioaaGreatWNumWReqYKind
import Derived.Test.YtakgolbgeeoioaaGreatWBe
namespace Go.Proofs.YtakgolbgeeoioaaGreat
open Go.RowKit

/-- what is cut off, n bytes, and what is left -/
def cutF (n : Int) (s : ByteArray) : ByteArray := if 0 ≤ n ∧ n ≤ s.size then s.extract 0 n.toNat else ⟨#[]⟩
def cutR (n : Int) (s : ByteArray) : ByteArray := if 0 ≤ n ∧ n ≤ s.size then s.extract n.toNat s.size else s
/-- the reader's state: block g holds what is not read yet -/
def Cut (w : World) (g : Nat) (s : ByteArray) : Prop := Blk w g 9 #[.string s]

set_option maxHeartbeats 400000 in
theorem cut_no (n : Int) (g : Nat) (s : ByteArray) (hs : s.size ≤ 9223372036854775807) (hn : n < 0 ∨ (s.size : Int) < n) (w : World) (h : Cut w g s) :
 Calls Tryz.prog 62 #[.int .i64 n, .pointer (some ⟨g, 0, none⟩)] w fun e w' => e = .returned (.string ⟨#[]⟩) ∧ w = w' := by
 have hc : w.cell? ⟨g, 0, none⟩ = some (.string s) := h.cell 0
 rcases hn with hn | hn
 · go_enter Tryz.func62, Tryz.ntmps62
   go_wp2
   go_ret
   exact ⟨rfl, rfl⟩
 · have hn0 : ¬ n < 0 := by omega
   go_enter Tryz.func62, Tryz.ntmps62
   go_wp2
   go_ret
   exact ⟨rfl, rfl⟩
set_option maxHeartbeats 400000 in
theorem cut_yes (n : Nat) (g : Nat) (s : ByteArray) (_ : s.size ≤ 9223372036854775807) (hn : n ≤ s.size) (w : World) (h : Cut w g s) :
 Calls Tryz.prog 62 #[.int .i64 n, .pointer (some ⟨g, 0, none⟩)] w fun e w' => e = .returned (.string (s.extract 0 n)) ∧ w.setCell ⟨g, 0, none⟩ (.string (s.extract n s.size)) = w' := by
 have hc : w.cell? ⟨g, 0, none⟩ = some (.string s) := h.cell 0
 have hf := h.frozen 0
 have hn' : ¬ (s.size : Int) < (n : Int) := by omega
 go_enter Tryz.func62, Tryz.ntmps62
 go_wp2
 go_ret
 exact ⟨rfl, rfl⟩
theorem Cut.lt {w : World} {g : Nat} {s : ByteArray} (h : Cut w g s) : g < w.heap.size := Blk.lt h
theorem Cut.below {w w' : World} {g : Nat} {s : ByteArray} (h : Cut w g s) (hb : Below w.heap.size w w') : Cut w' g s := Blk.below h hb h.lt
theorem only_put {a w : World} {g : Nat} (h : a.grownBy w (some g)) (o : Nat) (u : Value) : a.grownBy (w.setCell ⟨g, o, none⟩ u) (some g) :=
 ⟨h.os, h.tape, h.output, by simpa [World.setCell] using h.size, fun i hi hne => (Below.heap_setCell w ⟨g, o, none⟩ u i (by rintro rfl; exact hne rfl)).trans (h.block i hi hne)⟩
theorem only_refl (w : World) (g : Nat) : w.grownBy w (some g) := World.grownBy.refl _ _
theorem only_then {a b c : World} {g : Nat} (h : a.grownBy b (some g)) (k : Below b.heap.size b c) : a.grownBy c (some g) :=
 ⟨k.os.trans h.os, k.tape.trans h.tape, k.output.trans h.output, Nat.le_trans h.size k.size, fun i hi hne => (k.block i (Nat.lt_of_lt_of_le hi h.size)).trans (h.block i hi hne)⟩
theorem cut_any (n : Int) (g : Nat) (s : ByteArray) (hs : s.size ≤ 9223372036854775807) (w : World) (h : Cut w g s) :
 Calls Tryz.prog 62 #[.int .i64 n, .pointer (some ⟨g, 0, none⟩)] w fun e w' => e = .returned (.string (cutF n s)) ∧ Cut w' g (cutR n s) ∧ w.grownBy w' (some g) := by
 unfold cutF cutR
 by_cases hn : 0 ≤ n ∧ n ≤ s.size
 · rw [if_pos hn, if_pos hn]
   obtain ⟨k, rfl⟩ : ∃ k : Nat, n = k := ⟨n.toNat, by omega⟩
   refine (cut_yes k g s hs (by omega) w h).mono ?_
   rintro e w' ⟨rfl, rfl⟩
   exact ⟨rfl, Blk.set_ h 0 _, only_put (only_refl w g) 0 _⟩
 · rw [if_neg hn, if_neg hn]
   refine (cut_no n g s hs (by omega) w h).mono ?_
   rintro e w' ⟨rfl, rfl⟩
   exact ⟨rfl, h, only_refl w g⟩
theorem cutF_size (n : Int) (s : ByteArray) : (cutF n s).size ≤ s.size := by
 unfold cutF
 split
 · rw [ByteArray.size_extract]; omega
 · exact Nat.zero_le _
theorem cutR_size (n : Int) (s : ByteArray) : (cutR n s).size ≤ s.size := by
 unfold cutR
 split
 · rw [ByteArray.size_extract]; omega
 · exact Nat.le_refl _
theorem cutF4 (s : ByteArray) : (cutF 4 s).size = 4 ∨ (cutF 4 s).size = 0 := by
 unfold cutF
 split
 · rw [ByteArray.size_extract]; omega
 · exact .inr rfl

set_option maxHeartbeats 400000 in
theorem cutter_any (s : ByteArray) (w : World) :
 Calls Tryz.prog 28 #[.string s] w fun e w' => e = .returned (.func (.func 62) #[] #[.pointer (some ⟨w.heap.size, 0, none⟩)]) ∧ Cut w' w.heap.size s ∧ Below w.heap.size w w' := by
 go_enter Tryz.func28, Tryz.ntmps28
 go_wp2
 go_ret
 exact ⟨rfl, Blk.new w _ _, (Below.refl _ w).alloc (Nat.le_refl _) _⟩

set_option maxRecDepth 100000 in
set_option maxHeartbeats 1000000 in
theorem cutNumber_any (g : Nat) (s : ByteArray) (hs : s.size ≤ 9223372036854775807) (w : World) (h : Cut w g s) :
 Calls Tryz.prog 29 #[.func (.func 62) #[] #[.pointer (some ⟨g, 0, none⟩)]] w fun e w' => e = .returned (.int .i64 (numV (cutF 4 s) : Nat)) ∧ Cut w' g (cutR 4 s) ∧ w.grownBy w' (some g) := by
 have HC := Lib.hid (fun W hW => cut_any 4 g s hs W hW)
 have h4 := cutF4 s
 obtain ⟨x, hx⟩ : ∃ x, cutF 4 s = x := ⟨_, rfl⟩
 obtain ⟨r, hr⟩ : ∃ r, cutR 4 s = r := ⟨_, rfl⟩
 rw [hx, hr] at HC
 rw [hx] at h4 ⊢
 rw [hr]
 clear hx hr
 go_enter Tryz.func29, Tryz.ntmps29
 go_wp2_with fail
 refine (HC.out _ h).mono ?_
 rintro e w1 ⟨rfl, hc1, hg1⟩
 obtain ⟨w2, cap, hrun, hrow, hB2⟩ := run_bytes_brow (P := Tryz.prog) w1 9 119 5 x Tryz.underlying9 Tryz.underlying119 Tryz.underlying5
 have hc2 := hc1.below hB2
 have hg2 := only_then hg1 hB2
 have HN := Lib.hid (nums_length x)
 have hx4 : x.size ≤ 4 := by omega
 have HR := Lib.hid hrow
 have HX := Lib.hid h4
 generalize w1.heap.size = gb at *
 clear hc1 hg1 hB2 h h4 hrow
 go_wp2
 clear hrun
 go_loop [3, 10] (fun t i => ∃ k : Nat, k ≤ x.size ∧ i = .int .i64 k ∧ t = .int .i64 (beV ((nums x).take k) : Nat)) (fun _ i => x.size - (intOf i).toNat)
 case atStart => exact ⟨0, by omega, rfl, rfl⟩
 case round =>
  obtain ⟨k, hk, rfl, rfl⟩ := hrel
  by_cases hlt : k < x.size
  · have hlt' : (k : Int) < (x.size : Int) := by omega
    have hv := beV_take_lt x k (by omega)
    have hcell := HR.out.cells k (by rw [HN.out]; exact hlt)
    have HT := Lib.hid (show beV ((nums x).take (k + 1)) = beV ((nums x).take k) * 256 + (nums x).getD k 0 by
     rw [List.take_succ_eq_append_getElem (by rw [HN.out]; exact hlt), beV_snoc]
     congr 1
     rw [List.getD_eq_getElem?_getD, List.getElem?_eq_getElem (by rw [HN.out]; exact hlt)]
     rfl)
    have hb : (nums x).getD k 0 < 256 := by
     rw [List.getD_eq_getElem?_getD, List.getElem?_eq_getElem (by rw [HN.out]; exact hlt)]
     exact nums_lt x _ (List.getElem_mem _)
    unfold U8 at hcell
    generalize (nums x).getD k 0 = b at *
    obtain ⟨V, hV⟩ : ∃ V, beV ((nums x).take k) = V := ⟨_, rfl⟩
    rw [hV] at hv HT ⊢
    clear hV
    have HO := Lib.hid (or_low V b hv hb)
    go_wp2
    go_round
    case rel => exact ⟨k + 1, by omega, by go_num, by rw [HO.out, HT.out]⟩
    case measure => simp [intOf]; omega
  · have hkx : k = x.size := by omega
    have HF := Lib.hid (show beV ((nums x).take k) = numV x by
     unfold numV
     rw [List.take_of_length_le (by rw [HN.out]; omega)])
    have hge : ¬ (k : Int) < (x.size : Int) := by omega
    clear hlt hkx
    rw [HF.out]
    go_wp2
    go_ret
    exact ⟨rfl, hc2, hg2⟩
end Go.Proofs.YtakgolbgeeoioaaGreat

/-
  Layer 8: the ways to a leaf, and to the end of the first ones.
-/
import Derived.Test.YtfhfmfcmkiobdaaCLen
import Derived.Test.YtfhfmfcmkiobdaaCRev
namespace Go.Proofs.Ytfhfmfcmkiobdaa
open Go.RowKit

/-- what a call that makes a slice of bools answers -/
def RB (bs : List Bool) (w : World) (e : Ending) (w' : World) : Prop := ∃ v, e = .returned v ∧ OwnB w' w.heap.size v bs ∧ Below w.heap.size w w'
set_option maxRecDepth 100000 in
set_option maxHeartbeats 1000000 in
theorem wayToLeaf_any (i0 n0 : Nat) (hi0 : i0 < n0) (hn0 : n0 ≤ 1048576) (w : World) : Calls Try.prog 43 #[.int .i64 i0, .int .i64 n0] w (RB (wyl i0 n0).reverse w) := by
  obtain ⟨W, hW⟩ : ∃ W, wyl i0 n0 = W := ⟨_, rfl⟩
  rw [hW]
  have HW := Lib.hid hW
  clear hW
  go_enter Try.func43, Try.ntmps43
  go_wp2
  go_loopw [0, 1, 5] (fun vi vn vo wr => ∃ (i n : Nat) (pre : List Bool), vi = .int .i64 i ∧ vn = .int .i64 n ∧ i < n ∧ n ≤ n0 ∧ pre.length + n ≤ 1048577 ∧ Hid (W = pre ++ wyl i n) ∧ OwnB wr w.heap.size vo pre ∧ Below w.heap.size w wr)
    (fun vi vn vo _ => (intOf vn).toNat)
  case atStart => exact ⟨i0, n0, [], rfl, rfl, by omega, by omega, by simp; omega, Lib.hid (by rw [← HW.out]; rfl), ownB_nil _ _, Below.refl _ _⟩
  case round =>
    obtain ⟨i, n, pre, rfl, rfl, hi, hnn, hpl, HX, hown, hB⟩ := hrel
    by_cases hend : n ≤ 1
    · have HX' : Hid (W = pre) := Lib.hid (by rw [HX.out, wyl_end (by omega), List.append_nil])
      clear HX
      have hc : ¬ (1 : Int) < (n : Int) := by omega
      go_wp2_with fail
      refine (reverse_bool w.heap.size _ pre (by omega) wr hown).mono ?_
      rintro e w' ⟨⟨u, rfl⟩, hown2, hg2⟩
      have hB2 := below_row hB hown (Nat.le_refl _) hg2
      go_wp2
      go_ret
      exact ⟨_, rfl, by rw [HX'.out]; exact hown2, hB2⟩
    · have hn2 : 2 ≤ n := by omega
      have HP := Lib.hid (fun W => cpart_any i n hi hn2 (by omega) W)
      have hk1 := kC_pos n
      have hk2 := kC_lt hn2
      have hc : (1 : Int) < (n : Int) := by omega
      by_cases hlt : i < kC n
      · have HX' : Hid (W = (pre ++ [false]) ++ wyl i (kC n)) := Lib.hid (by rw [HX.out, wyl_left (by omega) hlt, List.append_assoc]; rfl)
        unfold partV at HP
        rw [if_pos hlt] at HP
        clear HX
        generalize kC n = k at *
        go_wp2_with (first | (refine wpList_append_bool rfl _ _ rfl w.heap.size _ pre rfl hown false rfl (by omega) hB.size ?_; intro g cap w1 hown1 hg1; have hB1 := below_row hB hown (Nat.le_refl _) hg1) | (go_at_call 47; refine (HP.out _).mono ?_; rintro e w' ⟨rfl, rfl⟩))
        go_roundw
        case rel => exact ⟨i, k, pre ++ [false], rfl, rfl, hlt, by omega, by simp; omega, HX', hown1, hB1⟩
        case measure => simp [intOf]; omega
      · have HX' : Hid (W = (pre ++ [true]) ++ wyl (i - kC n) (n - kC n)) := Lib.hid (by rw [HX.out, wyl_right (by omega) hlt, List.append_assoc]; rfl)
        unfold partV at HP
        rw [if_neg hlt] at HP
        clear HX
        generalize kC n = k at *
        go_wp2_with (first | (refine wpList_append_bool rfl _ _ rfl w.heap.size _ pre rfl hown true rfl (by omega) hB.size ?_; intro g cap w1 hown1 hg1; have hB1 := below_row hB hown (Nat.le_refl _) hg1) | (go_at_call 47; refine (HP.out _).mono ?_; rintro e w' ⟨rfl, rfl⟩))
        go_roundw
        case rel => exact ⟨i - k, n - k, pre ++ [true], rfl, rfl, by omega, by omega, by simp; omega, HX', hown1, hB1⟩
        case measure => simp [intOf]; omega
set_option maxRecDepth 100000 in
set_option maxHeartbeats 1000000 in
theorem wayToEnd_any (m0 n0 : Nat) (h1 : 1 ≤ m0) (hi0 : m0 ≤ n0) (hn0 : n0 ≤ 1048576) (w : World) : Calls Try.prog 35 #[.int .i64 m0, .int .i64 n0] w (RB (we (m0 - 1) n0).reverse w) := by
  obtain ⟨W, hW⟩ : ∃ W, we (m0 - 1) n0 = W := ⟨_, rfl⟩
  rw [hW]
  have HW := Lib.hid hW
  clear hW
  go_enter Try.func35, Try.ntmps35
  go_wp2
  go_loopw [1, 5, 6] (fun vn vo vi wr => ∃ (i n : Nat) (pre : List Bool), vi = .int .i64 i ∧ vn = .int .i64 n ∧ i < n ∧ n ≤ n0 ∧ pre.length + n ≤ 1048577 ∧ Hid (W = pre ++ we i n) ∧ OwnB wr w.heap.size vo pre ∧ Below w.heap.size w wr)
    (fun vn vo vi _ => (intOf vn).toNat)
  case atStart => exact ⟨m0 - 1, n0, [], by rw [show ((m0 - 1 : Nat) : Int) = (m0 : Int) - 1 by omega], rfl, by omega, by omega, by simp; omega, Lib.hid (by rw [← HW.out]; rfl), ownB_nil _ _, Below.refl _ _⟩
  case round =>
    obtain ⟨i, n, pre, rfl, rfl, hi, hnn, hpl, HX, hown, hB⟩ := hrel
    by_cases hend : n - 1 ≤ i
    · have HX' : Hid (W = pre) := Lib.hid (by rw [HX.out, we_end (by omega), List.append_nil])
      clear HX
      have hc : ¬ (i : Int) < (n : Int) - 1 := by omega
      go_wp2_with fail
      refine (reverse_bool w.heap.size _ pre (by omega) wr hown).mono ?_
      rintro e w' ⟨⟨u, rfl⟩, hown2, hg2⟩
      have hB2 := below_row hB hown (Nat.le_refl _) hg2
      go_wp2
      go_ret
      exact ⟨_, rfl, by rw [HX'.out]; exact hown2, hB2⟩
    · have hn2 : 2 ≤ n := by omega
      have HP := Lib.hid (fun W => cpart_any i n hi hn2 (by omega) W)
      have hk1 := kC_pos n
      have hk2 := kC_lt hn2
      have hc : (i : Int) < (n : Int) - 1 := by omega
      by_cases hlt : i < kC n
      · have HX' : Hid (W = (pre ++ [false]) ++ we i (kC n)) := Lib.hid (by rw [HX.out, we_left (by omega) hlt, List.append_assoc]; rfl)
        unfold partV at HP
        rw [if_pos hlt] at HP
        clear HX
        generalize kC n = k at *
        go_wp2_with (first | (refine wpList_append_bool rfl _ _ rfl w.heap.size _ pre rfl hown false rfl (by omega) hB.size ?_; intro g cap w1 hown1 hg1; have hB1 := below_row hB hown (Nat.le_refl _) hg1) | (go_at_call 47; refine (HP.out _).mono ?_; rintro e w' ⟨rfl, rfl⟩))
        go_roundw
        case rel => exact ⟨i, k, pre ++ [false], rfl, rfl, hlt, by omega, by simp; omega, HX', hown1, hB1⟩
        case measure => simp [intOf]; omega
      · have HX' : Hid (W = (pre ++ [true]) ++ we (i - kC n) (n - kC n)) := Lib.hid (by rw [HX.out, we_right (by omega) hlt, List.append_assoc]; rfl)
        unfold partV at HP
        rw [if_neg hlt] at HP
        clear HX
        generalize kC n = k at *
        go_wp2_with (first | (refine wpList_append_bool rfl _ _ rfl w.heap.size _ pre rfl hown true rfl (by omega) hB.size ?_; intro g cap w1 hown1 hg1; have hB1 := below_row hB hown (Nat.le_refl _) hg1) | (go_at_call 47; refine (HP.out _).mono ?_; rintro e w' ⟨rfl, rfl⟩))
        go_roundw
        case rel => exact ⟨i - k, n - k, pre ++ [true], rfl, rfl, by omega, by omega, by simp; omega, HX', hown1, hB1⟩
        case measure => simp [intOf]; omega
end Go.Proofs.Ytfhfmfcmkiobdaa

/-
  How long stretches are, in plain words.
-/
import Derived.Test.YtmokkahkfmmnmaaRLaw
namespace Go.Proofs.Ytmokkahkfmmnmaa
open Go.RowKit

/-- how long the stretches of n leaves are, the longest first -/
def strL (n : Nat) : List Nat := if h : 0 < n then 2 ^ Nat.log2 n :: strL (n - 2 ^ Nat.log2 n) else []
termination_by n
decreasing_by have := Nat.two_pow_pos (Nat.log2 n); omega
theorem strL_zero : strL 0 = [] := by rw [strL]; rfl
theorem strL_pos {n : Nat} (h : 0 < n) : strL n = 2 ^ Nat.log2 n :: strL (n - 2 ^ Nat.log2 n) := by rw [strL, dif_pos h]
theorem log2_at {n k : Nat} (h1 : 2 ^ k ≤ n) (h2 : n < 2 ^ (k + 1)) : Nat.log2 n = k := by
  have hn : n ≠ 0 := by have := Nat.two_pow_pos k; omega
  have a := (Nat.le_log2 hn).2 h1
  have b := (Nat.log2_lt hn).2 h2
  omega
theorem log2_le {n : Nat} (h : 0 < n) : 2 ^ Nat.log2 n ≤ n := (Nat.le_log2 (by omega)).1 (Nat.le_refl _)
theorem lt_log2 {n : Nat} (h : 0 < n) : n < 2 ^ (Nat.log2 n + 1) := (Nat.log2_lt (by omega)).1 (by omega)
theorem strL_at {n k : Nat} (h1 : 2 ^ k ≤ n) (h2 : n < 2 ^ (k + 1)) : strL n = 2 ^ k :: strL (n - 2 ^ k) := by
  rw [strL_pos (by have := Nat.two_pow_pos k; omega), log2_at h1 h2]
theorem strL_sum (n : Nat) : (strL n).sum = n := by
  induction n using Nat.strongRecOn with
  | _ n ih =>
    by_cases h : 0 < n
    · rw [strL_pos h, List.sum_cons, ih _ (by have := Nat.two_pow_pos (Nat.log2 n); omega)]
      have := log2_le h
      omega
    · obtain rfl : n = 0 := by omega
      rw [strL_zero]; rfl
theorem strL_len (k : Nat) : ∀ n, n < 2 ^ k → (strL n).length ≤ k := by
  induction k with
  | zero => intro n h; obtain rfl : n = 0 := by simpa using h
            rw [strL_zero]; exact Nat.le_refl _
  | succ k ih =>
    intro n h
    by_cases h1 : 2 ^ k ≤ n
    · rw [strL_at h1 h, List.length_cons]
      have := ih (n - 2 ^ k) (by rw [Nat.pow_succ] at h; omega)
      omega
    · have := ih n (by omega)
      omega
theorem strL_le {n x : Nat} (h : x ∈ strL n) : 0 < x ∧ x ≤ n := by
  induction n using Nat.strongRecOn with
  | _ n ih =>
    by_cases h0 : 0 < n
    · rw [strL_pos h0] at h
      rcases List.mem_cons.1 h with rfl | h
      · exact ⟨Nat.two_pow_pos _, log2_le h0⟩
      · have := ih _ (by have := Nat.two_pow_pos (Nat.log2 n); omega) h
        exact ⟨this.1, Nat.le_trans this.2 (Nat.sub_le _ _)⟩
    · obtain rfl : n = 0 := by omega
      rw [strL_zero] at h; cases h
/-- one stretch more, shorter than all -/
theorem strL_snoc (j : Nat) : ∀ n, 2 ^ (j + 1) ∣ n → strL (n + 2 ^ j) = strL n ++ [2 ^ j] := by
  intro n
  induction n using Nat.strongRecOn with
  | _ n ih =>
    intro hd
    by_cases h0 : 0 < n
    · have hj := Nat.le_of_dvd h0 hd
      have h1 := log2_le h0
      have h2 := lt_log2 h0
      generalize Nat.log2 n = k at *
      have hjk : j + 1 ≤ k := by
        have : 2 ^ (j + 1) < 2 ^ (k + 1) := by omega
        have := (Nat.pow_lt_pow_iff_right (by decide : 1 < 2)).1 this
        omega
      have hd1 : 2 ^ (j + 1) ∣ 2 ^ k := Nat.pow_dvd_pow 2 hjk
      have hd2 : 2 ^ (j + 1) ∣ 2 ^ (k + 1) := Nat.pow_dvd_pow 2 (by omega)
      have hs : 2 ^ (j + 1) = 2 * 2 ^ j := by rw [Nat.pow_succ]; omega
      have hp := Nat.two_pow_pos j
      have h3 : n + 2 ^ j < 2 ^ (k + 1) := by
        have hd3 := Nat.dvd_sub hd2 hd
        have := Nat.le_of_dvd (by omega) hd3
        omega
      rw [strL_at (show 2 ^ k ≤ n + 2 ^ j by omega) h3, strL_at h1 h2, show n + 2 ^ j - 2 ^ k = (n - 2 ^ k) + 2 ^ j by omega, ih (n - 2 ^ k) (by have := Nat.two_pow_pos k; omega) (Nat.dvd_sub hd hd1)]
      rfl
    · obtain rfl : n = 0 := by omega
      rw [Nat.zero_add, strL_at (Nat.le_refl _) (by rw [Nat.pow_succ]; have := Nat.two_pow_pos j; omega), Nat.sub_self, strL_zero]
      rfl
/-- a stretch's length is a power of two that divides those ahead of it together -/
theorem strL_part (m : Nat) : ∀ (pre rest : List Nat) (s : Nat), strL m = pre ++ s :: rest → ∃ j, s = 2 ^ j ∧ s ∣ pre.sum := by
  induction m using Nat.strongRecOn with
  | _ m ih =>
    intro pre rest s h
    by_cases h0 : 0 < m
    · rw [strL_pos h0] at h
      cases pre with
      | nil =>
        injection h with h1 h2
        exact ⟨_, h1.symm, by simp⟩
      | cons a pre =>
        injection h with h1 h2
        have hp := Nat.two_pow_pos (Nat.log2 m)
        obtain ⟨j, hj, hd⟩ := ih _ (by omega) pre rest s h2
        refine ⟨j, hj, ?_⟩
        rw [List.sum_cons]
        refine Nat.dvd_add ?_ hd
        have h3 := (strL_le (n := m - 2 ^ Nat.log2 m) (x := s) (by rw [h2]; simp)).2
        have h4 := lt_log2 h0
        rw [← h1, hj]
        rw [hj] at h3
        rw [Nat.pow_succ] at h4
        have h5 : 2 ^ j < 2 ^ Nat.log2 m := by omega
        exact Nat.pow_dvd_pow 2 (Nat.le_of_lt ((Nat.pow_lt_pow_iff_right (by decide : 1 < 2)).1 h5))
    · obtain rfl : m = 0 := by omega
      rw [strL_zero] at h
      simp at h
/-- the last of a list of numbers -/
def lastN (l : List Nat) : Nat := l.getD (l.length - 1) 0
theorem lastN_snoc (l : List Nat) (x : Nat) : lastN (l ++ [x]) = x := by simp [lastN, List.getD_eq_getElem?_getD]
theorem strL_last {n : Nat} (h : 0 < n) : ∃ j, lastN (strL n) = 2 ^ j ∧ lastN (strL n) ∣ n := by
  have hne : strL n ≠ [] := by rw [strL_pos h]; simp
  have e := List.dropLast_concat_getLast hne
  have h1 : lastN (strL n) = (strL n).getLast hne := by
    conv => lhs; rw [← e]
    rw [lastN_snoc]
  obtain ⟨j, hj, hd⟩ := strL_part n (strL n).dropLast [] ((strL n).getLast hne) e.symm
  refine ⟨j, h1.trans hj, ?_⟩
  rw [h1]
  have hs := strL_sum n
  rw [← e, List.sum_append, List.sum_cons, List.sum_nil] at hs
  have h2 : (strL n).getLast hne ∣ (strL n).dropLast.sum + ((strL n).getLast hne + 0) := Nat.dvd_add hd (by rw [Nat.add_zero]; exact Nat.dvd_refl _)
  rwa [hs] at h2
end Go.Proofs.Ytmokkahkfmmnmaa

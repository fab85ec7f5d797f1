/-
  The roots of stretches, in plain words.
-/
import Derived.Test.YtmokkahkfmmnmaaMMath
import Derived.Test.YtmokkahkfmmnmaaRStr
namespace Go.Proofs.Ytmokkahkfmmnmaa
open Go.RowKit

/-- the roots of stretches of those lengths -/
def chk : List Nat → List ByteArray → List ByteArray
  | [], _ => []
  | s :: r, l => rootM (l.take s) :: chk r (l.drop s)
theorem chk_length (s : List Nat) (l : List ByteArray) : (chk s l).length = s.length := by
  induction s generalizing l with
  | nil => rfl
  | cons a r ih => simp [chk, ih]
theorem chk_append (a b : List Nat) (l : List ByteArray) : chk (a ++ b) l = chk a l ++ chk b (l.drop a.sum) := by
  induction a generalizing l with
  | nil => simp [chk]
  | cons x r ih => simp [chk, ih, List.drop_drop]
theorem chk_take (a : List Nat) (l : List ByteArray) (n : Nat) (h : a.sum ≤ n) : chk a (l.take n) = chk a l := by
  induction a generalizing l n with
  | nil => rfl
  | cons x r ih =>
    rw [List.sum_cons] at h
    rw [chk, chk, List.take_take, Nat.min_eq_left (by omega), List.drop_take, ih _ _ (by omega)]
/-- a range's hashes -/
def ofM (l : List ByteArray) : List ByteArray := chk (strL l.length) l
theorem ofM_length (l : List ByteArray) : (ofM l).length = (strL l.length).length := chk_length _ _
theorem ofM_nil : ofM [] = [] := by unfold ofM; rw [List.length_nil, strL_zero]; rfl
theorem sz_chk {s : List Nat} {l : List ByteArray} (h : Sz l) : Sz (chk s l) := by
  induction s generalizing l with
  | nil => intro x hx; cases hx
  | cons a r ih =>
    intro x hx
    rcases List.mem_cons.1 hx with rfl | hx
    · exact rootM_sz (h.take _)
    · exact ih (h.drop _) x hx
/-- the root of a range's hashes -/
def rtM : List ByteArray → ByteArray
  | [] => hB ⟨#[]⟩
  | [x] => x
  | x :: y :: r => nodM x (rtM (y :: r))
theorem kM_two (k : Nat) : kM (2 ^ (k + 1)) = 2 ^ k := by
  unfold kM
  have hp := Nat.two_pow_pos k
  rw [log2_at (k := k) (by rw [Nat.pow_succ]; omega) (by omega)]
theorem rtM_of (l : List ByteArray) : rtM (ofM l) = rootM l := by
  induction hn : l.length using Nat.strongRecOn generalizing l with
  | _ n ih =>
    subst hn
    by_cases h0 : 0 < l.length
    · have h1 := log2_le h0
      have h2 := lt_log2 h0
      unfold ofM
      rw [strL_pos h0]
      by_cases he : l.length = 2 ^ Nat.log2 l.length
      · rw [← he, Nat.sub_self, strL_zero]
        simp [chk, rtM]
      · have hk : kM l.length = 2 ^ Nat.log2 l.length := by
          unfold kM
          rw [log2_at (n := l.length - 1) (k := Nat.log2 l.length) (by omega) (by omega)]
        have hI := ih (l.drop (2 ^ Nat.log2 l.length)).length (by rw [List.length_drop]; have := Nat.two_pow_pos (Nat.log2 l.length); omega) _ rfl
        unfold ofM at hI
        rw [List.length_drop] at hI
        rw [rootM_more (by have := Nat.two_pow_pos (Nat.log2 l.length); omega), hk, ← hI, chk]
        rw [strL_pos (n := l.length - 2 ^ Nat.log2 l.length) (by omega), chk, rtM]
    · have : l.length = 0 := by omega
      rw [List.length_eq_zero_iff] at this
      subst this
      rw [ofM_nil, rootM_nil rfl]
      rfl
/-- one stretch more behind: as a bit is carried -/
def putM (s x : Nat) (l : List ByteArray) (r : ByteArray) : List ByteArray :=
  if h : s &&& x ≠ 0 ∧ 0 < l.length then putM s (2 * x) (cutM l) (nodM (endM l) r) else l ++ [r]
termination_by l.length
decreasing_by rw [cutM_length]; omega
theorem putM_on {s x : Nat} {l : List ByteArray} (r : ByteArray) (h : s &&& x ≠ 0) (hl : 0 < l.length) : putM s x l r = putM s (2 * x) (cutM l) (nodM (endM l) r) := by rw [putM, dif_pos ⟨h, hl⟩]
theorem putM_off {s x : Nat} {l : List ByteArray} (r : ByteArray) (h : ¬ (s &&& x ≠ 0 ∧ 0 < l.length)) : putM s x l r = l ++ [r] := by rw [putM, dif_neg h]
theorem and_two (s j : Nat) : (s &&& 2 ^ j ≠ 0) ↔ s / 2 ^ j % 2 = 1 := by
  have e : (s &&& 2 ^ j = 0) ↔ s.testBit j = false := by
    constructor
    · intro h
      have := congrArg (·.testBit j) h
      simpa [Nat.testBit_and, Nat.testBit_two_pow] using this
    · intro h
      apply Nat.eq_of_testBit_eq
      intro i
      simp only [Nat.testBit_and, Nat.testBit_two_pow, Nat.zero_testBit]
      by_cases hij : j = i
      · subst hij; simp [h]
      · simp [hij]
  rw [ne_eq, e, Nat.testBit_eq_decide_div_mod_eq]
  simp
theorem chk_left (a : List Nat) (l y : List ByteArray) (h : a.sum ≤ l.length) : chk a (l ++ y) = chk a l := by
  rw [← chk_take a (l ++ y) l.length h, List.take_left]
theorem ofM_snoc (j : Nat) (l y : List ByteArray) (hd : 2 ^ (j + 1) ∣ l.length) (hy : y.length = 2 ^ j) : ofM (l ++ y) = ofM l ++ [rootM y] := by
  unfold ofM
  rw [List.length_append, hy, strL_snoc j _ hd, chk_append, strL_sum, List.drop_left, chk_left _ _ _ (by rw [strL_sum]; exact Nat.le_refl _)]
  simp only [chk]
  rw [← hy, List.take_length]
theorem rootM_both (j : Nat) (z y : List ByteArray) (hz : z.length = 2 ^ j) (hy : y.length = 2 ^ j) : nodM (rootM z) (rootM y) = rootM (z ++ y) := by
  have hp := Nat.two_pow_pos j
  rw [rootM_more (l := z ++ y) (by rw [List.length_append]; omega)]
  have hk : kM (z ++ y).length = z.length := by rw [List.length_append, hz, hy, show 2 ^ j + 2 ^ j = 2 ^ (j + 1) by rw [Nat.pow_succ]; omega, kM_two]
  rw [hk, List.take_left, List.drop_left]
theorem putM_of (s : Nat) (q : Nat) : ∀ (j : Nat) (l y : List ByteArray), l.length = 2 ^ j * q → s / 2 ^ j = q → y.length = 2 ^ j → putM s (2 ^ j) (ofM l) (rootM y) = ofM (l ++ y) := by
  induction q using Nat.strongRecOn with
  | _ q ih =>
    intro j l y hl hs hy
    have hp := Nat.two_pow_pos j
    have hpow : 2 ^ (j + 1) = 2 * 2 ^ j := by rw [Nat.pow_succ]; omega
    by_cases hq : q % 2 = 1
    · obtain ⟨p, rfl⟩ : ∃ p, q = 2 * p + 1 := ⟨q / 2, by omega⟩
      have hn : l.length = 2 ^ (j + 1) * p + 2 ^ j := by rw [hl, hpow, Nat.mul_add, Nat.mul_one, Nat.mul_comm 2 (2 ^ j), Nat.mul_assoc]
      have ht : (l.take (2 ^ (j + 1) * p)).length = 2 ^ (j + 1) * p := by rw [List.length_take]; omega
      have hz : (l.drop (2 ^ (j + 1) * p)).length = 2 ^ j := by rw [List.length_drop]; omega
      have e := ofM_snoc j (l.take (2 ^ (j + 1) * p)) (l.drop (2 ^ (j + 1) * p)) (by rw [ht]; exact Nat.dvd_mul_right _ _) hz
      rw [List.take_append_drop] at e
      rw [e, putM_on _ ((and_two s j).2 (by rw [hs]; exact hq)) (by simp), cutM_snoc, endM_snoc, rootM_both j _ _ hz hy, ← hpow, ih p (by omega) (j + 1) _ _ ht (by rw [Nat.pow_succ, ← Nat.div_div_eq_div_mul, hs]; omega) (by rw [List.length_append, hz, hy]; omega), ← List.append_assoc, List.take_append_drop]
    · rw [putM_off _ (fun h => hq (by rw [← hs]; exact (and_two s j).1 h.1))]
      obtain ⟨p, rfl⟩ : ∃ p, q = 2 * p := ⟨q / 2, by omega⟩
      rw [ofM_snoc j l y (by rw [hl, hpow, ← Nat.mul_assoc, Nat.mul_comm (2 ^ j) 2]; exact Nat.dvd_mul_right _ _) hy]
theorem putM_add (l : List ByteArray) (x : ByteArray) : putM l.length 1 (ofM l) x = ofM (l ++ [x]) := by
  have h := putM_of l.length l.length 0 l [x] (by simp) (by simp) rfl
  rw [rootM_one rfl] at h
  exact h
theorem putM_join (x y : List ByteArray) (hxy : 0 < x.length → y.length ≤ lastN (strL x.length)) (pre rest : List Nat) (s : Nat) (h : strL y.length = pre ++ s :: rest) :
    putM (x.length + pre.sum) s (ofM (x ++ y.take pre.sum)) (rootM ((y.drop pre.sum).take s)) = ofM (x ++ y.take (pre.sum + s)) := by
  obtain ⟨j, rfl, hd⟩ := strL_part _ _ _ _ h
  have hsum := strL_sum y.length
  rw [h, List.sum_append, List.sum_cons] at hsum
  have hx : 2 ^ j ∣ x.length := by
    by_cases h0 : 0 < x.length
    · obtain ⟨i, hi, hdi⟩ := strL_last h0
      have := hxy h0
      rw [hi] at this hdi
      exact Nat.dvd_trans (Nat.pow_dvd_pow 2 ((Nat.pow_le_pow_iff_right (by decide : 1 < 2)).1 (by omega))) hdi
    · have : x.length = 0 := by omega
      rw [this]; exact Nat.dvd_zero _
  have ht : (y.take pre.sum).length = pre.sum := by rw [List.length_take]; omega
  obtain ⟨q, hq⟩ := Nat.dvd_add hx hd
  have e := putM_of (x.length + pre.sum) q j (x ++ y.take pre.sum) ((y.drop pre.sum).take (2 ^ j)) (by rw [List.length_append, ht]; exact hq) (by rw [hq]; exact Nat.mul_div_cancel_left _ (Nat.two_pow_pos j)) (by rw [List.length_take, List.length_drop]; omega)
  rw [e, List.append_assoc, ← List.take_add]
end Go.Proofs.Ytmokkahkfmmnmaa

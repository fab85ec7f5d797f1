/-
  The reference's right, and what its block is made of, in numbers.
-/
import Derived.Test.YtbkmclgddknijaaMsgWrite
import Derived.Test.YtbkmclgddknijaaAwake
namespace Go.Proofs.Ytbkmclgddknijaa
open Go.RowKit

theorem ret_u64 {a b : Int} (h : a = b) : Ending.returned (.int .u64 a) = .returned (.int .u64 b) := by rw [h]
theorem right_num (x n : Nat) (hx : x < 4294967296) (hn : n ≤ 32) : (x * 4294967296 + x) / 2 ^ n % 4294967296 = rotr x n := by
  have e : (4294967296 : Nat) = 2 ^ (32 - n) * 2 ^ n := by rw [← Nat.pow_add, show 32 - n + n = 32 by omega]
  have h1 : (x * 4294967296 + x) / 2 ^ n = x * 2 ^ (32 - n) + x / 2 ^ n := by
    rw [e, ← Nat.mul_assoc, Nat.mul_comm (x * 2 ^ (32 - n)) (2 ^ n), Nat.mul_add_div (Nat.two_pow_pos n)]
  have e' : (4294967296 : Nat) = 2 ^ n * 2 ^ (32 - n) := by rw [Nat.mul_comm]; exact e
  have h2 : x * 2 ^ (32 - n) % 4294967296 = x % 2 ^ n * 2 ^ (32 - n) := by rw [e', Nat.mul_mod_mul_right]
  have h3 := rotr_lt x n hx hn
  rw [h1, Nat.add_mod, h2]
  have h4 : x / 2 ^ n < 4294967296 := Nat.lt_of_le_of_lt (Nat.div_le_self _ _) hx
  rw [Nat.mod_eq_of_lt h4]
  have h5 : x % 2 ^ n * 2 ^ (32 - n) + x / 2 ^ n = rotr x n := by unfold rotr; omega
  rw [h5, Nat.mod_eq_of_lt h3]

set_option maxHeartbeats 400000 in
theorem rotr_any (x n : Nat) (hx : x < 4294967296) (hn : n < 32) (w : World) : Calls Try.prog 61 #[.int .u64 x, .int .u64 n] w fun e w' => e = .returned (.int .u64 (rotr x n : Nat)) ∧ w = w' := by
  have HR := Lib.hid (right_num x n hx (by omega))
  have hn' : (n : Int) < 64 := by omega
  go_enter Try.func61, Try.ntmps61
  go_wp2
  go_ret
  refine ⟨ret_u64 ?_, rfl⟩
  rw [← HR.out]
  have e : ((x : Int) * 4294967296 + (x : Int)) / 2 ^ n = (((x * 4294967296 + x) / 2 ^ n : Nat) : Int) := by simp
  rw [e, Int.tmod_eq_emod_of_nonneg (Int.natCast_nonneg _)]
  simp

/-- j bytes of word n put together -/
def part (B : Nat → Nat) (n : Nat) : Nat → Nat
  | 0 => 0
  | j + 1 => part B n j * 256 + B (4 * n + j)
theorem part_four (B : Nat → Nat) (n : Nat) : part B n 4 = wd B n := by
  simp only [part, wd, Nat.add_zero]
  omega
theorem pow_lt_of {B : Nat → Nat} (h : ∀ i, B i < 256) (n : Nat) : ∀ j, part B n j < 256 ^ j
  | 0 => by simp [part]
  | j + 1 => by
    have := pow_lt_of h n j
    have hb := h (4 * n + j)
    show part B n j * 256 + B (4 * n + j) < 256 ^ j * 256
    omega
theorem part_lt4 {B : Nat → Nat} (h : ∀ i, B i < 256) (n j : Nat) (hj : j ≤ 4) : part B n j < 4294967296 :=
  Nat.lt_of_lt_of_le (pow_lt_of h n j) (by show 256 ^ j ≤ 256 ^ 4; exact Nat.pow_le_pow_right (by decide) hj)
theorem padded_set_self (f : Nat → Value) {m : Nat} {l : List Nat} (h : l.length < m) : (padded f m l).setIfInBounds l.length (f 0) = padded f m l := by
  rw [padded_set f h 0]
  unfold padded
  congr 2
  rw [List.append_assoc, List.length_append, List.length_cons, List.length_nil]
  congr 1
  rw [show m - l.length = (m - (l.length + (0 + 1))) + 1 by omega, List.replicate_succ]
  rfl

/-- eight words, those behind j moved one on -/
def shf (l : List Nat) (j : Nat) : List Nat := (List.range 8).map fun i => if j < i then l.getD (i - 1) 0 else l.getD i 0
theorem shf_length (l : List Nat) (j : Nat) : (shf l j).length = 8 := by simp [shf]
theorem shf_seven {l : List Nat} (h : l.length = 8) : shf l 7 = l := by
  match l, h with
  | [_, _, _, _, _, _, _, _], _ => rfl
theorem shf_at (l : List Nat) (j : Nat) (h : j < 8) (h0 : 0 < j) : (shf l j).getD (j - 1) 0 = l.getD (j - 1) 0 := by
  simp [shf, List.getD_eq_getElem?_getD, show j - 1 < 8 by omega, show ¬ j < j - 1 by omega]
theorem shf_set (l : List Nat) (j : Nat) (h : j < 8) (h0 : 0 < j) : (shf l j).set j (l.getD (j - 1) 0) = shf l (j - 1) := by
  apply List.ext_getElem?
  intro i
  rw [List.getElem?_set]
  simp only [shf, List.getElem?_map, List.length_map, List.length_range]
  by_cases hi : i < 8
  · by_cases e : j = i
    · subst e; simp [hi, show j - 1 < j by omega]
    · simp only [e, if_false, List.getElem?_range, hi]
      by_cases h2 : j < i
      · simp [h2, show j - 1 < i by omega]
      · simp [h2, show ¬ j - 1 < i by omega]
  · simp [List.getElem?_eq_none (show (List.range 8).length ≤ i by simp; omega)]
    omega
theorem shf_zero (s : S8) : shf s.list 0 = [s.a, s.a, s.b, s.c, s.d, s.e, s.f, s.g] := rfl
theorem rnd_list (s : S8) (k w x y : Nat) (hx : x = (s.d + tOne s k w) % 4294967296) (hy : y = (tOne s k w + tTwo s) % 4294967296) : ((shf s.list 0).set 4 x).set 0 y = (rnd s k w).list := by
  subst hx hy
  rfl
/-- the reference's majority, by ors -/
theorem mjr_or (x y z : Nat) : (x &&& y) ||| (x &&& z) ||| (y &&& z) = mjr x y z := by
  unfold mjr
  apply Nat.eq_of_testBit_eq
  intro i
  simp only [Nat.testBit_or, Nat.testBit_and, Nat.testBit_xor]
  cases x.testBit i <;> cases y.testBit i <;> cases z.testBit i <;> rfl
end Go.Proofs.Ytbkmclgddknijaa

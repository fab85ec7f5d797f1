/-
  Bits of strings: plain words.
-/
import Derived.Test.YtjdjndginacdnaaRounds
import Derived.Test.YtjdjndginacdnaaTxt
namespace Go.Proofs.Ytjdjndginacdnaa
open Go.RowKit

/-- the bit i of a string, each byte's highest first -/
def bitS (s : ByteArray) (i : Nat) : Bool := (nums s).getD (i / 8) 0 / 2 ^ (7 - i % 8) % 2 == 1
theorem and_pow (x m : Nat) : x &&& 2 ^ m = if x.testBit m then 2 ^ m else 0 := by
  apply Nat.eq_of_testBit_eq
  intro i
  rw [Nat.testBit_and, Nat.testBit_two_pow]
  by_cases h : m = i
  · subst h
    cases hx : x.testBit m <;> simp
  · simp only [h, decide_false, Bool.and_false]
    split
    · rw [Nat.testBit_two_pow]; simp [h]
    · simp
theorem and_mask (x m : Nat) : ((x &&& 2 ^ m) != 0) = (x / 2 ^ m % 2 == 1) := by
  rw [and_pow, Nat.testBit_eq_decide_div_mod_eq]
  by_cases h : x / 2 ^ m % 2 = 1 <;> simp [h]
theorem nums_at (s : ByteArray) {i : Nat} (h : i < s.size) : (nums s).getD i 0 = s[i].toNat := by
  simp [nums, List.getD_eq_getElem?_getD]
  rw [Array.getElem?_eq_getElem (by simpa using h)]
  rfl
theorem str_idx (s : ByteArray) (j : Nat) (hj : j < s.size) (W : World) : (Instr.index 9 (.string s) (.int .i64 (j : Int))).run Try.prog W = .ok (.int .u8 ((nums s).getD j 0 : Nat)) W := by
  have h2 : (j : Int) < (s.size : Int) := by omega
  rw [nums_at s hj]
  go_simp
theorem i64_small {n : Nat} (h : n ≤ 4611686018427387904) : IntKind.i64.wrap (n : Int) = n := by
  simp [IntKind.wrap, IntKind.bits, IntKind.signed]
  omega
end Go.Proofs.Ytjdjndginacdnaa

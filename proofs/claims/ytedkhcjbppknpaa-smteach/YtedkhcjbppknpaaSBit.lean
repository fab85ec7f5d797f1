/-
  Bits of strings: the program's closure, and the reference's Bit.
-/
import Derived.Test.YtedkhcjbppknpaaRounds
import Derived.Test.YtedkhcjbppknpaaTxt
namespace Go.Proofs.Ytedkhcjbppknpaa
open Go.RowKit

/-- the bit i of a string, each byte's highest first -/
def bitS (s : ByteArray) (i : Nat) : Bool := (nums s).getD (i / 8) 0 / 2 ^ (7 - i % 8) % 2 == 1
theorem and_pow (x m : Nat) : x &&& 2 ^ m = if x.testBit m then 2 ^ m else 0 := by
  apply Nat.eq_of_testBit_eq
  intro i
  rw [Nat.testBit_and, Nat.testBit_two_pow]
  by_cases h : m = i
  · subst h
    cases hx : x.testBit m <;> simp
  · simp only [h, decide_false, Bool.and_false]
    split
    · rw [Nat.testBit_two_pow]; simp [h]
    · simp
theorem and_mask (x m : Nat) : ((x &&& 2 ^ m) != 0) = (x / 2 ^ m % 2 == 1) := by
  rw [and_pow, Nat.testBit_eq_decide_div_mod_eq]
  by_cases h : x / 2 ^ m % 2 = 1 <;> simp [h]
set_option maxRecDepth 100000 in
theorem mask_any (i : Nat) (hi : i < 256) (w : World) : Calls Try.prog 52 #[.int .i64 i] w fun e w' => e = .returned (.int .u8 (2 ^ (7 - i % 8) : Nat)) ∧ w = w' := by
  have hm : i % 8 < 8 := Nat.mod_lt _ (by decide)
  have he : ((i : Int) % 8) = ((i % 8 : Nat) : Int) := by omega
  generalize i % 8 = m at *
  have HE := Lib.hid (show (128 : Int) / 2 ^ m = ((2 ^ (7 - m) : Nat) : Int) by
    have : ∀ m : Fin 8, (128 : Int) / 2 ^ m.val = ((2 ^ (7 - m.val) : Nat) : Int) := by decide +kernel
    exact this ⟨m, hm⟩)
  go_enter Try.func52, Try.ntmps52
  go_wp2
  go_ret
  refine ⟨?_, rfl⟩
  rw [← HE.out]
  rfl
theorem nums_at (s : ByteArray) {i : Nat} (h : i < s.size) : (nums s).getD i 0 = s[i].toNat := by
  simp [nums, List.getD_eq_getElem?_getD]
  rw [Array.getElem?_eq_getElem (by simpa using h)]
  rfl
theorem str_idx (s : ByteArray) (j : Nat) (hj : j < s.size) (W : World) : (Instr.index 9 (.string s) (.int .i64 (j : Int))).run Try.prog W = .ok (.int .u8 ((nums s).getD j 0 : Nat)) W := by
  have h2 : (j : Int) < (s.size : Int) := by omega
  rw [nums_at s hj]
  go_simp
theorem i64_small {n : Nat} (h : n ≤ 4611686018427387904) : IntKind.i64.wrap (n : Int) = n := by
  simp [IntKind.wrap, IntKind.bits, IntKind.signed]
  omega
set_option maxRecDepth 100000 in
set_option maxHeartbeats 400000 in
theorem bitf_any (c i : Nat) (hi : i < 256) (s : ByteArray) (hs : s.size = 32) (w : World) (hc : w.cell? ⟨c, 0, none⟩ = some (.int .i64 i)) :
    Calls Try.prog 60 #[.string s, .pointer (some ⟨c, 0, none⟩)] w fun e w' => e = .returned (.bool (bitS s i)) ∧ ∃ q, w' = w.drewN q := by
  have HM := Lib.hid (fun W => mask_any i hi W)
  obtain ⟨j, hj⟩ : ∃ j, i / 8 = j := ⟨_, rfl⟩
  have he : ((i : Int) / 8) = (j : Int) := by omega
  have hlt : j < s.size := by omega
  have hw : IntKind.i64.wrap (j : Int) = j := i64_small (by omega)
  have hx := str_idx s j hlt
  have HB := Lib.hid (show bitS s i = (((nums s).getD j 0 &&& 2 ^ (7 - i % 8)) != 0) by
    unfold bitS
    rw [hj]
    exact (and_mask _ _).symm)
  rw [HB.out]
  have hm : 2 ^ (7 - i % 8) < 256 := by
    have : 2 ^ (7 - i % 8) ≤ 2 ^ 7 := Nat.pow_le_pow_right (by decide) (by omega)
    omega
  generalize 2 ^ (7 - i % 8) = M at *
  have hX : (nums s).getD j 0 < 256 := by rw [nums_at s hlt]; exact UInt8.toNat_lt _
  generalize (nums s).getD j 0 = X at *
  have HA := Lib.hid (u8_and_nat X M hX hm)
  clear hj HB
  go_enter Try.func60, Try.ntmps60
  go_wp2
  go_quiet ((go_at_call 52; exact quiet_left (HM.out _)))
  rw [HA.out]
  go_wp2
  go_ret
  refine ⟨boolEq ?_, nq, rfl⟩
  rw [Bool.eq_iff_iff]
  simp
end Go.Proofs.Ytedkhcjbppknpaa

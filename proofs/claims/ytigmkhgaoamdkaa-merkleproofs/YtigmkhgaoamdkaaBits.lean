/-
  sha's small functions on words, each for every world: turnRight, the four sigmas, choose, majority.
-/
import Derived.Test.YtigmkhgaoamdkaaPrim
namespace Go.Proofs.Ytigmkhgaoamdkaa
open Go.RowKit

/-- x turned right by n, as 32 bits -/
def rotr (x n : Nat) : Nat := x / 2 ^ n + x % 2 ^ n * 2 ^ (32 - n)

theorem rotr_or (x n : Nat) (hx : x < 4294967296) (hn : n ≤ 32) : x * 2 ^ (32 - n) % 4294967296 ||| x / 2 ^ n = rotr x n := by
  have e : (4294967296 : Nat) = 2 ^ n * 2 ^ (32 - n) := by rw [← Nat.pow_add, show n + (32 - n) = 32 by omega]
  have h1 : x * 2 ^ (32 - n) % 4294967296 = x % 2 ^ n * 2 ^ (32 - n) := by rw [e, Nat.mul_mod_mul_right]
  have h2 : x / 2 ^ n < 2 ^ (32 - n) := by
    rw [Nat.div_lt_iff_lt_mul (Nat.two_pow_pos n), Nat.mul_comm, ← e]; exact hx
  rw [h1, nat_join (32 - n) _ _ (by simp) h2]
  unfold rotr
  omega
theorem rotr_lt (x n : Nat) (hx : x < 4294967296) (hn : n ≤ 32) : rotr x n < 4294967296 := by
  rw [← rotr_or x n hx hn]
  exact Nat.or_lt_two_pow (n := 32) (Nat.mod_lt _ (by decide)) (Nat.lt_of_le_of_lt (Nat.div_le_self _ _) hx)

theorem rl_spell (x s : Nat) (hx : x < 4294967296) (hs : s ≤ 32) : bits BinOp.or IntKind.u32 ((x : Int) * 2 ^ s % 4294967296) ((x : Int) / 2 ^ (32 - s)) = ((rotr x (32 - s) : Nat) : Int) := by
  have e1 : (x : Int) * 2 ^ s % 4294967296 = ((x * 2 ^ s % 4294967296 : Nat) : Int) := by simp
  have e2 : (x : Int) / 2 ^ (32 - s) = ((x / 2 ^ (32 - s) : Nat) : Int) := by simp
  rw [e1, e2, u32_or_nat _ _ (Nat.mod_lt _ (by decide)) (Nat.lt_of_le_of_lt (Nat.div_le_self _ _) hx)]
  have := rotr_or x (32 - s) hx (by omega)
  rw [show 32 - (32 - s) = s by omega] at this
  rw [this]

set_option maxHeartbeats 400000 in
theorem rl_any (x n : Nat) (hx : x < 4294967296) (hn : n < 32) (h0 : 0 < n) (w : World) : Calls Try.prog 66 #[.int .u32 x, .int .i64 (-(n : Int))] w fun e w' => e = .returned (.int .u32 (rotr x n : Nat)) ∧ w = w' := by
  have e1 : bits BinOp.and .u64 (IntKind.u64.wrap (-(n : Int))) 31 = ((32 - n : Nat) : Int) := by
    have : IntKind.u64.wrap (-(n : Int)) = ((18446744073709551616 - n : Nat) : Int) := by rw [IntKind.wrap_u64]; omega
    rw [this, show (31 : Int) = ((31 : Nat) : Int) from rfl, bits_and_u64_nat _ _ (by omega) (by omega), nat_mask5]
    omega
  obtain ⟨s, hs⟩ : ∃ s, 32 - n = s := ⟨_, rfl⟩
  have HS := Lib.hid (show 32 - s = n by omega)
  rw [hs] at e1
  have hs32 : s < 32 := by omega
  have hs0 : 0 < s := by omega
  clear hs
  have HR := Lib.hid (rl_spell x s hx (by omega))
  go_enter Try.func66, Try.ntmps66
  go_wp2
  rw [HR.out, HS.out]
  go_ret
  exact ⟨rfl, rfl⟩

set_option maxHeartbeats 400000 in
theorem turn_any (x n : Nat) (hx : x < 4294967296) (hn : n < 32) (h0 : 0 < n) (w : World) : Calls Try.prog 65 #[.int .u32 x, .int .i64 n] w fun e w' => e = .returned (.int .u32 (rotr x n : Nat)) ∧ w = w' := by
  go_enter Try.func65, Try.ntmps65
  go_wp2_with fail
  refine (rl_any x n hx hn h0 _).mono ?_
  rintro e w' ⟨rfl, rfl⟩
  go_wp2
  go_ret
  exact ⟨rfl, rfl⟩

def bS0 (x : Nat) : Nat := rotr x 2 ^^^ rotr x 13 ^^^ rotr x 22
def bS1 (x : Nat) : Nat := rotr x 6 ^^^ rotr x 11 ^^^ rotr x 25
def sS0 (x : Nat) : Nat := rotr x 7 ^^^ rotr x 18 ^^^ x / 8
def sS1 (x : Nat) : Nat := rotr x 17 ^^^ rotr x 19 ^^^ x / 1024
def cho (x y z : Nat) : Nat := (x &&& y) ^^^ ((4294967295 - x) &&& z)
def mjr (x y z : Nat) : Nat := (x &&& y) ^^^ (x &&& z) ^^^ (y &&& z)
theorem xor_lt {a b : Nat} (ha : a < 4294967296) (hb : b < 4294967296) : a ^^^ b < 4294967296 := Nat.xor_lt_two_pow (n := 32) ha hb
theorem and_lt {a : Nat} (b : Nat) (ha : a < 4294967296) : a &&& b < 4294967296 := Nat.lt_of_le_of_lt Nat.and_le_left ha
theorem bS0_lt (x : Nat) (h : x < 4294967296) : bS0 x < 4294967296 := xor_lt (xor_lt (rotr_lt x _ h (by omega)) (rotr_lt x _ h (by omega))) (rotr_lt x _ h (by omega))
theorem bS1_lt (x : Nat) (h : x < 4294967296) : bS1 x < 4294967296 := xor_lt (xor_lt (rotr_lt x _ h (by omega)) (rotr_lt x _ h (by omega))) (rotr_lt x _ h (by omega))
theorem sS0_lt (x : Nat) (h : x < 4294967296) : sS0 x < 4294967296 := xor_lt (xor_lt (rotr_lt x _ h (by omega)) (rotr_lt x _ h (by omega))) (by omega)
theorem sS1_lt (x : Nat) (h : x < 4294967296) : sS1 x < 4294967296 := xor_lt (xor_lt (rotr_lt x _ h (by omega)) (rotr_lt x _ h (by omega))) (by omega)
theorem cho_lt (x y z : Nat) (h : x < 4294967296) : cho x y z < 4294967296 := xor_lt (and_lt _ h) (and_lt _ (by omega))
theorem mjr_lt (x y z : Nat) (h : x < 4294967296) (h' : y < 4294967296) : mjr x y z < 4294967296 := xor_lt (xor_lt (and_lt _ h) (and_lt _ h)) (and_lt _ h')

set_option maxHeartbeats 400000 in
theorem bS0_any (x : Nat) (hx : x < 4294967296) (w : World) : Calls Try.prog 63 #[.int .u32 x] w fun e w' => e = .returned (.int .u32 (bS0 x : Nat)) ∧ w = w' := by
  have ha := rotr_lt x 2 hx (by omega)
  have hb := rotr_lt x 13 hx (by omega)
  have hc := rotr_lt x 22 hx (by omega)
  go_enter Try.func63, Try.ntmps63
  go_wp2_with fail
  refine (turn_any x 2 hx (by omega) (by omega) _).mono ?_
  rintro e w' ⟨rfl, rfl⟩
  go_wp2_with fail
  refine (turn_any x 13 hx (by omega) (by omega) _).mono ?_
  rintro e w' ⟨rfl, rfl⟩
  go_wp2_with fail
  refine (turn_any x 22 hx (by omega) (by omega) _).mono ?_
  rintro e w' ⟨rfl, rfl⟩
  go_wp2
  go_ret
  exact ⟨ret_u32 (by rw [u32_xor_nat _ _ ha hb, u32_xor_nat _ _ (xor_lt ha hb) hc]; rfl), rfl⟩

set_option maxHeartbeats 400000 in
theorem bS1_any (x : Nat) (hx : x < 4294967296) (w : World) : Calls Try.prog 61 #[.int .u32 x] w fun e w' => e = .returned (.int .u32 (bS1 x : Nat)) ∧ w = w' := by
  have ha := rotr_lt x 6 hx (by omega)
  have hb := rotr_lt x 11 hx (by omega)
  have hc := rotr_lt x 25 hx (by omega)
  go_enter Try.func61, Try.ntmps61
  go_wp2_with fail
  refine (turn_any x 6 hx (by omega) (by omega) _).mono ?_
  rintro e w' ⟨rfl, rfl⟩
  go_wp2_with fail
  refine (turn_any x 11 hx (by omega) (by omega) _).mono ?_
  rintro e w' ⟨rfl, rfl⟩
  go_wp2_with fail
  refine (turn_any x 25 hx (by omega) (by omega) _).mono ?_
  rintro e w' ⟨rfl, rfl⟩
  go_wp2
  go_ret
  exact ⟨ret_u32 (by rw [u32_xor_nat _ _ ha hb, u32_xor_nat _ _ (xor_lt ha hb) hc]; rfl), rfl⟩

set_option maxHeartbeats 400000 in
theorem sS0_any (x : Nat) (hx : x < 4294967296) (w : World) : Calls Try.prog 60 #[.int .u32 x] w fun e w' => e = .returned (.int .u32 (sS0 x : Nat)) ∧ w = w' := by
  have ha := rotr_lt x 7 hx (by omega)
  have hb := rotr_lt x 18 hx (by omega)
  go_enter Try.func60, Try.ntmps60
  go_wp2_with fail
  refine (turn_any x 7 hx (by omega) (by omega) _).mono ?_
  rintro e w' ⟨rfl, rfl⟩
  go_wp2_with fail
  refine (turn_any x 18 hx (by omega) (by omega) _).mono ?_
  rintro e w' ⟨rfl, rfl⟩
  go_wp2
  go_ret
  exact ⟨ret_u32 (by
    rw [show (x : Int) / 8 = ((x / 8 : Nat) : Int) by omega, u32_xor_nat _ _ ha hb, u32_xor_nat _ _ (xor_lt ha hb) (by omega)]; rfl), rfl⟩

set_option maxHeartbeats 400000 in
theorem sS1_any (x : Nat) (hx : x < 4294967296) (w : World) : Calls Try.prog 59 #[.int .u32 x] w fun e w' => e = .returned (.int .u32 (sS1 x : Nat)) ∧ w = w' := by
  have ha := rotr_lt x 17 hx (by omega)
  have hb := rotr_lt x 19 hx (by omega)
  go_enter Try.func59, Try.ntmps59
  go_wp2_with fail
  refine (turn_any x 17 hx (by omega) (by omega) _).mono ?_
  rintro e w' ⟨rfl, rfl⟩
  go_wp2_with fail
  refine (turn_any x 19 hx (by omega) (by omega) _).mono ?_
  rintro e w' ⟨rfl, rfl⟩
  go_wp2
  go_ret
  exact ⟨ret_u32 (by
    rw [show (x : Int) / 1024 = ((x / 1024 : Nat) : Int) by omega, u32_xor_nat _ _ ha hb, u32_xor_nat _ _ (xor_lt ha hb) (by omega)]; rfl), rfl⟩

theorem comp_nat (x : Nat) (hx : x < 4294967296) : 4294967295 ^^^ x = 4294967295 - x := by
  apply Nat.eq_of_testBit_eq
  intro i
  have h1 := Nat.testBit_two_pow_sub_succ (n := 32) (x := x) hx i
  rw [show 4294967295 - x = 2 ^ 32 - (x + 1) by omega, h1, Nat.testBit_xor, show (4294967295 : Nat) = 2 ^ 32 - 1 from rfl, Nat.testBit_two_pow_sub_one]
  by_cases h : i < 32
  · simp [h]
  · have hxi : x.testBit i = false := Nat.testBit_lt_two_pow (Nat.lt_of_lt_of_le hx (show (2 : Nat) ^ 32 ≤ 2 ^ i from Nat.pow_le_pow_right (by omega) (by omega)))
    simp [h, hxi]
theorem comp_spell (x : Nat) (hx : x < 4294967296) : bits BinOp.xor .u32 IntKind.u32.max (x : Int) = ((4294967295 - x : Nat) : Int) := by
  rw [show IntKind.u32.max = ((4294967295 : Nat) : Int) from rfl, u32_xor_nat _ _ (by omega) hx, comp_nat x hx]

set_option maxHeartbeats 400000 in
theorem cho_any (x y z : Nat) (hx : x < 4294967296) (hy : y < 4294967296) (hz : z < 4294967296) (w : World) : Calls Try.prog 62 #[.int .u32 x, .int .u32 y, .int .u32 z] w fun e w' => e = .returned (.int .u32 (cho x y z : Nat)) ∧ w = w' := by
  go_enter Try.func62, Try.ntmps62
  go_wp2
  go_ret
  exact ⟨ret_u32 (by rw [comp_spell x hx, u32_and_nat _ _ hx hy, u32_and_nat _ _ (by omega) hz, u32_xor_nat _ _ (and_lt _ hx) (and_lt _ (by omega))]; rfl), rfl⟩

set_option maxHeartbeats 400000 in
theorem mjr_any (x y z : Nat) (hx : x < 4294967296) (hy : y < 4294967296) (hz : z < 4294967296) (w : World) : Calls Try.prog 64 #[.int .u32 x, .int .u32 y, .int .u32 z] w fun e w' => e = .returned (.int .u32 (mjr x y z : Nat)) ∧ w = w' := by
  go_enter Try.func64, Try.ntmps64
  go_wp2
  go_ret
  exact ⟨ret_u32 (by rw [u32_and_nat _ _ hx hy, u32_and_nat _ _ hx hz, u32_and_nat _ _ hy hz, u32_xor_nat _ _ (and_lt _ hx) (and_lt _ hx), u32_xor_nat _ _ (xor_lt (and_lt _ hx) (and_lt _ hx)) (and_lt _ hy)]; rfl), rfl⟩
end Go.Proofs.Ytigmkhgaoamdkaa

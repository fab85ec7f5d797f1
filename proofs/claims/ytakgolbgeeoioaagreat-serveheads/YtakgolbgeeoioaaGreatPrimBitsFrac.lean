/-
  Contracts of sha's small reckonings: Mul64, isPrime, squareAbove, cubeAbove, fraction, each for every world. sha's small functions on words, each for every world: turnRight, the four sigmas, choose, majority. The contract of sha's fraction, each for every world.
-/
import Derived.Test.YtakgolbgeeoioaaGreatRows
import Derived.WalkKit
import Derived.WalkSpells
import Derived.WalkLawsBesides
import Derived.Lib.Mul64
import Derived.Lib.Hide
import Derived.Laws.Bits64b
import Derived.Laws.BitsAllLaws
import Derived.Laws.ShiftsVarLaws
import Derived.Shelf.Abstract
namespace Go.Proofs.YtakgolbgeeoioaaGreat
open Go.RowKit

theorem maskN (a : Nat) (ha : a < 18446744073709551616) : bits .and .u64 (a : Int) 4294967295 = ((a % 4294967296 : Nat) : Int) := by
 have h := bits_and_u64_nat a 4294967295 ha (by omega)
 rw [show a &&& 4294967295 = a % 4294967296 from Nat.and_two_pow_sub_one_eq_mod a 32] at h
 exact h
theorem divN (a : Nat) : (a : Int) / 4294967296 = ((a / 4294967296 : Nat) : Int) := by omega
theorem mulN (a b : Nat) : (a : Int) * (b : Int) = ((a * b : Nat) : Int) := (Int.natCast_mul a b).symm
theorem addN (a b : Nat) : (a : Int) + (b : Int) = ((a + b : Nat) : Int) := (Int.natCast_add a b).symm
theorem wrapN (a : Nat) (ha : a < 18446744073709551616) : IntKind.u64.wrap (a : Int) = (a : Int) := by rw [IntKind.wrap_u64]; omega
theorem wrapM (a : Nat) : IntKind.u64.wrap (a : Int) = ((a % 18446744073709551616 : Nat) : Int) := by rw [IntKind.wrap_u64]; omega

set_option maxHeartbeats 1000000 in
theorem mul64_any (x y : Nat) (hx : x < 18446744073709551616) (hy : y < 18446744073709551616) (w : World) :
 Calls Tryz.prog 44 #[.int .u64 x, .int .u64 y] w fun e w' => e = .returned (.tuple #[.int .u64 ((x * y / 18446744073709551616 : Nat) : Int), .int .u64 ((x * y % 18446744073709551616 : Nat) : Int)]) ∧ w = w' := by
 obtain ⟨bd, bt, bw, hhi⟩ := Lib.mul64_hi x y hx hy
 have ba := Lib.half_mul_le (a := x / 4294967296) (b := y / 4294967296) (by omega) (by omega)
 have bb := Lib.half_mul_le (a := x / 4294967296) (b := y % 4294967296) (by omega) (by omega)
 have bc := Lib.half_mul_le (a := x % 4294967296) (b := y / 4294967296) (by omega) (by omega)
 have ba' : x / 4294967296 * (y / 4294967296) < 18446744073709551616 := by omega
 have bb' : x / 4294967296 * (y % 4294967296) < 18446744073709551616 := by omega
 have bc' : x % 4294967296 * (y / 4294967296) < 18446744073709551616 := by omega
 have bh1 : x / 4294967296 * (y / 4294967296) + (x / 4294967296 * (y % 4294967296) + x % 4294967296 * (y % 4294967296) / 4294967296) / 4294967296 < 18446744073709551616 := by omega
 have bh : x / 4294967296 * (y / 4294967296) + (x / 4294967296 * (y % 4294967296) + x % 4294967296 * (y % 4294967296) / 4294967296) / 4294967296 + ((x / 4294967296 * (y % 4294967296) + x % 4294967296 * (y % 4294967296) / 4294967296) % 4294967296 + x % 4294967296 * (y / 4294967296)) / 4294967296 < 18446744073709551616 := by omega
 go_enter Tryz.func44, Tryz.ntmps44
 go_wp2
 simp only [maskN x hx, maskN y hy, divN, mulN, addN, wrapN _ bd, wrapN _ bb', wrapN _ bt, maskN _ bt, wrapN _ bc', wrapN _ bw, wrapN _ ba', wrapN _ bh1, wrapN _ bh, wrapM (x * y)]
 rw [hhi]
 go_ret2
 exact ⟨rfl, rfl⟩

/-- whether n has no divisor d, 2 to its root -/
def isP (n : Nat) : Bool := (List.range (n + 1)).all fun j => decide (j < 2) || decide (n < j * j) || decide (n % j ≠ 0)
theorem isP_false {n d : Nat} (h2 : 2 ≤ d) (hd : d * d ≤ n) (hm : n % d = 0) : isP n = false := by
 unfold isP
 rw [List.all_eq_false]
 refine ⟨d, List.mem_range.2 ?_, by simp; omega⟩
 have : d * 2 ≤ d * d := Nat.mul_le_mul_left d h2
 omega
theorem isP_true {n d : Nat} (hd : n < d * d) (h : ∀ j, 2 ≤ j → j < d → n % j ≠ 0) : isP n = true := by
 unfold isP
 rw [List.all_eq_true]
 intro j _
 by_cases h2 : j < 2
 · simp [h2]
 · by_cases hjd : j < d
   · simp [h j (by omega) hjd]
   · have : d * d ≤ j * j := Nat.mul_le_mul (by omega) (by omega)
     simp; omega

set_option maxHeartbeats 400000 in
theorem isPrime_any (n : Nat) (hn : n ≤ 1000) (w : World) :
 Calls Tryz.prog 43 #[.int .u64 n] w fun e w' => e = .returned (.bool (isP n)) ∧ w = w' := by
 go_enter Tryz.func43, Tryz.ntmps43
 go_wp2
 go_loop [3] (fun t => ∃ d : Nat, 2 ≤ d ∧ d ≤ 1001 ∧ t = .int .u64 d ∧ ∀ j, 2 ≤ j → j < d → n % j ≠ 0) (fun t => 1001 - (intOf t).toNat)
 case atStart => exact ⟨2, by omega, by omega, rfl, fun j _ _ => by omega⟩
 case round =>
  obtain ⟨d, h2, hd, rfl, hall⟩ := hrel
  have HA := Lib.hid hall
  clear hall
  have hdd : d * d ≤ 1001 * 1001 := Nat.mul_le_mul hd hd
  by_cases hle : d * d ≤ n
  · by_cases hm : n % d = 0
    · have hT : ((n : Int) % (d : Int) == 0) = true := by rw [beq_iff_eq]; omega
      have hF := Lib.hid (isP_false h2 hle hm)
      have hle' : (d : Int) * d ≤ n := by exact_mod_cast hle
      clear hm
      go_wp2
      go_ret
      exact ⟨by rw [hF.out]; rfl, rfl⟩
    · have hT : ((n : Int) % (d : Int) == 0) = false := by rw [beq_eq_false_iff_ne]; omega
      have hle' : (d : Int) * d ≤ n := by exact_mod_cast hle
      have HM := Lib.hid hm
      clear hm
      have hd2 : d * 2 ≤ d * d := Nat.mul_le_mul_left d h2
      go_wp2
      go_round
      case rel =>
       refine ⟨d + 1, by omega, by omega, by go_num, fun j h1 h3 => ?_⟩
       by_cases e : j = d
       · subst e; exact HM.out
       · exact HA.out j h1 (by omega)
      case measure => simp [intOf]; omega
  · have hle' : ¬ (d : Int) * d ≤ n := by
     intro h; exact hle (by exact_mod_cast h)
    have hF := Lib.hid (isP_true (by omega) HA.out)
    clear hle
    go_wp2
    go_ret
    exact ⟨by rw [hF.out]; rfl, rfl⟩

/-- squareAbove, in numbers -/
def sqA (r p : Nat) : Bool := decide (p < r * r / 18446744073709551616) || (decide (r * r / 18446744073709551616 = p) && decide (0 < r * r % 18446744073709551616))
/-- cubeAbove, in numbers -/
def cuA (r p : Nat) : Bool :=
 let sh := r * r / 18446744073709551616
 let sl := r * r % 18446744073709551616
 let hi := (sh * r + sl * r / 18446744073709551616) % 18446744073709551616
 decide (p * 4294967296 < hi) || (decide (hi = p * 4294967296) && decide (0 < sl * r % 18446744073709551616))

theorem ret_b {a b : Bool} (h : a = b) : Ending.returned (.bool a) = .returned (.bool b) := by rw [h]
theorem ret_u32 {a b : Int} (h : a = b) : Ending.returned (.int .u32 a) = .returned (.int .u32 b) := by rw [h]

/-- the last test of both, over three numbers -/
def abv (h q l : Nat) : Bool := decide (q < h) || (decide (h = q) && decide (0 < l))
theorem sqA_eq (r p : Nat) : sqA r p = abv (r * r / 18446744073709551616) p (r * r % 18446744073709551616) := rfl
theorem cuA_eq (r p : Nat) : cuA r p = abv ((r * r / 18446744073709551616 * r + r * r % 18446744073709551616 * r / 18446744073709551616) % 18446744073709551616) (p * 4294967296) (r * r % 18446744073709551616 * r % 18446744073709551616) := rfl

set_option maxHeartbeats 400000 in
theorem square_any (r p : Nat) (hr : r < 34359738368) (hp : p ≤ 1000) (w : World) :
 Calls Tryz.prog 19 #[.int .u64 r, .int .u64 p] w fun e w' => e = .returned (.bool (sqA r p)) ∧ w = w' := by
 rw [sqA_eq]
 obtain ⟨H, hH⟩ : ∃ H, r * r / 18446744073709551616 = H := ⟨_, rfl⟩
 obtain ⟨L, hL⟩ : ∃ L, r * r % 18446744073709551616 = L := ⟨_, rfl⟩
 rw [hH, hL]
 have bL : L < 18446744073709551616 := by omega
 have HH := Lib.hid hH
 have HL := Lib.hid hL
 clear hH hL
 by_cases h1 : p < H
 · have hv := Lib.hid (show abv H p L = true by unfold abv; simp [h1])
   go_enter Tryz.func19, Tryz.ntmps19
   go_wp2_with fail
   refine (mul64_any r r (by omega) (by omega) _).mono ?_
   rintro e w' ⟨rfl, rfl⟩
   rw [HH.out, HL.out]
   go_wp2
   go_ret
   exact ⟨by rw [hv.out]; rfl, rfl⟩
 · by_cases h2 : H = p
   · subst h2
     have hv := Lib.hid (show abv H H L = decide (0 < L) by unfold abv; simp)
     go_enter Tryz.func19, Tryz.ntmps19
     go_wp2_with fail
     refine (mul64_any r r (by omega) (by omega) _).mono ?_
     rintro e w' ⟨rfl, rfl⟩
     rw [HH.out, HL.out]
     go_wp2
     go_ret
     exact ⟨by rw [hv.out]; rfl, rfl⟩
   · have hv := Lib.hid (show abv H p L = false by unfold abv; simp [h1, h2])
     have h3 : ((H : Int) == (p : Int)) = false := by rw [beq_eq_false_iff_ne]; omega
     go_enter Tryz.func19, Tryz.ntmps19
     go_wp2_with fail
     refine (mul64_any r r (by omega) (by omega) _).mono ?_
     rintro e w' ⟨rfl, rfl⟩
     rw [HH.out, HL.out]
     go_wp2
     go_ret
     exact ⟨by rw [hv.out]; rfl, rfl⟩

theorem cube_walk (r p S T C L X : Nat) (hr : r < 34359738368) (hp : p ≤ 1000) (bT : T < 18446744073709551616) (_ : L < 18446744073709551616) (_ : S ≤ 64) (bC : C < 34359738368)
 (HS : Hid (r * r / 18446744073709551616 = S)) (HT : Hid (r * r % 18446744073709551616 = T)) (HC : Hid (T * r / 18446744073709551616 = C)) (HL : Hid (T * r % 18446744073709551616 = L))
 (HX : Hid ((S : Int) * (r : Int) = (X : Int))) (bX : X ≤ 2199023255488) (w : World) :
 Calls Tryz.prog 18 #[.int .u64 r, .int .u64 p] w fun e w' => e = .returned (.bool (abv (X + C) (p * 4294967296) L)) ∧ w = w' := by
 by_cases h1 : p * 4294967296 < X + C
 · have hv := Lib.hid (show abv (X + C) (p * 4294967296) L = true by unfold abv; simp [h1])
   have h1' : (p : Int) * 4294967296 < (X : Int) + C := by omega
   go_enter Tryz.func18, Tryz.ntmps18
   go_wp2_with fail
   refine (mul64_any r r (by omega) (by omega) _).mono ?_
   rintro e w' ⟨rfl, rfl⟩
   rw [HS.out, HT.out]
   go_wp2_with fail
   refine (mul64_any T r (by omega) (by omega) _).mono ?_
   rintro e w' ⟨rfl, rfl⟩
   rw [HC.out, HL.out]
   have hX := HX.out
   go_wp2
   go_ret
   exact ⟨by rw [hv.out]; rfl, rfl⟩
 · by_cases h2 : X + C = p * 4294967296
   · have hv := Lib.hid (show abv (X + C) (p * 4294967296) L = decide (0 < L) by unfold abv; simp [h2])
     have h1' : decide ((p : Int) * 4294967296 < (X : Int) + C) = false := by rw [decide_eq_false_iff_not]; omega
     have h3 : ((X : Int) + C == (p : Int) * 4294967296) = true := by rw [beq_iff_eq]; omega
     clear h1 h2
     go_enter Tryz.func18, Tryz.ntmps18
     go_wp2_with fail
     refine (mul64_any r r (by omega) (by omega) _).mono ?_
     rintro e w' ⟨rfl, rfl⟩
     rw [HS.out, HT.out]
     go_wp2_with fail
     refine (mul64_any T r (by omega) (by omega) _).mono ?_
     rintro e w' ⟨rfl, rfl⟩
     rw [HC.out, HL.out]
     have hX := HX.out
     go_wp2
     go_ret
     exact ⟨by rw [hv.out]; rfl, rfl⟩
   · have hv := Lib.hid (show abv (X + C) (p * 4294967296) L = false by unfold abv; simp [h1, h2])
     have h1' : decide ((p : Int) * 4294967296 < (X : Int) + C) = false := by rw [decide_eq_false_iff_not]; omega
     have h3 : ((X : Int) + C == (p : Int) * 4294967296) = false := by rw [beq_eq_false_iff_ne]; omega
     clear h1 h2
     go_enter Tryz.func18, Tryz.ntmps18
     go_wp2_with fail
     refine (mul64_any r r (by omega) (by omega) _).mono ?_
     rintro e w' ⟨rfl, rfl⟩
     rw [HS.out, HT.out]
     go_wp2_with fail
     refine (mul64_any T r (by omega) (by omega) _).mono ?_
     rintro e w' ⟨rfl, rfl⟩
     rw [HC.out, HL.out]
     have hX := HX.out
     go_wp2
     go_ret
     exact ⟨by rw [hv.out]; rfl, rfl⟩

theorem cube_any (r p : Nat) (hr : r < 34359738368) (hp : p ≤ 1000) (w : World) :
 Calls Tryz.prog 18 #[.int .u64 r, .int .u64 p] w fun e w' => e = .returned (.bool (cuA r p)) ∧ w = w' := by
 have h1 : r * r ≤ 34359738367 * 34359738367 := Nat.mul_le_mul (by omega) (by omega)
 have h2 : r * r % 18446744073709551616 * r ≤ 18446744073709551615 * 34359738367 := Nat.mul_le_mul (by omega) (by omega)
 have h3 : r * r / 18446744073709551616 * r ≤ 64 * 34359738367 := Nat.mul_le_mul (by omega) (by omega)
 have hm : (r * r / 18446744073709551616 * r + r * r % 18446744073709551616 * r / 18446744073709551616) % 18446744073709551616 = r * r / 18446744073709551616 * r + r * r % 18446744073709551616 * r / 18446744073709551616 := by omega
 rw [cuA_eq, hm]
 exact cube_walk r p _ _ _ _ (r * r / 18446744073709551616 * r) hr hp (by omega) (by omega) (by omega) (by omega) (Lib.hid rfl) (Lib.hid rfl) (Lib.hid rfl) (Lib.hid rfl) (Lib.hid (by simp)) (by omega) w

end Go.Proofs.YtakgolbgeeoioaaGreat
namespace Go.Proofs.YtakgolbgeeoioaaGreat
open Go.RowKit

/-- x turned right by n, as 32 bits -/
def rotr (x n : Nat) : Nat := x / 2 ^ n + x % 2 ^ n * 2 ^ (32 - n)

theorem rotr_or (x n : Nat) (hx : x < 4294967296) (hn : n ≤ 32) : x * 2 ^ (32 - n) % 4294967296 ||| x / 2 ^ n = rotr x n := by
 have e : (4294967296 : Nat) = 2 ^ n * 2 ^ (32 - n) := by rw [← Nat.pow_add, show n + (32 - n) = 32 by omega]
 have h1 : x * 2 ^ (32 - n) % 4294967296 = x % 2 ^ n * 2 ^ (32 - n) := by rw [e, Nat.mul_mod_mul_right]
 have h2 : x / 2 ^ n < 2 ^ (32 - n) := by
  rw [Nat.div_lt_iff_lt_mul (Nat.two_pow_pos n), Nat.mul_comm, ← e]; exact hx
 rw [h1, nat_join (32 - n) _ _ (by simp) h2]
 unfold rotr
 omega
theorem rotr_lt (x n : Nat) (hx : x < 4294967296) (hn : n ≤ 32) : rotr x n < 4294967296 := by
 rw [← rotr_or x n hx hn]
 exact Nat.or_lt_two_pow (n := 32) (Nat.mod_lt _ (by decide)) (Nat.lt_of_le_of_lt (Nat.div_le_self _ _) hx)

theorem rl_spell (x s : Nat) (hx : x < 4294967296) (hs : s ≤ 32) : bits BinOp.or IntKind.u32 ((x : Int) * 2 ^ s % 4294967296) ((x : Int) / 2 ^ (32 - s)) = ((rotr x (32 - s) : Nat) : Int) := by
 have e1 : (x : Int) * 2 ^ s % 4294967296 = ((x * 2 ^ s % 4294967296 : Nat) : Int) := by simp
 have e2 : (x : Int) / 2 ^ (32 - s) = ((x / 2 ^ (32 - s) : Nat) : Int) := by simp
 rw [e1, e2, u32_or_nat _ _ (Nat.mod_lt _ (by decide)) (Nat.lt_of_le_of_lt (Nat.div_le_self _ _) hx)]
 have := rotr_or x (32 - s) hx (by omega)
 rw [show 32 - (32 - s) = s by omega] at this
 rw [this]

set_option maxHeartbeats 400000 in
theorem rl_any (x n : Nat) (hx : x < 4294967296) (hn : n < 32) (h0 : 0 < n) (w : World) : Calls Tryz.prog 145 #[.int .u32 x, .int .i64 (-(n : Int))] w fun e w' => e = .returned (.int .u32 (rotr x n : Nat)) ∧ w = w' := by
 have e1 : bits BinOp.and .u64 (IntKind.u64.wrap (-(n : Int))) 31 = ((32 - n : Nat) : Int) := by
  have : IntKind.u64.wrap (-(n : Int)) = ((18446744073709551616 - n : Nat) : Int) := by rw [IntKind.wrap_u64]; omega
  rw [this, show (31 : Int) = ((31 : Nat) : Int) from rfl, bits_and_u64_nat _ _ (by omega) (by omega), nat_mask5]
  omega
 obtain ⟨s, hs⟩ : ∃ s, 32 - n = s := ⟨_, rfl⟩
 have HS := Lib.hid (show 32 - s = n by omega)
 rw [hs] at e1
 have hs32 : s < 32 := by omega
 have hs0 : 0 < s := by omega
 clear hs
 have HR := Lib.hid (rl_spell x s hx (by omega))
 go_enter Tryz.func145, Tryz.ntmps145
 go_wp2
 rw [HR.out, HS.out]
 go_ret
 exact ⟨rfl, rfl⟩

set_option maxHeartbeats 400000 in
theorem turn_any (x n : Nat) (hx : x < 4294967296) (hn : n < 32) (h0 : 0 < n) (w : World) : Calls Tryz.prog 143 #[.int .u32 x, .int .i64 n] w fun e w' => e = .returned (.int .u32 (rotr x n : Nat)) ∧ w = w' := by
 go_enter Tryz.func143, Tryz.ntmps143
 go_wp2_with fail
 refine (rl_any x n hx hn h0 _).mono ?_
 rintro e w' ⟨rfl, rfl⟩
 go_wp2
 go_ret
 exact ⟨rfl, rfl⟩

def bS0 (x : Nat) : Nat := rotr x 2 ^^^ rotr x 13 ^^^ rotr x 22
def bS1 (x : Nat) : Nat := rotr x 6 ^^^ rotr x 11 ^^^ rotr x 25
def sS0 (x : Nat) : Nat := rotr x 7 ^^^ rotr x 18 ^^^ x / 8
def sS1 (x : Nat) : Nat := rotr x 17 ^^^ rotr x 19 ^^^ x / 1024
def cho (x y z : Nat) : Nat := (x &&& y) ^^^ ((4294967295 - x) &&& z)
def mjr (x y z : Nat) : Nat := (x &&& y) ^^^ (x &&& z) ^^^ (y &&& z)
theorem xor_lt {a b : Nat} (ha : a < 4294967296) (hb : b < 4294967296) : a ^^^ b < 4294967296 := Nat.xor_lt_two_pow (n := 32) ha hb
theorem and_lt {a : Nat} (b : Nat) (ha : a < 4294967296) : a &&& b < 4294967296 := Nat.lt_of_le_of_lt Nat.and_le_left ha
theorem bS0_lt (x : Nat) (h : x < 4294967296) : bS0 x < 4294967296 := xor_lt (xor_lt (rotr_lt x _ h (by omega)) (rotr_lt x _ h (by omega))) (rotr_lt x _ h (by omega))
theorem bS1_lt (x : Nat) (h : x < 4294967296) : bS1 x < 4294967296 := xor_lt (xor_lt (rotr_lt x _ h (by omega)) (rotr_lt x _ h (by omega))) (rotr_lt x _ h (by omega))
theorem sS0_lt (x : Nat) (h : x < 4294967296) : sS0 x < 4294967296 := xor_lt (xor_lt (rotr_lt x _ h (by omega)) (rotr_lt x _ h (by omega))) (by omega)
theorem sS1_lt (x : Nat) (h : x < 4294967296) : sS1 x < 4294967296 := xor_lt (xor_lt (rotr_lt x _ h (by omega)) (rotr_lt x _ h (by omega))) (by omega)
theorem cho_lt (x y z : Nat) (h : x < 4294967296) : cho x y z < 4294967296 := xor_lt (and_lt _ h) (and_lt _ (by omega))
theorem mjr_lt (x y z : Nat) (h : x < 4294967296) (h' : y < 4294967296) : mjr x y z < 4294967296 := xor_lt (xor_lt (and_lt _ h) (and_lt _ h)) (and_lt _ h')

set_option maxHeartbeats 400000 in
theorem bS0_any (x : Nat) (hx : x < 4294967296) (w : World) : Calls Tryz.prog 136 #[.int .u32 x] w fun e w' => e = .returned (.int .u32 (bS0 x : Nat)) ∧ w = w' := by
 have ha := rotr_lt x 2 hx (by omega)
 have hb := rotr_lt x 13 hx (by omega)
 have hc := rotr_lt x 22 hx (by omega)
 go_enter Tryz.func136, Tryz.ntmps136
 go_wp2_with fail
 refine (turn_any x 2 hx (by omega) (by omega) _).mono ?_
 rintro e w' ⟨rfl, rfl⟩
 go_wp2_with fail
 refine (turn_any x 13 hx (by omega) (by omega) _).mono ?_
 rintro e w' ⟨rfl, rfl⟩
 go_wp2_with fail
 refine (turn_any x 22 hx (by omega) (by omega) _).mono ?_
 rintro e w' ⟨rfl, rfl⟩
 go_wp2
 go_ret
 exact ⟨ret_u32 (by rw [u32_xor_nat _ _ ha hb, u32_xor_nat _ _ (xor_lt ha hb) hc]; rfl), rfl⟩

set_option maxHeartbeats 400000 in
theorem bS1_any (x : Nat) (hx : x < 4294967296) (w : World) : Calls Tryz.prog 134 #[.int .u32 x] w fun e w' => e = .returned (.int .u32 (bS1 x : Nat)) ∧ w = w' := by
 have ha := rotr_lt x 6 hx (by omega)
 have hb := rotr_lt x 11 hx (by omega)
 have hc := rotr_lt x 25 hx (by omega)
 go_enter Tryz.func134, Tryz.ntmps134
 go_wp2_with fail
 refine (turn_any x 6 hx (by omega) (by omega) _).mono ?_
 rintro e w' ⟨rfl, rfl⟩
 go_wp2_with fail
 refine (turn_any x 11 hx (by omega) (by omega) _).mono ?_
 rintro e w' ⟨rfl, rfl⟩
 go_wp2_with fail
 refine (turn_any x 25 hx (by omega) (by omega) _).mono ?_
 rintro e w' ⟨rfl, rfl⟩
 go_wp2
 go_ret
 exact ⟨ret_u32 (by rw [u32_xor_nat _ _ ha hb, u32_xor_nat _ _ (xor_lt ha hb) hc]; rfl), rfl⟩

set_option maxHeartbeats 400000 in
theorem sS0_any (x : Nat) (hx : x < 4294967296) (w : World) : Calls Tryz.prog 133 #[.int .u32 x] w fun e w' => e = .returned (.int .u32 (sS0 x : Nat)) ∧ w = w' := by
 have ha := rotr_lt x 7 hx (by omega)
 have hb := rotr_lt x 18 hx (by omega)
 go_enter Tryz.func133, Tryz.ntmps133
 go_wp2_with fail
 refine (turn_any x 7 hx (by omega) (by omega) _).mono ?_
 rintro e w' ⟨rfl, rfl⟩
 go_wp2_with fail
 refine (turn_any x 18 hx (by omega) (by omega) _).mono ?_
 rintro e w' ⟨rfl, rfl⟩
 go_wp2
 go_ret
 exact ⟨ret_u32 (by
  rw [show (x : Int) / 8 = ((x / 8 : Nat) : Int) by omega, u32_xor_nat _ _ ha hb, u32_xor_nat _ _ (xor_lt ha hb) (by omega)]; rfl), rfl⟩

set_option maxHeartbeats 400000 in
theorem sS1_any (x : Nat) (hx : x < 4294967296) (w : World) : Calls Tryz.prog 132 #[.int .u32 x] w fun e w' => e = .returned (.int .u32 (sS1 x : Nat)) ∧ w = w' := by
 have ha := rotr_lt x 17 hx (by omega)
 have hb := rotr_lt x 19 hx (by omega)
 go_enter Tryz.func132, Tryz.ntmps132
 go_wp2_with fail
 refine (turn_any x 17 hx (by omega) (by omega) _).mono ?_
 rintro e w' ⟨rfl, rfl⟩
 go_wp2_with fail
 refine (turn_any x 19 hx (by omega) (by omega) _).mono ?_
 rintro e w' ⟨rfl, rfl⟩
 go_wp2
 go_ret
 exact ⟨ret_u32 (by
  rw [show (x : Int) / 1024 = ((x / 1024 : Nat) : Int) by omega, u32_xor_nat _ _ ha hb, u32_xor_nat _ _ (xor_lt ha hb) (by omega)]; rfl), rfl⟩

theorem comp_nat (x : Nat) (hx : x < 4294967296) : 4294967295 ^^^ x = 4294967295 - x := by
 apply Nat.eq_of_testBit_eq
 intro i
 have h1 := Nat.testBit_two_pow_sub_succ (n := 32) (x := x) hx i
 rw [show 4294967295 - x = 2 ^ 32 - (x + 1) by omega, h1, Nat.testBit_xor, show (4294967295 : Nat) = 2 ^ 32 - 1 from rfl, Nat.testBit_two_pow_sub_one]
 by_cases h : i < 32
 · simp [h]
 · have hxi : x.testBit i = false := Nat.testBit_lt_two_pow (Nat.lt_of_lt_of_le hx (show (2 : Nat) ^ 32 ≤ 2 ^ i from Nat.pow_le_pow_right (by omega) (by omega)))
   simp [h, hxi]
theorem comp_spell (x : Nat) (hx : x < 4294967296) : bits BinOp.xor .u32 IntKind.u32.max (x : Int) = ((4294967295 - x : Nat) : Int) := by
 rw [show IntKind.u32.max = ((4294967295 : Nat) : Int) from rfl, u32_xor_nat _ _ (by omega) hx, comp_nat x hx]

set_option maxHeartbeats 400000 in
theorem cho_any (x y z : Nat) (hx : x < 4294967296) (hy : y < 4294967296) (hz : z < 4294967296) (w : World) : Calls Tryz.prog 135 #[.int .u32 x, .int .u32 y, .int .u32 z] w fun e w' => e = .returned (.int .u32 (cho x y z : Nat)) ∧ w = w' := by
 go_enter Tryz.func135, Tryz.ntmps135
 go_wp2
 go_ret
 exact ⟨ret_u32 (by rw [comp_spell x hx, u32_and_nat _ _ hx hy, u32_and_nat _ _ (by omega) hz, u32_xor_nat _ _ (and_lt _ hx) (and_lt _ (by omega))]; rfl), rfl⟩

set_option maxHeartbeats 400000 in
theorem mjr_any (x y z : Nat) (hx : x < 4294967296) (hy : y < 4294967296) (hz : z < 4294967296) (w : World) : Calls Tryz.prog 137 #[.int .u32 x, .int .u32 y, .int .u32 z] w fun e w' => e = .returned (.int .u32 (mjr x y z : Nat)) ∧ w = w' := by
 go_enter Tryz.func137, Tryz.ntmps137
 go_wp2
 go_ret
 exact ⟨ret_u32 (by rw [u32_and_nat _ _ hx hy, u32_and_nat _ _ hx hz, u32_and_nat _ _ hy hz, u32_xor_nat _ _ (and_lt _ hx) (and_lt _ hx), u32_xor_nat _ _ (xor_lt (and_lt _ hx) (and_lt _ hx)) (and_lt _ hy)]; rfl), rfl⟩
end Go.Proofs.YtakgolbgeeoioaaGreat
namespace Go.Proofs.YtakgolbgeeoioaaGreat
open Go.RowKit Go.Shelf

/-- fraction's root, behind k rounds -/
def fr (ab : Nat → Nat → Bool) (p : Nat) : Nat → Nat
 | 0 => 0
 | k + 1 => if ab (fr ab p k ||| 2 ^ (34 - k)) p then fr ab p k else fr ab p k ||| 2 ^ (34 - k)
theorem fr_lt (ab : Nat → Nat → Bool) (p : Nat) : ∀ k, k ≤ 35 → fr ab p k < 34359738368
 | 0, _ => by simp [fr]
 | k + 1, h => by
  have ih := fr_lt ab p k (by omega)
  have h2 : 2 ^ (34 - k) < 2 ^ 35 := Nat.pow_lt_pow_right (by omega) (by omega)
  have h3 := Nat.or_lt_two_pow (n := 35) ih h2
  unfold fr
  split
  · exact ih
  · exact h3
theorem or_lt35 (ab : Nat → Nat → Bool) (p k : Nat) (h : k < 35) : fr ab p k ||| 2 ^ (34 - k) < 34359738368 :=
 Nat.or_lt_two_pow (n := 35) (fr_lt ab p k (by omega)) (Nat.pow_lt_pow_right (by omega) (by omega))

theorem or_spell (a k : Nat) (ha : a < 34359738368) (hk : k < 35) : bits .or .u64 (a : Int) (IntKind.u64.wrap (2 ^ (34 - k))) = ((a ||| 2 ^ (34 - k) : Nat) : Int) := by
 have h2 : 2 ^ (34 - k) < 2 ^ 35 := Nat.pow_lt_pow_right (by omega) (by omega)
 have e : (2 : Int) ^ (34 - k) = ((2 ^ (34 - k) : Nat) : Int) := by simp
 rw [e, wrapN _ (by omega), bits_or_u64_nat _ _ (by omega) (by omega)]

theorem fr_step (ab : Nat → Nat → Bool) (p k : Nat) : fr ab p (k + 1) = if ab (fr ab p k ||| 2 ^ (34 - k)) p = true then fr ab p k else fr ab p k ||| 2 ^ (34 - k) := rfl

set_option maxHeartbeats 400000 in
theorem fraction_any (g : Nat) (ab : Nat → Nat → Bool) (p : Nat) (_ : p ≤ 1000) (w : World) (eg : ∀ args w, (callFunc g args).run Tryz.prog w = .ok (.enter g args) w)
 (hg : ∀ (r : Nat) (w : World), r < 34359738368 → Calls Tryz.prog g #[.int .u64 r, .int .u64 p] w fun e w' => e = .returned (.bool (ab r p)) ∧ w = w') :
 Calls Tryz.prog 17 #[.int .u64 p, .func (.func g) #[] #[]] w fun e w' => e = .returned (.int .u32 ((fr ab p 35 % 4294967296 : Nat) : Int)) ∧ w = w' := by
 have HG := Lib.hid hg
 clear hg
 go_enter Tryz.func17, Tryz.ntmps17
 go_wp2
 go_loop [5, 6] (fun r i => ∃ k : Nat, k ≤ 35 ∧ r = .int .u64 (fr ab p k : Nat) ∧ i = .int .i64 (34 - (k : Int))) (fun _ i => (intOf i + 1).toNat)
 case atStart => exact ⟨0, by omega, rfl, rfl⟩
 case round =>
  obtain ⟨k, hk, rfl, rfl⟩ := hrel
  by_cases hlt : k < 35
  · have hlt' : (k : Int) ≤ 34 := by omega
    have bl := fr_lt ab p k hk
    have bo := or_lt35 ab p k hlt
    have HK := Lib.hid (fr_step ab p k)
    obtain ⟨b, hb⟩ : ∃ b, ab (fr ab p k ||| 2 ^ (34 - k)) p = b := ⟨_, rfl⟩
    have HB := Lib.hid hb
    clear hb
    have HS := Lib.hid (or_spell (fr ab p k) k bl hlt)
    cases b
    all_goals
     go_wp2_with fail
     rw [HS.out]
     refine (HG.out _ _ bo).mono ?_
     rintro e w' ⟨rfl, rfl⟩
     rw [HB.out]
     go_wp2
     go_round
     case rel => exact ⟨k + 1, by omega, by rw [HK.out, HB.out]; rfl, by go_num⟩
     case measure => simp [intOf]; omega
  · obtain rfl : k = 35 := by omega
    have bl := fr_lt ab p 35 (by omega)
    go_wp2
    go_ret
    exact ⟨ret_u32 (by simp), rfl⟩
/-- the first 32 bits behind the point of p's cube root, and of its square root -/
def frC (p : Nat) : Nat := fr cuA p 35 % 4294967296
def frS (p : Nat) : Nat := fr sqA p 35 % 4294967296
theorem frac_cube (p : Nat) (hp : p ≤ 1000) (w : World) :
 Calls Tryz.prog 17 #[.int .u64 p, .func (.func 18) #[] #[]] w fun e w' => e = .returned (.int .u32 ((frC p : Nat) : Int)) ∧ w = w' :=
 fraction_any 18 cuA p hp w (enters_of Tryz.func18 (by kernel_rfl) rfl) (fun r w hr => cube_any r p hr hp w)
theorem frac_square (p : Nat) (hp : p ≤ 1000) (w : World) :
 Calls Tryz.prog 17 #[.int .u64 p, .func (.func 19) #[] #[]] w fun e w' => e = .returned (.int .u32 ((frS p : Nat) : Int)) ∧ w = w' :=
 fraction_any 19 sqA p hp w (enters_of Tryz.func19 (by kernel_rfl) rfl) (fun r w hr => square_any r p hr hp w)
end Go.Proofs.YtakgolbgeeoioaaGreat

/-
  The contract of sha's fraction, each for every world.
-/
import Derived.Test.YtjmjkcgldencoaaPrimBits
import Derived.WalkKit
import Derived.WalkSpells
import Derived.WalkLawsBesides
import Derived.Lib.Mul64
import Derived.Lib.Hide
import Derived.Shelf.Abstract
import Derived.Laws.Bits64b
import Derived.Laws.BitsAllLaws
import Derived.Laws.ShiftsVarLaws
namespace Go.Proofs.Ytjmjkcgldencoaa
open Go.RowKit Go.Shelf

/-- fraction's root, behind k rounds -/
def fr (ab : Nat → Nat → Bool) (p : Nat) : Nat → Nat
  | 0 => 0
  | k + 1 => if ab (fr ab p k ||| 2 ^ (34 - k)) p then fr ab p k else fr ab p k ||| 2 ^ (34 - k)
theorem fr_lt (ab : Nat → Nat → Bool) (p : Nat) : ∀ k, k ≤ 35 → fr ab p k < 34359738368
  | 0, _ => by simp [fr]
  | k + 1, h => by
    have ih := fr_lt ab p k (by omega)
    have h2 : 2 ^ (34 - k) < 2 ^ 35 := Nat.pow_lt_pow_right (by omega) (by omega)
    have h3 := Nat.or_lt_two_pow (n := 35) ih h2
    unfold fr
    split
    · exact ih
    · exact h3
theorem or_lt35 (ab : Nat → Nat → Bool) (p k : Nat) (h : k < 35) : fr ab p k ||| 2 ^ (34 - k) < 34359738368 :=
  Nat.or_lt_two_pow (n := 35) (fr_lt ab p k (by omega)) (Nat.pow_lt_pow_right (by omega) (by omega))

theorem or_spell (a k : Nat) (ha : a < 34359738368) (hk : k < 35) : bits .or .u64 (a : Int) (IntKind.u64.wrap (2 ^ (34 - k))) = ((a ||| 2 ^ (34 - k) : Nat) : Int) := by
  have h2 : 2 ^ (34 - k) < 2 ^ 35 := Nat.pow_lt_pow_right (by omega) (by omega)
  have e : (2 : Int) ^ (34 - k) = ((2 ^ (34 - k) : Nat) : Int) := by simp
  rw [e, wrapN _ (by omega), bits_or_u64_nat _ _ (by omega) (by omega)]

theorem fr_step (ab : Nat → Nat → Bool) (p k : Nat) : fr ab p (k + 1) = if ab (fr ab p k ||| 2 ^ (34 - k)) p = true then fr ab p k else fr ab p k ||| 2 ^ (34 - k) := rfl

set_option maxHeartbeats 400000 in
theorem fraction_any (g : Nat) (ab : Nat → Nat → Bool) (p : Nat) (_ : p ≤ 1000) (w : World) (eg : ∀ args w, (callFunc g args).run Try.prog w = .ok (.enter g args) w)
    (hg : ∀ (r : Nat) (w : World), r < 34359738368 → Calls Try.prog g #[.int .u64 r, .int .u64 p] w fun e w' => e = .returned (.bool (ab r p)) ∧ w = w') :
    Calls Try.prog 13 #[.int .u64 p, .func (.func g) #[] #[]] w fun e w' => e = .returned (.int .u32 ((fr ab p 35 % 4294967296 : Nat) : Int)) ∧ w = w' := by
  have HG := Lib.hid hg
  clear hg
  go_enter Try.func13, Try.ntmps13
  go_wp2
  go_loop [5, 6] (fun r i => ∃ k : Nat, k ≤ 35 ∧ r = .int .u64 (fr ab p k : Nat) ∧ i = .int .i64 (34 - (k : Int))) (fun _ i => (intOf i + 1).toNat)
  case atStart => exact ⟨0, by omega, rfl, rfl⟩
  case round =>
    obtain ⟨k, hk, rfl, rfl⟩ := hrel
    by_cases hlt : k < 35
    · have hlt' : (k : Int) ≤ 34 := by omega
      have bl := fr_lt ab p k hk
      have bo := or_lt35 ab p k hlt
      have HK := Lib.hid (fr_step ab p k)
      obtain ⟨b, hb⟩ : ∃ b, ab (fr ab p k ||| 2 ^ (34 - k)) p = b := ⟨_, rfl⟩
      have HB := Lib.hid hb
      clear hb
      have HS := Lib.hid (or_spell (fr ab p k) k bl hlt)
      cases b
      all_goals
        go_wp2_with fail
        rw [HS.out]
        refine (HG.out _ _ bo).mono ?_
        rintro e w' ⟨rfl, rfl⟩
        rw [HB.out]
        go_wp2
        go_round
        case rel => exact ⟨k + 1, by omega, by rw [HK.out, HB.out]; rfl, by go_num⟩
        case measure => simp [intOf]; omega
    · obtain rfl : k = 35 := by omega
      have bl := fr_lt ab p 35 (by omega)
      go_wp2
      go_ret
      exact ⟨ret_u32 (by simp), rfl⟩
/-- the first 32 bits behind the point of p's cube root, and of its square root -/
def frC (p : Nat) : Nat := fr cuA p 35 % 4294967296
def frS (p : Nat) : Nat := fr sqA p 35 % 4294967296
theorem frac_cube (p : Nat) (hp : p ≤ 1000) (w : World) :
    Calls Try.prog 13 #[.int .u64 p, .func (.func 14) #[] #[]] w fun e w' => e = .returned (.int .u32 ((frC p : Nat) : Int)) ∧ w = w' :=
  fraction_any 14 cuA p hp w (enters_of Try.func14 (by kernel_rfl) rfl) (fun r w hr => cube_any r p hr hp w)
theorem frac_square (p : Nat) (hp : p ≤ 1000) (w : World) :
    Calls Try.prog 13 #[.int .u64 p, .func (.func 15) #[] #[]] w fun e w' => e = .returned (.int .u32 ((frS p : Nat) : Int)) ∧ w = w' :=
  fraction_any 15 sqA p hp w (enters_of Try.func15 (by kernel_rfl) rfl) (fun r w hr => square_any r p hr hp w)
end Go.Proofs.Ytjmjkcgldencoaa

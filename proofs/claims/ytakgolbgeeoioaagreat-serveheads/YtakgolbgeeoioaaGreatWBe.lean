/-
 Bytes as a number, the greatest first.
-/
import Derived.Test.YtakgolbgeeoioaaGreatBase
namespace Go.Proofs.YtakgolbgeeoioaaGreat
open Go.RowKit

/-- bytes as a number, the greatest first -/
def beV (l : List Nat) : Nat := l.foldl (fun a b => a * 256 + b) 0
def numV (s : ByteArray) : Nat := beV (nums s)
theorem beV_snoc (l : List Nat) (x : Nat) : beV (l ++ [x]) = beV l * 256 + x := by simp [beV]
theorem beV_lt (l : List Nat) (h : ∀ x ∈ l, x < 256) : beV l < 256 ^ l.length := by
 have key : ∀ (l : List Nat) (a : Nat), (∀ x ∈ l, x < 256) → l.foldl (fun a b => a * 256 + b) a < (a + 1) * 256 ^ l.length := by
  intro l
  induction l with
  | nil => intro a _; simp
  | cons x r ih =>
   intro a hx
   have h1 := ih (a * 256 + x) (fun y hy => hx y (by simp [hy]))
   have h2 := hx x (by simp)
   rw [List.foldl_cons, List.length_cons, Nat.pow_succ]
   refine Nat.lt_of_lt_of_le h1 ?_
   rw [Nat.mul_comm (256 ^ r.length) 256, ← Nat.mul_assoc]
   exact Nat.mul_le_mul_right _ (by omega)
 have := key l 0 h
 simpa [beV] using this
theorem beV_take_lt (x : ByteArray) (k : Nat) (hk : k ≤ 3) : beV ((nums x).take k) < 16777216 := by
 have h1 := beV_lt ((nums x).take k) (fun y hy => nums_lt x y (List.mem_of_mem_take hy))
 refine Nat.lt_of_lt_of_le h1 ?_
 show _ ≤ 256 ^ 3
 exact Nat.pow_le_pow_right (by decide) (by rw [List.length_take]; omega)

theorem nat_or_low (v b : Nat) (hb : b < 256) : (v * 256) ||| b = v * 256 + b := by
 have := Nat.shiftLeft_add_eq_or_of_lt (i := 8) (show b < 2 ^ 8 from hb) v
 rw [Nat.shiftLeft_eq] at this
 exact this.symm
theorem or_low (v b : Nat) (hv : v < 16777216) (hb : b < 256) : bits .or .i64 ((v : Int) * 256) (b : Int) = ((v * 256 + b : Nat) : Int) := by
 have e : (v : Int) * 256 = ((v * 256 : Nat) : Int) := by omega
 have hx : ∀ a : Nat, a < 9223372036854775808 → (BitVec.ofInt 64 (a : Int)).toNat = a := fun a ha => by
  rw [BitVec.ofInt_natCast, BitVec.toNat_ofNat]
  exact Nat.mod_eq_of_lt (by omega)
 rw [e]
 show IntKind.i64.wrap ((BitVec.ofInt 64 ((v * 256 : Nat) : Int) ||| BitVec.ofInt 64 (b : Int)).toNat : Int) = _
 rw [BitVec.toNat_or, hx _ (by omega), hx _ (by omega), nat_or_low v b hb, IntKind.wrap_i64]
 omega
end Go.Proofs.YtakgolbgeeoioaaGreat

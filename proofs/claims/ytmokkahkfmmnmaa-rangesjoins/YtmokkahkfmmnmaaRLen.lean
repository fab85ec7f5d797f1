/-
  bits.Len of all numbers from 1 on.
-/
import Derived.Test.YtmokkahkfmmnmaaMLen
import Derived.Test.YtmokkahkfmmnmaaRColl
namespace Go.Proofs.Ytmokkahkfmmnmaa
open Go.RowKit

theorem aux_log : ∀ (f x : Nat), x < 2 ^ f → x ≠ 0 → Lib.bitLenAux f x = Nat.log2 x + 1 := by
  intro f
  induction f with
  | zero => intro x h h0; simp at h; omega
  | succ f ih =>
    intro x h h0
    rw [Lib.bitLenAux, if_neg h0]
    rw [Nat.pow_succ] at h
    by_cases h2 : x / 2 = 0
    · obtain rfl : x = 1 := by omega
      cases f <;> rfl
    · rw [ih (x / 2) (by omega) h2, Nat.log2_def x, if_pos (by omega)]
      omega
theorem lenOf : LenOf := by
  intro x W h0 h
  have hl := Any.bits_Len blays (x : Int) W (by omega) (by omega)
  rw [Int.toNat_natCast, show Lib.bitLen x = Nat.log2 x + 1 from aux_log 64 x (Nat.lt_trans h (by decide)) (by omega)] at hl
  exact hl
end Go.Proofs.Ytmokkahkfmmnmaa

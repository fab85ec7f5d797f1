/-
  How many bits are 1: bits.OnesCount8, and the plain count.
-/
import Derived.Test.YtjdjndginacdnaaSBitM
import Derived.Shelf.Small.Bits
namespace Go.Proofs.Ytjdjndginacdnaa
open Go.RowKit

def oren : Go.Shelf.Ren := ⟨fun | 135 => 85 | n => n, fun | 3 => 3 | 5 => 5 | 9 => 9 | n => n, fun | n => n⟩
theorem olays : Go.Proofs.Lays.n135 Try.prog oren := {
  mixed := by kernel_rfl
  f135 := Try.func85.trans (congrArg some (by kernel_rfl))
  t3 := Try.underlying3, a3 := Try.isAgg3, z3 := Try.sizeOf3, v3 := Try.zeroValue3
  t5 := Try.underlying5, a5 := Try.isAgg5, z5 := Try.sizeOf5, v5 := Try.zeroValue5
  t9 := Try.underlying9, a9 := Try.isAgg9, z9 := Try.sizeOf9, v9 := Try.zeroValue9 }
def pop8 (x : Nat) : Nat := (List.range 8).countP fun m => x / 2 ^ (7 - m) % 2 == 1
theorem pop8_ones : ∀ x : Fin 256, Lib.onesCount x.val = pop8 x.val := by decide +kernel
theorem pop8_le (x : Nat) : pop8 x ≤ 8 := by
  have := List.countP_le_length (p := fun m => x / 2 ^ (7 - m) % 2 == 1) (l := List.range 8)
  simpa [pop8] using this
theorem ones_any (x : Nat) (hx : x < 256) (w : World) : Calls Try.prog 85 #[.int .u8 x] w fun e w' => e = .returned (.int .i64 (pop8 x : Nat)) ∧ w' = w := by
  have h := Any.bits_OnesCount8 olays (x : Int) w (by omega) (by omega)
  rw [Int.toNat_natCast, pop8_ones ⟨x, hx⟩] at h
  exact h
/-- how many of the first k bits are 1 -/
def cntS (s : ByteArray) (k : Nat) : Nat := (List.range k).countP (bitS s)
theorem cntS_succ (s : ByteArray) (k : Nat) : cntS s (k + 1) = cntS s k + (if bitS s k then 1 else 0) := by
  unfold cntS
  rw [List.range_succ, List.countP_append]
  simp [List.countP_cons]
theorem cntS_le (s : ByteArray) (k : Nat) : cntS s k ≤ k := by
  have := List.countP_le_length (p := bitS s) (l := List.range k)
  simpa [cntS] using this
theorem cntS_mono (s : ByteArray) {a b : Nat} (h : a ≤ b) : cntS s a ≤ cntS s b := by
  induction b with
  | zero => rw [show a = 0 by omega]; exact Nat.le_refl _
  | succ b ih =>
    rcases Nat.lt_or_eq_of_le h with h | rfl
    · rw [cntS_succ]; have := ih (by omega); omega
    · exact Nat.le_refl _
theorem cntS_byte (s : ByteArray) (j : Nat) : cntS s (8 * (j + 1)) = cntS s (8 * j) + pop8 ((nums s).getD j 0) := by
  unfold cntS pop8
  rw [show 8 * (j + 1) = 8 * j + 8 by omega, List.range_add, List.countP_append, List.countP_map]
  congr 1
  apply List.countP_congr
  intro m hm
  have hm := List.mem_range.1 hm
  simp only [Function.comp, bitS]
  rw [show (8 * j + m) / 8 = j by omega, show (8 * j + m) % 8 = m by omega]
def wfS (s : ByteArray) : Bool := decide (32 ≤ s.size) && decide (s.size = (1 + cntS s 256) * 32)
theorem nums_get_lt (s : ByteArray) (t : Nat) : (nums s).getD t 0 < 256 := by
  by_cases ht : t < (nums s).length
  · rw [List.getD_eq_getElem?_getD, List.getElem?_eq_getElem ht]; exact nums_lt s _ (List.getElem_mem ht)
  · rw [List.getD_eq_getElem?_getD, List.getElem?_eq_none (by omega)]; decide
end Go.Proofs.Ytjdjndginacdnaa

/-
 What is cut off bytes, in plain words.
-/
import Derived.Test.YtnbboabaihddbaaGreatWBldWStrsWListWBeWCut
namespace Go.Proofs.YtnbboabaihddbaaGreat

/-- the first n bytes, or all, if there are fewer; those behind them -/
def frE (n : Nat) (b : ByteArray) : ByteArray := b.extract 0 (min n b.size)
def rsE (n : Nat) (b : ByteArray) : ByteArray := b.extract (min n b.size) b.size
theorem frE_size (n : Nat) (b : ByteArray) : (frE n b).size = min n b.size := by unfold frE; rw [ByteArray.size_extract]; omega
theorem rsE_size (n : Nat) (b : ByteArray) : (rsE n b).size = b.size - min n b.size := by unfold rsE; rw [ByteArray.size_extract]; omega
/-- what is left behind k texts -/
def skE : Nat → ByteArray → ByteArray
 | 0, s => s
 | k + 1, s => rsE (numV (frE 4 (skE k s))) (rsE 4 (skE k s))
theorem skE_size (s : ByteArray) : ∀ k, (skE k s).size ≤ s.size
 | 0 => Nat.le_refl _
 | k + 1 => by
  have := skE_size s k
  show (rsE _ (rsE 4 (skE k s))).size ≤ _
  rw [rsE_size, rsE_size]
  omega
theorem skE_none (s : ByteArray) (k : Nat) (h : (skE k s).size = 0) : ∀ d, skE (k + d) s = skE k s
 | 0 => rfl
 | d + 1 => by
  have ih := skE_none s k h d
  show rsE (numV (frE 4 (skE (k + d) s))) (rsE 4 (skE (k + d) s)) = _
  rw [ih]
  have e : ∀ x : ByteArray, x.size = 0 → x = ⟨#[]⟩ := fun x hx => by
   apply ByteArray.ext
   exact Array.size_eq_zero_iff.1 hx
  rw [e _ (show (rsE _ (rsE 4 (skE k s))).size = 0 by rw [rsE_size, rsE_size]; omega), e _ h]
/-- what stands behind the list that b begins with; that list -/
def lcE (b : ByteArray) : ByteArray := skE (numV (frE 4 (rsE 1 b))) (rsE 4 (rsE 1 b))
theorem lcE_size (b : ByteArray) : (lcE b).size ≤ b.size := by
 have := skE_size (rsE 4 (rsE 1 b)) (numV (frE 4 (rsE 1 b)))
 rw [rsE_size, rsE_size] at this
 unfold lcE
 omega
def lfE (b : ByteArray) : ByteArray := b.extract 0 (b.size - (lcE b).size)
theorem lfE_size (b : ByteArray) : (lfE b).size ≤ b.size := by unfold lfE; rw [ByteArray.size_extract]; omega
end Go.Proofs.YtnbboabaihddbaaGreat

/-
  Pairs of a size that is looked at.
-/
import Derived.Test.YtjmjkcgldencoaaGreatSBitMSPairSRefAM
namespace Go.Proofs.YtjmjkcgldencoaaGreat
open Go.RowKit


/-- keys and values of a size that is looked at -/
def FitP (ps : List (ByteArray × ByteArray)) : Prop := ∀ x ∈ ps, x.1.size ≤ 250 ∧ x.2.size ≤ 250
theorem FitP.get {ps : List (ByteArray × ByteArray)} (h : FitP ps) {i : Nat} (hi : i < ps.length) : ps[i].1.size ≤ 250 ∧ ps[i].2.size ≤ 250 := h _ (List.getElem_mem hi)
theorem FitP.snoc {ps : List (ByteArray × ByteArray)} (h : FitP ps) {y : ByteArray × ByteArray} (hy : y.1.size ≤ 250 ∧ y.2.size ≤ 250) : FitP (ps ++ [y]) := fun x hx => by
  rcases List.mem_append.1 hx with hx | hx
  · exact h x hx
  · rw [List.mem_singleton.1 hx]; exact hy
end Go.Proofs.YtjmjkcgldencoaaGreat

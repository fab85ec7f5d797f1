/-
  Texts one behind the other; slices that read as texts; what a builder's state stands.
-/
import Derived.Test.YtbkmclgddknijaaWNum
import Derived.Test.YtbkmclgddknijaaWBld
namespace Go.Proofs.Ytbkmclgddknijaa
open Go.RowKit

def txts : List ByteArray → ByteArray
  | [] => ⟨#[]⟩
  | s :: r => txt s ++ txts r
theorem txts_append (a b : List ByteArray) : txts (a ++ b) = txts a ++ txts b := by
  induction a with
  | nil => show txts b = (⟨#[]⟩ : ByteArray) ++ txts b; apply ByteArray.ext; rw [ByteArray.data_append]; simp
  | cons x r ih => show txt x ++ txts (r ++ b) = txt x ++ txts r ++ txts b; rw [ih, ByteArray.append_assoc]
theorem txts_take (ss : List ByteArray) (k : Nat) (h : k < ss.length) : txts (ss.take (k + 1)) = txts (ss.take k) ++ txt (ss.getD k ByteArray.empty) := by
  rw [List.take_succ_eq_append_getElem h, txts_append]
  congr 1
  rw [List.getD_eq_getElem?_getD, List.getElem?_eq_getElem h]
  exact append_empty _
theorem txts_take_size (ss : List ByteArray) (k : Nat) : (txts (ss.take k)).size ≤ (txts ss).size := by
  have := txts_append (ss.take k) (ss.drop k)
  rw [List.take_append_drop] at this
  rw [this, ByteArray.size_append]
  omega
theorem txts_get_size (ss : List ByteArray) (k : Nat) : (ss.getD k ByteArray.empty).size ≤ (txts ss).size := by
  rcases Nat.lt_or_ge k ss.length with h | h
  · have h1 := txts_take_size ss (k + 1)
    rw [txts_take ss k h, ByteArray.size_append, txt_size] at h1
    omega
  · rw [List.getD_eq_getElem?_getD, List.getElem?_eq_none h]
    exact Nat.zero_le _
/-- a list's bytes -/
def listB (ss : List ByteArray) : ByteArray := ⟨#[76]⟩ ++ num4 ss.length ++ txts ss
theorem listB_size (ss : List ByteArray) : (listB ss).size = 5 + (txts ss).size := by
  unfold listB
  rw [ByteArray.size_append, ByteArray.size_append, num4_size]
  rfl

theorem Bld.below {w w' : World} {B b : Nat} {l : List UInt8} (h : Bld w B b l) (hb : Below w.heap.size w w') : Bld w' B b l := by
  have key : ∀ p, Lib.BuilderAtF 63 5 B b p (Lib.byteCells l) w → Lib.BuilderAtF 63 5 B b p (Lib.byteCells l) w' := by
    intro p hp
    have hlt := hp.lt
    obtain ⟨hB, v, hbk, hown, hne⟩ := hp
    exact ⟨hB, v, (hb.block b hlt).trans hbk, hown.kept (only_of_below hb none) (by cases hv : v.ownBlock <;> simp), hne⟩
  exact h.elim (fun x => .inl (key _ x)) (fun x => .inr (key _ x))
end Go.Proofs.Ytbkmclgddknijaa

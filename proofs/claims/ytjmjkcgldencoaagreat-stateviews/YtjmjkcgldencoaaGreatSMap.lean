/-
  Maps of pairs: what is put, and what it comes to.
-/
import Derived.Test.YtjmjkcgldencoaaGreatSRefBSRefCMSRefC
import Derived.Maps.Ext
import Derived.Maps.OwnOps
import Derived.Maps.RangeWalk
import Derived.Maps.StringElems
import Derived.Sort.KeysCollected
namespace Go.Proofs.YtjmjkcgldencoaaGreat
open Go.RowKit Go.Maps

def litK (k : ByteArray) : Lit := .string k.data.toList
def datV (v : ByteArray) : DataW Unit := .lit (.string v.data.toList)
theorem litK_inj {a b : ByteArray} (h : litK a = litK b) : a = b := by
  unfold litK at h
  injection h with h
  exact ByteArray.ext (Array.toList_inj.1 h)
/-- the map of pairs, put one after another -/
def madeL (ps : List (ByteArray × ByteArray)) : DataW Unit := ps.foldl (fun D p => D.put (litK p.1) (datV p.2)) (.map [])
theorem madeL_snoc (ps : List (ByteArray × ByteArray)) (p : ByteArray × ByteArray) : madeL (ps ++ [p]) = (madeL ps).put (litK p.1) (datV p.2) := by simp [madeL]
/-- the last value of a key -/
def lookP (ps : List (ByteArray × ByteArray)) (x : ByteArray) : Option ByteArray := ps.foldl (fun acc p => if p.1 = x then some p.2 else acc) none
theorem lookP_snoc (ps : List (ByteArray × ByteArray)) (p : ByteArray × ByteArray) (x : ByteArray) : lookP (ps ++ [p]) x = if p.1 = x then some p.2 else lookP ps x := by simp [lookP]
theorem snoc_ind {α : Type} {P : List α → Prop} (h0 : P []) (h1 : ∀ l a, P l → P (l ++ [a])) (l : List α) : P l := by
  have : ∀ n (l : List α), l.length = n → P l := by
    intro n
    induction n with
    | zero => intro l h; rw [List.length_eq_zero_iff.1 h]; exact h0
    | succ n ih =>
      intro l h
      have hne : l ≠ [] := by intro e; rw [e] at h; cases h
      rw [← List.dropLast_concat_getLast hne]
      exact h1 _ _ (ih _ (by rw [List.length_dropLast]; omega))
  exact this _ l rfl
theorem isMap_put {D : DataW Unit} (h : IsMap D) (k : Lit) (d : DataW Unit) : IsMap (D.put k d) := by
  cases D <;> simp [IsMap] at h ⊢ <;> simp [DataW.put] <;> exact h
end Go.Proofs.YtjmjkcgldencoaaGreat

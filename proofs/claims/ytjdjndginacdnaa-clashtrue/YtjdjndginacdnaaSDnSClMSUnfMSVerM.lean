/-
  The 256 depths, from the last on. From a path's own place up to the root: plain words. The roots beside the path that a proof tells: plain words. Whether a proof holds: plain words.
-/
import Derived.Test.YtjdjndginacdnaaBase
import Derived.Test.YtjdjndginacdnaaHSumHStepSTree
import Derived.Test.YtjdjndginacdnaaSBitMSOnesXMathSBit
namespace Go.Proofs.Ytjdjndginacdnaa
open Go.RowKit

/-- the first k of all 256, from the last on -/
def dn (k : Nat) : List (Fin 256) := (List.finRange 256).reverse.take k
theorem dn_succ (k : Nat) (h : k < 256) : dn (k + 1) = dn k ++ [⟨255 - k, by omega⟩] := by
  unfold dn
  rw [List.take_succ_eq_append_getElem (by simpa using h)]
  simp
theorem dn_len (k : Nat) (h : k ≤ 256) : (dn k).length = k := by simp [dn]; omega
end Go.Proofs.Ytjdjndginacdnaa
namespace Go.Proofs.Ytjdjndginacdnaa
open Go.RowKit

def clStep (p : ByteArray) (V : Nat → ByteArray) (n : ByteArray) (i : Fin 256) : ByteArray := if bitS p i.1 then nodS (V i.1) n else nodS n (V i.1)
def clL (p : ByteArray) (V : Nat → ByteArray) (x : ByteArray) (pre : List (Fin 256)) : ByteArray := pre.foldl (clStep p V) x
theorem clL_snoc (p : ByteArray) (V : Nat → ByteArray) (x : ByteArray) (pre : List (Fin 256)) (i : Fin 256) : clL p V x (pre ++ [i]) = clStep p V (clL p V x pre) i := by simp [clL]
theorem clStep_size (p : ByteArray) (V : Nat → ByteArray) (n : ByteArray) (i : Fin 256) : (clStep p V n i).size = 32 := by
  unfold clStep
  split <;> exact nodS_size _ _
theorem clL_size (p : ByteArray) (V : Nat → ByteArray) (x : ByteArray) (hx : x.size = 32) (pre : List (Fin 256)) : (clL p V x pre).size = 32 := by
  unfold clL
  induction pre generalizing x with
  | nil => exact hx
  | cons a r ih => exact ih _ (clStep_size _ _ _ _)
end Go.Proofs.Ytjdjndginacdnaa
namespace Go.Proofs.Ytjdjndginacdnaa
open Go.RowKit

theorem sext_ext (t : ByteArray) (i a b : Nat) (h : i + b ≤ t.size) : (t.extract i t.size).extract a b = t.extract (i + a) (i + b) := by
  rw [ByteArray.extract_extract, Nat.min_eq_left h]
theorem sext_size (t : ByteArray) (i j : Nat) (h : j ≤ t.size) : (t.extract i j).size = j - i := by
  rw [ByteArray.size_extract, Nat.min_eq_left h]
theorem nums_extS (s : ByteArray) (i j : Nat) : nums (s.extract i j) = ((nums s).drop i).take (j - i) := by
  unfold nums
  rw [ByteArray.data_extract, Array.toList_extract, List.extract_eq_take_drop, List.map_take, List.map_drop]
theorem bitS_front (s : ByteArray) (i : Nat) (hi : i < 256) : bitS (s.extract 0 32) i = bitS s i := by
  unfold bitS
  rw [nums_extS]
  congr 3
  rw [List.getD_eq_getElem?_getD, List.getD_eq_getElem?_getD, List.getElem?_take, if_pos (by omega), List.drop_zero]
/-- the root beside the path, below its bit i, as the proof tells it -/
def besV (s : ByteArray) (i : Nat) : ByteArray := if bitS s i then s.extract (32 + 32 * cntS s i) (64 + 32 * cntS s i) else emp (i + 1)
theorem wfS_size {s : ByteArray} (h : wfS s = true) : s.size = (1 + cntS s 256) * 32 := by
  unfold wfS at h
  simp only [Bool.and_eq_true, decide_eq_true_eq] at h
  exact h.2
theorem wfS_room {s : ByteArray} (h : wfS s = true) {i : Nat} (hi : i < 256) (hb : bitS s i = true) : 64 + 32 * cntS s i ≤ s.size := by
  have h1 := wfS_size h
  have h2 := cntS_succ s i
  rw [hb] at h2
  have h3 := cntS_mono s (a := i + 1) (b := 256) (by omega)
  simp at h2
  omega
theorem besV_size {s : ByteArray} (h : wfS s = true) {i : Nat} (hi : i < 256) : (besV s i).size = 32 := by
  unfold besV
  split
  · next hb =>
    rw [sext_size _ _ _ (wfS_room h hi hb)]
    omega
  · exact emp_size _
end Go.Proofs.Ytjdjndginacdnaa
namespace Go.Proofs.Ytjdjndginacdnaa
open Go.RowKit

/-- whether the proof shows, under the root, that the key has the value, or has none -/
def verS (root k v : ByteArray) (there : Bool) (s : ByteArray) : Bool := wfS s && decide (clL (pathS k) (besV s) (if there then ownS k v else emp 256) (dn 256) = root)
theorem beqB5 (a b : ByteArray) : (a.toList == b.toList) = decide (a = b) := by
  rw [Bool.eq_iff_iff, beq_iff_eq, decide_eq_true_iff]
  constructor
  · intro h
    rw [ByteArray.toList_eq, ByteArray.toList_eq] at h
    exact ByteArray.ext (Array.toList_inj.1 h)
  · rintro rfl; rfl
end Go.Proofs.Ytjdjndginacdnaa

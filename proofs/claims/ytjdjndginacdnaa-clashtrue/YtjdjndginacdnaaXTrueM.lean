/-
  Layer 9: what layer 5 proves leads to the map's root here, too.
-/
import Derived.Test.YtjdjndginacdnaaSBitMSOnesXMathSBit
import Derived.Test.YtjdjndginacdnaaSEach1SEachPCHsh
import Derived.Test.YtjdjndginacdnaaCWeakF
namespace Go.Proofs.Ytjdjndginacdnaa
open Go.RowKit

theorem shaC_hB : shaC = hB := by
  funext s
  unfold shaC hB
  rfl
theorem hsh_fullB : Hsh 16 hB := by rw [← shaC_hB]; exact hsh_full
theorem nodS_def (l r : ByteArray) : nodS l r = hB (⟨#[78]⟩ ++ l ++ r) := by unfold nodS; rfl
theorem em9_emp (k : Nat) : em9 hB k = empK k := by
  induction k with
  | zero => rw [em9, empK]
  | succ k ih => rw [em9, empK, ih, nodS_def]
theorem bs9_besV {s : ByteArray} (hw : wfS s = true) {j : Nat} (hj : j < 256) : bs9 hB s j = besV s (255 - j) := by
  unfold bs9 besV
  cases hb : bitS s (255 - j) with
  | false =>
    rw [if_neg (by simp), if_neg (by simp), em9_emp]
    unfold emp
    rw [show 256 - (255 - j + 1) = j by omega]
  | true =>
    rw [if_pos rfl, if_pos rfl]
    have h1 := wf9_size hw
    have h2 := ct9_cnt s j (by omega)
    have h3 := cntS_succ s (255 - j)
    have h4 := ct9_all s
    rw [hb, if_pos rfl, show 255 - j + 1 = 256 - j by omega] at h3
    congr 1 <;> omega
theorem ow9_own (k : ByteArray) (th : Bool) (v : ByteArray) : hB (ow9 k th v) = if th then ownS k v else emp 256 := by
  cases th
  · rw [if_neg (by simp), emp_last]
    unfold ow9
    rw [if_neg (by simp)]
  · rw [if_pos rfl]
    unfold ow9 ownS lenB
    rw [if_pos rfl]
theorem pa9_path (k : ByteArray) : pa9 hB k = pathS k := by unfold pa9 pathS; rfl
theorem tx9_clL (k : ByteArray) (th : Bool) (v : ByteArray) {s : ByteArray} (hw : wfS s = true) : ∀ j, j ≤ 256 → hB (tx9 hB (pa9 hB k) s (ow9 k th v) j) = clL (pathS k) (besV s) (if th then ownS k v else emp 256) (dn j)
  | 0, _ => by
    rw [tx9, ow9_own, show dn 0 = [] from List.take_zero, clL_nil]
  | j + 1, hj => by
    have ih := tx9_clL k th v hw j (by omega)
    rw [tx9, dn_succ j (by omega), clL_snoc, ih, bs9_besV hw (by omega), pa9_path]
    unfold clStep nod9
    simp only
    split
    · rw [nodS_def]
    · rw [nodS_def]
theorem rt9_holds {root k v s : ByteArray} {th : Bool} (hk : k.size ≤ 255) (hv : v.size ≤ 255) (hth : th = false → v.size = 0) (h : verS root k v th s = true) : rt9 hB k th v s = root ∧ may9 k th v s = true := by
  unfold verS at h
  rw [Bool.and_eq_true, decide_eq_true_iff] at h
  obtain ⟨hw, hr⟩ := h
  have hm : may9 k th v s = true := by
    unfold may9
    rw [hw, decide_eq_true hk, decide_eq_true hv]
    cases th
    · simp [hth rfl]
    · simp
  refine ⟨?_, hm⟩
  unfold rt9
  rw [hm, if_pos rfl, tx9_clL k th v hw 256 (Nat.le_refl _), hr]
end Go.Proofs.Ytjdjndginacdnaa

/-
  Tiles' hashes in plain words.
-/
import Derived.Test.YtpapmcdnaplmkaaTMath
import Derived.Test.YtpapmcdnaplmkaaMMath
namespace Go.Proofs.Ytpapmcdnaplmkaa

/-- of a level, the k-th hash -/
def hashT (ss : List ByteArray) (l k : Nat) : ByteArray := rootM ((ss.drop (k * 4 ^ l)).take (4 ^ l))
/-- a tile's hashes -/
def cutL (ss : List ByteArray) (l i w : Nat) : List ByteArray := (List.range w).map fun j => hashT ss l (4 * i + j)
theorem cutL_length (ss : List ByteArray) (l i w : Nat) : (cutL ss l i w).length = w := by simp [cutL]
theorem cutL_get (ss : List ByteArray) (l i w j : Nat) (h : j < w) : (cutL ss l i w).getD j ByteArray.empty = hashT ss l (4 * i + j) := by
  simp [cutL, List.getD_eq_getElem?_getD, h]
/-- what a tile that is there is -/
theorem wid_pos {m : Nat} {level index : Int} (hm : m ≤ 64) (h : 0 < widT m level index) : ∃ l i w : Nat, level = (l : Int) ∧ index = (i : Int) ∧ widT m level index = w ∧ l ≤ 3 ∧ i < 16 ∧ 0 < w ∧ w ≤ 4 ∧ w = min 4 (m / 4 ^ l - 4 * i) ∧ (4 * i + w) * 4 ^ l ≤ m := by
  have hc := cnt_eq m level
  have hcl := cnt_le m level
  have h0 : ¬ (index < 0 ∨ (tlT (cntT m level) : Int) ≤ index) := fun hh => by
    unfold widT at h
    rw [if_pos hh] at h
    omega
  have hw : widT m level index = min 4 (cntT m level - 4 * index.toNat) := by
    unfold widT
    rw [if_neg h0]
  obtain ⟨i, rfl⟩ : ∃ i : Nat, index = (i : Int) := ⟨index.toNat, by omega⟩
  rw [Int.toNat_natCast] at hw
  have hl : ¬ ((m : Int) < 0 ∨ 64 < (m : Int) ∨ level < 0 ∨ 3 < level) := fun hh => by
    unfold rcntT at hc
    rw [if_pos hh] at hc
    omega
  obtain ⟨l, rfl⟩ : ∃ l : Nat, level = (l : Int) := ⟨level.toNat, by omega⟩
  unfold rcntT at hc
  rw [if_neg hl, Int.toNat_natCast, Int.toNat_natCast] at hc
  rw [hc] at hw
  have ht : i < 16 := by
    unfold tlT at h0
    omega
  refine ⟨l, i, widT m l i, rfl, rfl, rfl, by omega, ht, h, by omega, hw, ?_⟩
  have h1 : 4 * i + widT m l i ≤ m / 4 ^ l := by omega
  exact Nat.le_trans (Nat.mul_le_mul_right _ h1) (Nat.div_mul_le_self _ _)
theorem wid_of {m l i : Nat} (hm : m ≤ 64) (hl : l ≤ 3) (h : 4 * i < m / 4 ^ l) : widT m l i = min 4 (m / 4 ^ l - 4 * i) := by
  have hc : cntT m l = m / 4 ^ l := by
    rw [cnt_eq]
    unfold rcntT
    rw [if_neg (by omega), Int.toNat_natCast, Int.toNat_natCast]
  unfold widT
  rw [hc, Int.toNat_natCast, if_neg (by unfold tlT; omega)]
/-- a longer log's tile has no less -/
theorem wid_mono {k m : Nat} (hk : k ≤ m) (hm : m ≤ 64) (level index : Int) : widT k level index ≤ widT m level index := by
  rcases Nat.eq_zero_or_pos (widT k level index) with h | h
  · omega
  · obtain ⟨l, i, w, rfl, rfl, hw, hl, hi, hw0, hw4, hww, hb⟩ := wid_pos (show k ≤ 64 by omega) h
    have hd : k / 4 ^ l ≤ m / 4 ^ l := Nat.div_le_div_right hk
    have h2 := wid_of (i := i) hm hl (by omega)
    omega
theorem hash_same (ss : List ByteArray) (k l j : Nat) (h : (j + 1) * 4 ^ l ≤ k) : hashT (ss.take k) l j = hashT ss l j := by
  unfold hashT
  have h1 : j * 4 ^ l + 4 ^ l ≤ k := by rw [Nat.add_mul, Nat.one_mul] at h; exact h
  rw [List.drop_take, List.take_take, Nat.min_eq_left (by omega)]
theorem k2 : kM 2 = 1 := by decide
theorem k4 : kM 4 = 2 := by decide
theorem k16 : kM 16 = 8 := by decide
theorem k64 : kM 64 = 32 := by decide
theorem k8 : kM 8 = 4 := by decide
theorem k32 : kM 32 = 16 := by decide
theorem root_two (a b : ByteArray) : rootM [a, b] = nodM a b := by
  rw [rootM_more (show 2 ≤ [a, b].length from Nat.le_refl 2), show kM [a, b].length = 1 from k2, rootM_one rfl, rootM_one rfl]
  rfl
theorem root_four (a b c d : ByteArray) : rootM [a, b, c, d] = nodM (nodM a b) (nodM c d) := by
  rw [rootM_more (show 2 ≤ [a, b, c, d].length by simp), show kM [a, b, c, d].length = 2 from k4]
  show nodM (rootM [a, b]) (rootM [c, d]) = _
  rw [root_two, root_two]
/-- a root of four times as many, out of the quarters' -/
theorem root_quarters (p : Nat) (hp : 0 < p) (h4 : kM (4 * p) = 2 * p) (h2 : kM (2 * p) = p) (l : List ByteArray) (hl : l.length = 4 * p) : rootM l = nodM (nodM (rootM (l.take p)) (rootM ((l.drop p).take p))) (nodM (rootM ((l.drop (2 * p)).take p)) (rootM ((l.drop (3 * p)).take p))) := by
  rw [rootM_more (show 2 ≤ l.length by omega), hl, h4]
  have e1 : (l.take (2 * p)).length = 2 * p := by rw [List.length_take]; omega
  have e2 : (l.drop (2 * p)).length = 2 * p := by rw [List.length_drop]; omega
  rw [rootM_more (show 2 ≤ (l.take (2 * p)).length by omega), rootM_more (show 2 ≤ (l.drop (2 * p)).length by omega), e1, e2, h2]
  rw [List.take_take, Nat.min_eq_left (by omega), List.drop_take, show 2 * p - p = p by omega, List.drop_drop, show 2 * p + p = 3 * p by omega]
  rw [List.take_of_length_le (l := l.drop (3 * p)) (by rw [List.length_drop]; omega)]
/-- a full tile's hash is on the level above it -/
theorem cut_up (ss : List ByteArray) (l i : Nat) (hl : l ≤ 2) (hi : (4 * i + 4) * 4 ^ l ≤ ss.length) : rootM (cutL ss l i 4) = hashT ss (l + 1) i := by
  have hp : 0 < 4 ^ l := Nat.pow_pos (by decide)
  have hk : kM (4 * 4 ^ l) = 2 * 4 ^ l ∧ kM (2 * 4 ^ l) = 4 ^ l := by
    rcases (by omega : l = 0 ∨ l = 1 ∨ l = 2) with rfl | rfl | rfl
    · exact ⟨k4, k2⟩
    · exact ⟨k16, k8⟩
    · exact ⟨k64, k32⟩
  rw [show cutL ss l i 4 = [hashT ss l (4 * i), hashT ss l (4 * i + 1), hashT ss l (4 * i + 2), hashT ss l (4 * i + 3)] from rfl, root_four]
  unfold hashT
  rw [Nat.pow_succ]
  generalize 4 ^ l = p at *
  have e : i * (p * 4) = 4 * i * p := by rw [Nat.mul_comm p 4, ← Nat.mul_assoc, Nat.mul_comm i 4]
  have e4 : (4 * i + 4) * p = 4 * i * p + 4 * p := Nat.add_mul _ _ _
  rw [root_quarters p hp hk.1 hk.2 ((ss.drop (i * (p * 4))).take (p * 4)) (by rw [List.length_take, List.length_drop]; omega)]
  have q : ∀ a, a + p ≤ p * 4 → (((ss.drop (i * (p * 4))).take (p * 4)).drop a).take p = (ss.drop (4 * i * p + a)).take p := fun a ha => by
    rw [List.drop_take, List.take_take, Nat.min_eq_left (by omega), List.drop_drop, e]
  have q0 : ((ss.drop (i * (p * 4))).take (p * 4)).take p = (ss.drop (4 * i * p)).take p := by
    rw [List.take_take, Nat.min_eq_left (by omega), e]
  rw [q0, q p (by omega), q (2 * p) (by omega), q (3 * p) (by omega)]
  have f : ∀ a, (4 * i + a) * p = 4 * i * p + a * p := fun a => Nat.add_mul _ _ _
  rw [f 1, f 2, f 3, Nat.one_mul]
/-- the tile above a full one -/
theorem wid_above {m l i : Nat} (hm : m ≤ 64) (hl : l ≤ 3) (h : (4 * i + 4) * 4 ^ l ≤ m) : l ≤ 2 ∧ (i % 4 : Nat) < widT m ((l + 1 : Nat) : Int) ((i / 4 : Nat) : Int) ∧ (4 * i + 4) * 4 ^ l ≤ m := by
  have h1 : 4 * 4 ^ l ≤ m := Nat.le_trans (Nat.mul_le_mul_right _ (by omega)) h
  have hl2 : l ≤ 2 := by
    rcases Nat.lt_or_ge 2 l with h2 | h2
    · obtain rfl : l = 3 := by omega
      have : (4 : Nat) * 4 ^ 3 = 256 := by decide
      omega
    · exact h2
  refine ⟨hl2, ?_, h⟩
  have hp : 0 < 4 ^ (l + 1) := Nat.pow_pos (by decide)
  have h2 : (i + 1) * 4 ^ (l + 1) ≤ m := by
    rw [Nat.pow_succ]
    have : (i + 1) * (4 ^ l * 4) = (4 * i + 4) * 4 ^ l := by
      rw [Nat.mul_comm (4 ^ l) 4, ← Nat.mul_assoc]
      congr 1
      omega
    omega
  have h3 : i + 1 ≤ m / 4 ^ (l + 1) := (Nat.le_div_iff_mul_le hp).2 h2
  rw [wid_of hm (by omega) (by omega)]
  omega
end Go.Proofs.Ytpapmcdnaplmkaa

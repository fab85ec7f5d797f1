/-
  Roots of entries that lie in whatever order.
-/
import Derived.Test.YtjmjkcgldencoaaGreatSEntM
namespace Go.Proofs.YtjmjkcgldencoaaGreat
open Go.RowKit

/-- the one whose key is the least -/
def leastE : Ent → List Ent → Ent
  | x, [] => x
  | x, y :: r => leastE (if Op.bytesLess y.key.toList x.key.toList then y else x) r
def rootL : Nat → List Ent → ByteArray
  | 0, [] => empK 0
  | 0, x :: r => ownS (leastE x r).key (leastE x r).val
  | k + 1, [] => empK (k + 1)
  | k + 1, x :: r => nodS (rootL k (zer (255 - k) (x :: r))) (rootL k (one (255 - k) (x :: r)))
theorem rootL_nil (k : Nat) : rootL k [] = empK k := by cases k <;> simp [rootL]
theorem rootL_size (k : Nat) (es : List Ent) : (rootL k es).size = 32 := by
  cases k with
  | zero => cases es with
    | nil => rw [rootL]; exact empK_size _
    | cons x r => rw [rootL]; exact ownS_size _ _
  | succ k => cases es with
    | nil => rw [rootL]; exact empK_size _
    | cons x r => rw [rootL]; exact nodS_size _ _
/-- up along a path, with the empty ones beside -/
def climbE (p X : ByteArray) : Nat → ByteArray
  | 0 => X
  | k + 1 => if bitS p (255 - k) then nodS (empK k) (climbE p X k) else nodS (climbE p X k) (empK k)
theorem climbE_size (p X : ByteArray) (hX : X.size = 32) : ∀ k, (climbE p X k).size = 32
  | 0 => hX
  | k + 1 => by unfold climbE; split <;> exact nodS_size _ _
theorem rootL_one (x : Ent) : ∀ k, rootL k [x] = climbE x.path (ownS x.key x.val) k
  | 0 => by rw [rootL]; rfl
  | k + 1 => by
    rw [rootL, climbE]
    cases h : bitS x.path (255 - k)
    · have e1 : zer (255 - k) [x] = [x] := by simp [zer, h]
      have e2 : one (255 - k) [x] = [] := by simp [one, h]
      rw [e1, e2, rootL_one x k, rootL_nil]
      rfl
    · have e1 : zer (255 - k) [x] = [] := by simp [zer, h]
      have e2 : one (255 - k) [x] = [x] := by simp [one, h]
      rw [e1, e2, rootL_one x k, rootL_nil]
      rfl
/-- the order of keys -/
def keyLt (x y : Ent) : Prop := x.key.data.toList < y.key.data.toList
theorem keyLt_iff (x y : Ent) : Op.bytesLess x.key.toList y.key.toList = true ↔ keyLt x y := ltB_iff x.key y.key
theorem leastE_mem : ∀ (x : Ent) (r : List Ent), leastE x r ∈ x :: r
  | x, [] => by simp [leastE]
  | x, y :: r => by
    rw [leastE]
    have := leastE_mem (if Op.bytesLess y.key.toList x.key.toList then y else x) r
    rcases List.mem_cons.1 this with h | h
    · rw [h]; split <;> simp
    · exact List.mem_cons_of_mem _ (List.mem_cons_of_mem _ h)
theorem leastE_le : ∀ (x : Ent) (r : List Ent), ∀ z ∈ x :: r, ¬ keyLt z (leastE x r)
  | x, [], z, hz => by
    rw [List.mem_singleton.1 hz]
    exact List.lt_irrefl _
  | x, y :: r, z, hz => by
    rw [leastE]
    have ih := leastE_le (if Op.bytesLess y.key.toList x.key.toList then y else x) r
    have ih0 := ih (if Op.bytesLess y.key.toList x.key.toList then y else x) List.mem_cons_self
    rcases List.mem_cons.1 hz with rfl | hz
    · split at ih0
      · next h =>
        rw [if_pos h]
        rw [keyLt_iff] at h
        intro h2
        exact ih0 (List.lt_trans h h2)
      · next h =>
        rw [if_neg h]
        exact ih0
    · rcases List.mem_cons.1 hz with rfl | hz
      · split at ih0
        · next h => rw [if_pos h]; exact ih0
        · next h =>
          rw [if_neg h]
          rw [keyLt_iff] at h
          intro h2
          rcases lst_tri z.key x.key with h3 | h3 | h3
          · exact h h3
          · unfold keyLt at h2 ih0; rw [h3] at h2; exact ih0 h2
          · exact ih0 (List.lt_trans h3 h2)
      · exact ih z (List.mem_cons_of_mem _ hz)
/-- no two of one key -/
def Apart1 (es : List Ent) : Prop := es.Pairwise fun x y => x.key ≠ y.key
theorem Apart1.same {es : List Ent} (h : Apart1 es) {x y : Ent} (hx : x ∈ es) (hy : y ∈ es) (he : x.key = y.key) : x = y := by
  induction es with
  | nil => cases hx
  | cons z r ih =>
    obtain ⟨h1, h2⟩ := List.pairwise_cons.1 h
    rcases List.mem_cons.1 hx with e1 | k1 <;> rcases List.mem_cons.1 hy with e2 | k2
    · rw [e1, e2]
    · rw [e1] at he; exact absurd he (h1 y k2)
    · rw [e2] at he; exact absurd he.symm (h1 x k1)
    · exact ih h2 k1 k2
theorem Apart1.filter {es : List Ent} (h : Apart1 es) (f : Ent → Bool) : Apart1 (es.filter f) := List.Pairwise.filter f h
/-- whichever order they lie in -/
theorem rootL_perm : ∀ (k : Nat) {es fs : List Ent}, es.Perm fs → Apart1 es → rootL k es = rootL k fs
  | 0, es, fs, hp, ha => by
    cases es with
    | nil => rw [List.nil_perm.1 hp]
    | cons x r =>
      cases fs with
      | nil => exact absurd (List.perm_nil.1 hp) (by simp)
      | cons y s =>
        rw [rootL, rootL]
        have m1 := leastE_mem x r
        have m2 := hp.mem_iff.2 (leastE_mem y s)
        have l1 := leastE_le x r _ m2
        have l2 := leastE_le y s _ (hp.mem_iff.1 m1)
        have : leastE x r = leastE y s := by
          refine ha.same m1 m2 ?_
          rcases lst_tri (leastE x r).key (leastE y s).key with h | h | h
          · exact absurd h l2
          · exact h
          · exact absurd h l1
        rw [this]
  | k + 1, es, fs, hp, ha => by
    cases es with
    | nil => rw [List.nil_perm.1 hp]
    | cons x r =>
      cases fs with
      | nil => exact absurd (List.perm_nil.1 hp) (by simp)
      | cons y s =>
        rw [rootL, rootL, rootL_perm k (es := zer (255 - k) (x :: r)) (fs := zer (255 - k) (y :: s)) (hp.filter _) (ha.filter _), rootL_perm k (es := one (255 - k) (x :: r)) (fs := one (255 - k) (y :: s)) (hp.filter _) (ha.filter _)]
theorem same_bits {x y : ByteArray} (hx : x.size = 32) (hy : y.size = 32) (h : ∀ j, j < 256 → bitS x j = bitS y j) : x = y := by
  have e : nums x = nums y := by
    apply List.ext_getElem
    · rw [nums_length, nums_length, hx, hy]
    · intro i h1 h2
      rw [nums_length] at h1
      have b1 := nums_lt x _ (List.getElem_mem (by rw [nums_length]; omega : i < (nums x).length))
      have b2 := nums_lt y _ (List.getElem_mem h2)
      have := top_same (nums x)[i] (nums y)[i] b1 b2 8 (Nat.le_refl _) fun j hj => by
        have := h (8 * i + j) (by omega)
        unfold bitS at this
        rw [show (8 * i + j) / 8 = i by omega, show (8 * i + j) % 8 = j by omega, List.getD_eq_getElem?_getD, List.getD_eq_getElem?_getD, List.getElem?_eq_getElem (by rw [nums_length]; omega), List.getElem?_eq_getElem h2] at this
        exact this
      simpa using this
  have h1 : strN (nums x) = strN (nums y) := by rw [e]
  rwa [strN_nums, strN_nums] at h1
/-- entries of one path lie in the order of their keys -/
def ByKey (es : List Ent) : Prop := es.Pairwise fun x y => x.path = y.path → ¬ keyLt y x
theorem leastE_first : ∀ (x : Ent) (r : List Ent), (∀ y ∈ r, ¬ keyLt y x) → leastE x r = x
  | _, [], _ => rfl
  | x, y :: r, h => by
    rw [leastE, if_neg (by rw [keyLt_iff]; exact h y (by simp))]
    exact leastE_first x r fun z hz => h z (by simp [hz])
/-- in order, it is the root that the program reckons -/
theorem rootL_rootK : ∀ (k d : Nat) (es : List Ent), d + k = 256 → Good d es → ByKey es → rootL k es = rootK k es
  | 0, d, es, hd, hG, hK => by
    cases es with
    | nil => rw [rootL_nil, rootK_nil]
    | cons x r =>
      obtain rfl : d = 256 := by omega
      rw [rootL, rootK, leastE_first x r fun y hy => (List.pairwise_cons.1 hK).1 y hy (same_bits (hG.size x (by simp)) (hG.size y (by simp [hy])) fun j hj => hG.same x (by simp) y (by simp [hy]) j hj)]
  | k + 1, d, es, hd, hG, hK => by
    cases es with
    | nil => rw [rootL_nil, rootK_nil]
    | cons x r =>
      have hdk : 255 - k = d := by omega
      rw [rootL, rootK, hdk, rootL_rootK k (d + 1) (zer d (x :: r)) (by omega) hG.zer (List.Pairwise.filter _ hK), rootL_rootK k (d + 1) (one d (x :: r)) (by omega) hG.one (List.Pairwise.filter _ hK)]
theorem ents_byKey (D : DataW Unit) : ByKey (entsD D) := by
  unfold entsD ByKey
  refine List.pairwise_map.2 ((srt_pair (keysD D)).imp fun {x y} h => ?_)
  rw [ltK_false] at h
  intro he h2
  exact h (.inr ⟨he.symm, h2⟩)
end Go.Proofs.YtjmjkcgldencoaaGreat

/-
  Maps of pairs; a map hangs on no order in which it was filled. Entries in order: one list, whatever order they came in. Roots of entries that lie in whatever order. The reference's Climb: its value.
-/
import Derived.Test.YtakgolbgeeoioaaGreatSRootSNilRSOrd2SMap
import Derived.Test.YtakgolbgeeoioaaGreatHStepSTreeSConvSPlantSBitSRefASFitP
import Derived.Sort.LotA
import Derived.Test.YtakgolbgeeoioaaGreatSRefBSRefCMSRefCYRef1YRef2
namespace Go.Proofs.YtakgolbgeeoioaaGreat
open Go.RowKit Go.Maps

theorem madeL_isMap (ps : List (ByteArray × ByteArray)) : IsMap (madeL ps) := by
 induction ps using snoc_ind with
 | h0 => exact isMap_empty
 | h1 l a ih => rw [madeL_snoc]; exact ih.put _ _
theorem litK_key (k : ByteArray) : WideAt.IsKeyLit (litK k) := trivial
theorem made_has (ps : List (ByteArray × ByteArray)) (x : ByteArray) : has (madeL ps) (litK x) = (lookP ps x).isSome := by
 induction ps using snoc_ind with
 | h0 => rfl
 | h1 l a ih =>
  rw [madeL_snoc, lookP_snoc]
  by_cases h : a.1 = x
  · subst h
    rw [has_put_same (madeL_isMap l) (litK_key _), if_pos rfl]
    rfl
  · rw [has_put_other (fun e => h (litK_inj e).symm), if_neg h, ih]
theorem made_at (ps : List (ByteArray × ByteArray)) (x : ByteArray) (z : DataW Unit) : (madeL ps).atKey (litK x) z = match lookP ps x with | some v => datV v | none => z := by
 induction ps using snoc_ind with
 | h0 => rfl
 | h1 l a ih =>
  rw [madeL_snoc, lookP_snoc]
  by_cases h : a.1 = x
  · subst h
    rw [atKey_put_same (madeL_isMap l) (litK_key _), if_pos rfl]
  · rw [atKey_put_other (fun e => h (litK_inj e).symm), if_neg h, ih]
theorem made_other (ps : List (ByteArray × ByteArray)) {l : Lit} (h : ∀ x, l ≠ litK x) : has (madeL ps) l = false := by
 induction ps using snoc_ind with
 | h0 => rfl
 | h1 l' a ih => rw [madeL_snoc, has_put_other (h _), ih]
theorem lit_cases (l : Lit) : (∃ x, l = litK x) ∨ ∀ x, l ≠ litK x := by
 cases l with
 | string b => exact .inl ⟨⟨b.toArray⟩, by simp [litK]⟩
 | _ => exact .inr fun x h => by unfold litK at h; cases h
theorem made_ext {ps qs : List (ByteArray × ByteArray)} (c1 : Canon (madeL ps)) (c2 : Canon (madeL qs)) (h : ∀ x, lookP ps x = lookP qs x) : madeL ps = madeL qs := by
 refine ext c1 c2 (fun l => ?_) (fun l z hl => ?_)
 · rcases lit_cases l with ⟨x, rfl⟩ | hn
   · rw [made_has, made_has, h]
   · rw [made_other ps hn, made_other qs hn]
 · rcases lit_cases l with ⟨x, rfl⟩ | hn
   · rw [made_at, made_at, h]
   · rw [made_other ps hn] at hl; cases hl
theorem look_mem {q : List (ByteArray × ByteArray)} (hd : q.Pairwise fun a b => a.1 ≠ b.1) (x v : ByteArray) : lookP q x = some v ↔ (x, v) ∈ q := by
 induction q using snoc_ind with
 | h0 => simp [lookP]
 | h1 l a ih =>
  obtain ⟨hl, _, hc⟩ := List.pairwise_append.1 hd
  rw [lookP_snoc, List.mem_append, List.mem_singleton]
  by_cases h : a.1 = x
  · subst h
    rw [if_pos rfl]
    constructor
    · intro e; injection e with e; right; rw [← e]
    · rintro (hm | hm)
      · exact absurd rfl (hc _ hm a (by simp))
      · rw [← hm]
  · rw [if_neg h, ih hl]
    constructor
    · exact .inl
    · rintro (hm | hm)
      · exact hm
      · exact absurd (congrArg Prod.fst hm).symm h
theorem agn_false {ps : List (ByteArray × ByteArray)} {i : Nat} : ∀ {m : Nat}, agn ps i m = false → ∀ t, t < m → keyP ps (i + 1 + t) ≠ keyP ps i
 | 0, _, t, ht => absurd ht (Nat.not_lt_zero _)
 | m + 1, h, t, ht => by
  rw [agn, Bool.or_eq_false_iff] at h
  rcases Nat.lt_or_eq_of_le (Nat.le_of_lt_succ ht) with h1 | rfl
  · exact agn_false h.1 t h1
  · exact of_decide_eq_false h.2
theorem agn_true {ps : List (ByteArray × ByteArray)} {i : Nat} : ∀ {m : Nat}, agn ps i m = true → ∃ t, t < m ∧ keyP ps (i + 1 + t) = keyP ps i
 | 0, h => by cases h
 | m + 1, h => by
  rw [agn, Bool.or_eq_true] at h
  rcases h with h | h
  · obtain ⟨t, h1, h2⟩ := agn_true h
    exact ⟨t, by omega, h2⟩
  · exact ⟨m, by omega, of_decide_eq_true h⟩
theorem last_later (ps : List (ByteArray × ByteArray)) : ∀ k, ∀ q ∈ lastK ps k, ∀ j, k ≤ j → j < ps.length → keyP ps j ≠ q.1
 | 0, _, h, _, _, _ => by cases h
 | k + 1, q, h, j, hk, hj => by
  rw [lastK] at h
  rcases List.mem_append.1 h with h | h
  · exact last_later ps k q h j (by omega) hj
  · cases ha : agn ps k (ps.length - (k + 1)) with
    | true => rw [ha] at h; cases h
    | false =>
     rw [ha] at h
     rw [List.mem_singleton.1 h]
     have := agn_false ha (j - (k + 1)) (by omega)
     rwa [show k + 1 + (j - (k + 1)) = j by omega] at this
theorem last_apart (ps : List (ByteArray × ByteArray)) : ∀ k, k ≤ ps.length → (lastK ps k).Pairwise fun a b => a.1 ≠ b.1
 | 0, _ => List.Pairwise.nil
 | k + 1, hk => by
  rw [lastK]
  refine List.pairwise_append.2 ⟨last_apart ps k (by omega), by split <;> simp, fun a ha b hb => ?_⟩
  split at hb
  · cases hb
  · rw [List.mem_singleton.1 hb]
    exact (last_later ps k a ha k (Nat.le_refl _) (by omega)).symm
theorem last_look (ps : List (ByteArray × ByteArray)) : ∀ k, k ≤ ps.length → ∀ x, (∀ j, k ≤ j → j < ps.length → keyP ps j ≠ x) → lookP (lastK ps k) x = lookP (ps.take k) x
 | 0, _, _, _ => rfl
 | k + 1, hk, x, hx => by
  have e1 : ps.take (k + 1) = ps.take k ++ [ps.getD k (ByteArray.empty, ByteArray.empty)] := by
   rw [List.take_succ_eq_append_getElem (by omega), getD_pair (by omega)]
  rw [e1, lookP_snoc, lastK]
  by_cases h : (ps.getD k (ByteArray.empty, ByteArray.empty)).1 = x
  · rw [if_pos h]
    cases ha : agn ps k (ps.length - (k + 1)) with
    | true =>
     obtain ⟨t, ht, he⟩ := agn_true ha
     exact absurd (he.trans h) (hx (k + 1 + t) (by omega) (by omega))
    | false => simp only [Bool.false_eq_true, if_false]; rw [lookP_snoc, if_pos h]
  · rw [if_neg h, ← last_look ps k (by omega) x (fun j hj hl => by
     rcases Nat.lt_or_eq_of_le hj with h1 | rfl
     · exact hx j h1 hl
     · exact h)]
    split
    · rw [List.append_nil]
    · rw [lookP_snoc, if_neg h]
/-- filled otherwise, it is the same -/
theorem back_look (ps : List (ByteArray × ByteArray)) (x : ByteArray) : lookP (lastK ps ps.length).reverse x = lookP ps x := by
 have h1 := last_look ps ps.length (Nat.le_refl _) x (fun j h1 h2 => absurd h2 (by omega))
 rw [List.take_length] at h1
 rw [← h1]
 have hp := last_apart ps ps.length (Nat.le_refl _)
 have hr : (lastK ps ps.length).reverse.Pairwise fun a b => a.1 ≠ b.1 := by
  rw [List.pairwise_reverse]
  exact hp.imp fun h => h.symm
 apply Option.ext
 intro v
 rw [look_mem hr, look_mem hp, List.mem_reverse]

theorem keyed : Keyed Tryz.prog 9 := string_keyed Tryz.underlying9
/-- block b is the map of the pairs -/
def MapAt (w : World) (b : Nat) (ps : List (ByteArray × ByteArray)) : Prop := w.ownsMap Tryz.prog 9 (plainElem (H := Unit) Tryz.prog 9) b ps.length (madeL ps)
/-- what made answers -/
def RM (ps : List (ByteArray × ByteArray)) (w : World) (e : Ending) (w' : World) : Prop := ∃ b, e = .returned (.map (some b)) ∧ w.heap.size ≤ b ∧ MapAt w' b ps ∧ Below w.heap.size w w'
end Go.Proofs.YtakgolbgeeoioaaGreat
namespace Go.Proofs.YtakgolbgeeoioaaGreat
open Go.RowKit Go.Sort Go.Maps

theorem ltB_iff (x y : ByteArray) : Op.bytesLess x.toList y.toList = true ↔ x.data.toList < y.data.toList := by
 rw [bytesLess_eq, Lib.toList_data, Lib.toList_data, decide_eq_true_iff]
theorem eqB_iff (x y : ByteArray) : (x.toList == y.toList) = true ↔ x = y := by
 rw [beqB5, decide_eq_true_iff]
theorem cmpS_neg (x y : ByteArray) : cmpS x y < 0 ↔ x.data.toList < y.data.toList := by
 unfold cmpS
 rw [← ltB_iff]
 cases h1 : Op.bytesLess x.toList y.toList
 · cases h2 : (x.toList == y.toList) <;> simp
 · simp
theorem cmpS_zero (x y : ByteArray) : cmpS x y = 0 ↔ x = y := by
 rw [← eqB_iff]
 unfold cmpS
 cases h1 : Op.bytesLess x.toList y.toList
 · cases h2 : (x.toList == y.toList) <;> simp
 · have h := (ltB_iff x y).1 h1
   cases h2 : (x.toList == y.toList)
   · simp
   · have e := (eqB_iff x y).1 h2
     subst e
     exact absurd h (List.lt_irrefl _)
/-- x comes ahead of y -/
def Ahd (x y : ByteArray) : Prop := (pathS x).data.toList < (pathS y).data.toList ∨ (pathS x = pathS y ∧ x.data.toList < y.data.toList)
theorem cfK_neg (x y : ByteArray) : cfK x y < 0 ↔ Ahd x y := by
 unfold cfK orI Ahd
 by_cases h : cmpS (pathS x) (pathS y) = 0
 · rw [if_pos h, cmpS_neg]
   have e := (cmpS_zero _ _).1 h
   constructor
   · intro h2; exact .inr ⟨e, h2⟩
   · rintro (h2 | h2)
     · rw [e] at h2; exact absurd h2 (List.lt_irrefl _)
     · exact h2.2
 · rw [if_neg h, cmpS_neg]
   constructor
   · exact .inl
   · rintro (h2 | h2)
     · exact h2
     · exact absurd ((cmpS_zero _ _).2 h2.1) h
theorem ltK_iff (x y : ByteArray) : ltOf cfK x y = true ↔ Ahd x y := by
 unfold ltOf
 rw [decide_eq_true_iff, cfK_neg]
theorem ahd_irrefl (x : ByteArray) : ¬ Ahd x x := by
 rintro (h | h)
 · exact List.lt_irrefl _ h
 · exact List.lt_irrefl _ h.2
theorem ahd_trans {x y z : ByteArray} (h1 : Ahd x y) (h2 : Ahd y z) : Ahd x z := by
 rcases h1 with h1 | ⟨e1, h1⟩ <;> rcases h2 with h2 | ⟨e2, h2⟩
 · exact .inl (List.lt_trans h1 h2)
 · rw [e2] at h1; exact .inl h1
 · rw [← e1] at h2; exact .inl h2
 · exact .inr ⟨e1.trans e2, List.lt_trans h1 h2⟩
theorem lst_tri (a b : ByteArray) : a.data.toList < b.data.toList ∨ a = b ∨ b.data.toList < a.data.toList := by
 by_cases h1 : a.data.toList < b.data.toList
 · exact .inl h1
 · by_cases h2 : b.data.toList < a.data.toList
   · exact .inr (.inr h2)
   · exact .inr (.inl (ByteArray.ext (Array.toList_inj.1 (List.le_antisymm (List.not_lt.1 h2) (List.not_lt.1 h1)))))
theorem ahd_tri (x y : ByteArray) : Ahd x y ∨ x = y ∨ Ahd y x := by
 rcases lst_tri (pathS x) (pathS y) with h | h | h
 · exact .inl (.inl h)
 · rcases lst_tri x y with h2 | h2 | h2
   · exact .inl (.inr ⟨h, h2⟩)
   · exact .inr (.inl h2)
   · exact .inr (.inr (.inr ⟨h.symm, h2⟩))
 · exact .inr (.inr (.inl h))
theorem ahd_asymm {x y : ByteArray} (h1 : Ahd x y) (h2 : Ahd y x) : False := ahd_irrefl x (ahd_trans h1 h2)
theorem ltK_false (x y : ByteArray) : ltOf cfK x y = false ↔ ¬ Ahd x y := by rw [← ltK_iff, Bool.not_eq_true]
theorem swoK : SWO (ltOf cfK) where
 irrefl x := (ltK_false x x).2 (ahd_irrefl x)
 trans x y z h1 h2 := (ltK_iff x z).2 (ahd_trans ((ltK_iff x y).1 h1) ((ltK_iff y z).1 h2))
 ntrans x y z h1 h2 := (ltK_false x z).2 fun h => by
  rw [ltK_false] at h1 h2
  rcases ahd_tri x y with h3 | h3 | h3
  · exact h1 h3
  · rw [h3] at h; exact h2 h
  · exact h2 (ahd_trans h3 h)
theorem oneK (x y : ByteArray) (h1 : ltOf cfK x y = false) (h2 : ltOf cfK y x = false) : x = y := by
 rw [ltK_false] at h1 h2
 rcases ahd_tri x y with h | h | h
 · exact absurd h h1
 · exact h
 · exact absurd h h2
/-- keys in order -/
def srt (ks : List ByteArray) : List ByteArray := ks.mergeSort fun x y => !ltOf cfK y x
theorem srt_pair (ks : List ByteArray) : (srt ks).Pairwise fun x y => ltOf cfK y x = false := by
 have := List.pairwise_mergeSort (le := fun x y => !ltOf cfK y x) (fun a b c h1 h2 => by
  simp only [Bool.not_eq_true'] at *
  exact swoK.ntrans c b a h2 h1) (fun a b => by
  cases h1 : ltOf cfK b a <;> cases h2 : ltOf cfK a b <;> simp
  exact (ahd_asymm ((ltK_iff _ _).1 h1) ((ltK_iff _ _).1 h2)).elim) ks
 exact this.imp fun h => by simpa using h
theorem srt_perm {ks ks' : List ByteArray} (h : ks.Perm ks') : srt ks = srt ks' := by
 refine List.Perm.eq_of_pairwise (le := fun x y => ltOf cfK y x = false) (fun a b _ _ h1 h2 => oneK a b h2 h1) (srt_pair ks) (srt_pair ks') (((List.mergeSort_perm ks _).trans h).trans (List.mergeSort_perm ks' _).symm)
theorem lex_of {a b : List UInt8} (h : ¬ b < a) : lexLe (a.map (·.toNat)) (b.map (·.toNat)) := by
 induction a generalizing b with
 | nil => exact trivial
 | cons x r ih =>
  cases b with
  | nil => exact absurd (List.nil_lt_cons x r) h
  | cons y s =>
   rw [List.cons_lt_cons_iff, not_or, not_and] at h
   show x.toNat < y.toNat ∨ (x.toNat = y.toNat ∧ _)
   rcases Nat.lt_trichotomy x.toNat y.toNat with h1 | h1 | h1
   · exact .inl h1
   · exact .inr ⟨h1, ih (h.2 (UInt8.toNat_inj.1 h1).symm)⟩
   · exact absurd (UInt8.lt_iff_toNat_lt.2 h1) h.1
/-- the value that the map has for the key -/
def valD (D : DataW Unit) (k : ByteArray) : ByteArray := match D.atKey (litK k) .nil with | .lit (.string b) => ⟨b.toArray⟩ | _ => ByteArray.empty
def keysD (D : DataW Unit) : List ByteArray := (strKeys D).map fun l => ⟨l.toArray⟩
/-- the map's entries, in order -/
def entsD (D : DataW Unit) : List Ent := (srt (keysD D)).map (entK (valD D))
theorem ents_good (D : DataW Unit) : Good 0 (entsD D) := by
 refine ⟨fun x hx => ?_, ?_, fun _ _ _ _ j hj => absurd hj (Nat.not_lt_zero _)⟩
 · obtain ⟨k, _, rfl⟩ := List.mem_map.1 hx
   exact pathS_size k
 · unfold entsD
   refine List.pairwise_map.2 ((srt_pair (keysD D)).imp fun {x y} h => ?_)
   rw [ltK_false] at h
   exact lex_of fun h2 => h (.inl h2)
theorem ents_len (D : DataW Unit) : (entsD D).length = (strKeys D).length := by
 unfold entsD srt keysD
 rw [List.length_map, List.length_mergeSort, List.length_map]
end Go.Proofs.YtakgolbgeeoioaaGreat
namespace Go.Proofs.YtakgolbgeeoioaaGreat
open Go.RowKit

/-- the one whose key is the least -/
def leastE : Ent → List Ent → Ent
 | x, [] => x
 | x, y :: r => leastE (if Op.bytesLess y.key.toList x.key.toList then y else x) r
def rootL : Nat → List Ent → ByteArray
 | 0, [] => empK 0
 | 0, x :: r => ownS (leastE x r).key (leastE x r).val
 | k + 1, [] => empK (k + 1)
 | k + 1, x :: r => nodS (rootL k (zer (255 - k) (x :: r))) (rootL k (one (255 - k) (x :: r)))
theorem rootL_nil (k : Nat) : rootL k [] = empK k := by cases k <;> simp [rootL]
theorem rootL_size (k : Nat) (es : List Ent) : (rootL k es).size = 32 := by
 cases k with
 | zero => cases es with
  | nil => rw [rootL]; exact empK_size _
  | cons x r => rw [rootL]; exact ownS_size _ _
 | succ k => cases es with
  | nil => rw [rootL]; exact empK_size _
  | cons x r => rw [rootL]; exact nodS_size _ _
/-- up along a path, with the empty ones beside -/
def climbE (p X : ByteArray) : Nat → ByteArray
 | 0 => X
 | k + 1 => if bitS p (255 - k) then nodS (empK k) (climbE p X k) else nodS (climbE p X k) (empK k)
theorem climbE_size (p X : ByteArray) (hX : X.size = 32) : ∀ k, (climbE p X k).size = 32
 | 0 => hX
 | k + 1 => by unfold climbE; split <;> exact nodS_size _ _
theorem rootL_one (x : Ent) : ∀ k, rootL k [x] = climbE x.path (ownS x.key x.val) k
 | 0 => by rw [rootL]; rfl
 | k + 1 => by
  rw [rootL, climbE]
  cases h : bitS x.path (255 - k)
  · have e1 : zer (255 - k) [x] = [x] := by simp [zer, h]
    have e2 : one (255 - k) [x] = [] := by simp [one, h]
    rw [e1, e2, rootL_one x k, rootL_nil]
    rfl
  · have e1 : zer (255 - k) [x] = [] := by simp [zer, h]
    have e2 : one (255 - k) [x] = [x] := by simp [one, h]
    rw [e1, e2, rootL_one x k, rootL_nil]
    rfl
/-- the order of keys -/
def keyLt (x y : Ent) : Prop := x.key.data.toList < y.key.data.toList
theorem keyLt_iff (x y : Ent) : Op.bytesLess x.key.toList y.key.toList = true ↔ keyLt x y := ltB_iff x.key y.key
theorem leastE_mem : ∀ (x : Ent) (r : List Ent), leastE x r ∈ x :: r
 | x, [] => by simp [leastE]
 | x, y :: r => by
  rw [leastE]
  have := leastE_mem (if Op.bytesLess y.key.toList x.key.toList then y else x) r
  rcases List.mem_cons.1 this with h | h
  · rw [h]; split <;> simp
  · exact List.mem_cons_of_mem _ (List.mem_cons_of_mem _ h)
theorem leastE_le : ∀ (x : Ent) (r : List Ent), ∀ z ∈ x :: r, ¬ keyLt z (leastE x r)
 | x, [], z, hz => by
  rw [List.mem_singleton.1 hz]
  exact List.lt_irrefl _
 | x, y :: r, z, hz => by
  rw [leastE]
  have ih := leastE_le (if Op.bytesLess y.key.toList x.key.toList then y else x) r
  have ih0 := ih (if Op.bytesLess y.key.toList x.key.toList then y else x) List.mem_cons_self
  rcases List.mem_cons.1 hz with rfl | hz
  · split at ih0
    · next h =>
      rw [if_pos h]
      rw [keyLt_iff] at h
      intro h2
      exact ih0 (List.lt_trans h h2)
    · next h =>
      rw [if_neg h]
      exact ih0
  · rcases List.mem_cons.1 hz with rfl | hz
    · split at ih0
      · next h => rw [if_pos h]; exact ih0
      · next h =>
        rw [if_neg h]
        rw [keyLt_iff] at h
        intro h2
        rcases lst_tri z.key x.key with h3 | h3 | h3
        · exact h h3
        · unfold keyLt at h2 ih0; rw [h3] at h2; exact ih0 h2
        · exact ih0 (List.lt_trans h3 h2)
    · exact ih z (List.mem_cons_of_mem _ hz)
/-- no two of one key -/
def Apart1 (es : List Ent) : Prop := es.Pairwise fun x y => x.key ≠ y.key
theorem Apart1.same {es : List Ent} (h : Apart1 es) {x y : Ent} (hx : x ∈ es) (hy : y ∈ es) (he : x.key = y.key) : x = y := by
 induction es with
 | nil => cases hx
 | cons z r ih =>
  obtain ⟨h1, h2⟩ := List.pairwise_cons.1 h
  rcases List.mem_cons.1 hx with e1 | k1 <;> rcases List.mem_cons.1 hy with e2 | k2
  · rw [e1, e2]
  · rw [e1] at he; exact absurd he (h1 y k2)
  · rw [e2] at he; exact absurd he.symm (h1 x k1)
  · exact ih h2 k1 k2
theorem Apart1.filter {es : List Ent} (h : Apart1 es) (f : Ent → Bool) : Apart1 (es.filter f) := List.Pairwise.filter f h
/-- whichever order they lie in -/
theorem rootL_perm : ∀ (k : Nat) {es fs : List Ent}, es.Perm fs → Apart1 es → rootL k es = rootL k fs
 | 0, es, fs, hp, ha => by
  cases es with
  | nil => rw [List.nil_perm.1 hp]
  | cons x r =>
   cases fs with
   | nil => exact absurd (List.perm_nil.1 hp) (by simp)
   | cons y s =>
    rw [rootL, rootL]
    have m1 := leastE_mem x r
    have m2 := hp.mem_iff.2 (leastE_mem y s)
    have l1 := leastE_le x r _ m2
    have l2 := leastE_le y s _ (hp.mem_iff.1 m1)
    have : leastE x r = leastE y s := by
     refine ha.same m1 m2 ?_
     rcases lst_tri (leastE x r).key (leastE y s).key with h | h | h
     · exact absurd h l2
     · exact h
     · exact absurd h l1
    rw [this]
 | k + 1, es, fs, hp, ha => by
  cases es with
  | nil => rw [List.nil_perm.1 hp]
  | cons x r =>
   cases fs with
   | nil => exact absurd (List.perm_nil.1 hp) (by simp)
   | cons y s =>
    rw [rootL, rootL, rootL_perm k (es := zer (255 - k) (x :: r)) (fs := zer (255 - k) (y :: s)) (hp.filter _) (ha.filter _), rootL_perm k (es := one (255 - k) (x :: r)) (fs := one (255 - k) (y :: s)) (hp.filter _) (ha.filter _)]
theorem same_bits {x y : ByteArray} (hx : x.size = 32) (hy : y.size = 32) (h : ∀ j, j < 256 → bitS x j = bitS y j) : x = y := by
 have e : nums x = nums y := by
  apply List.ext_getElem
  · rw [nums_length, nums_length, hx, hy]
  · intro i h1 h2
    rw [nums_length] at h1
    have b1 := nums_lt x _ (List.getElem_mem (by rw [nums_length]; omega : i < (nums x).length))
    have b2 := nums_lt y _ (List.getElem_mem h2)
    have := top_same (nums x)[i] (nums y)[i] b1 b2 8 (Nat.le_refl _) fun j hj => by
     have := h (8 * i + j) (by omega)
     unfold bitS at this
     rw [show (8 * i + j) / 8 = i by omega, show (8 * i + j) % 8 = j by omega, List.getD_eq_getElem?_getD, List.getD_eq_getElem?_getD, List.getElem?_eq_getElem (by rw [nums_length]; omega), List.getElem?_eq_getElem h2] at this
     exact this
    simpa using this
 have h1 : strN (nums x) = strN (nums y) := by rw [e]
 rwa [strN_nums, strN_nums] at h1
/-- entries of one path lie in the order of their keys -/
def ByKey (es : List Ent) : Prop := es.Pairwise fun x y => x.path = y.path → ¬ keyLt y x
theorem leastE_first : ∀ (x : Ent) (r : List Ent), (∀ y ∈ r, ¬ keyLt y x) → leastE x r = x
 | _, [], _ => rfl
 | x, y :: r, h => by
  rw [leastE, if_neg (by rw [keyLt_iff]; exact h y (by simp))]
  exact leastE_first x r fun z hz => h z (by simp [hz])
/-- in order, it is the root that the program reckons -/
theorem rootL_rootK : ∀ (k d : Nat) (es : List Ent), d + k = 256 → Good d es → ByKey es → rootL k es = rootK k es
 | 0, d, es, hd, hG, hK => by
  cases es with
  | nil => rw [rootL_nil, rootK_nil]
  | cons x r =>
   obtain rfl : d = 256 := by omega
   rw [rootL, rootK, leastE_first x r fun y hy => (List.pairwise_cons.1 hK).1 y hy (same_bits (hG.size x (by simp)) (hG.size y (by simp [hy])) fun j hj => hG.same x (by simp) y (by simp [hy]) j hj)]
 | k + 1, d, es, hd, hG, hK => by
  cases es with
  | nil => rw [rootL_nil, rootK_nil]
  | cons x r =>
   have hdk : 255 - k = d := by omega
   rw [rootL, rootK, hdk, rootL_rootK k (d + 1) (zer d (x :: r)) (by omega) hG.zer (List.Pairwise.filter _ hK), rootL_rootK k (d + 1) (one d (x :: r)) (by omega) hG.one (List.Pairwise.filter _ hK)]
theorem ents_byKey (D : DataW Unit) : ByKey (entsD D) := by
 unfold entsD ByKey
 refine List.pairwise_map.2 ((srt_pair (keysD D)).imp fun {x y} h => ?_)
 rw [ltK_false] at h
 intro he h2
 exact h (.inr ⟨he.symm, h2⟩)
end Go.Proofs.YtakgolbgeeoioaaGreat
namespace Go.Proofs.YtakgolbgeeoioaaGreat
open Go.RowKit

section
attribute [-go_sem] loadVar
set_option maxRecDepth 100000 in
set_option maxHeartbeats 1000000 in
theorem vclimb_any (p x : ByteArray) (hp : p.size = 32) (hx : x.size = 32) (d : Nat) (hd : d ≤ 256) (w : World) :
 Calls Tryz.prog 84 #[.agg (emC emp), .string p, .string x, .int .i64 256, .int .i64 d] w fun e w' => e = .returned (.string (climbE p x (256 - d))) ∧ Below w.heap.size w w' := by
 have HCE : Hid (∀ j (_ : j < 256) (Y : ByteArray), (if bitN p j = 0 then hB (⟨#[78]⟩ ++ Y ++ emp (j + 1)) else hB (⟨#[78]⟩ ++ emp (j + 1) ++ Y)) = (if bitS p j then nodS (emp (j + 1)) Y else nodS Y (emp (j + 1)))) := Lib.hid fun j _ Y => by
  rw [bitN_eq]
  unfold nodS
  cases bitS p j
  · rw [if_neg (by decide : ¬ (false = true)), if_pos rfl, if_neg (by decide : ¬ (false = true))]
  · rw [if_pos rfl, if_neg (by decide : ¬ ((1 : Nat) = 0)), if_pos rfl]
 have HCS : Hid (∀ j, j < 256 → climbE p x (256 - j) = if bitS p j then nodS (emp (j + 1)) (climbE p x (256 - (j + 1))) else nodS (climbE p x (256 - (j + 1))) (emp (j + 1))) := Lib.hid fun j hj => by
  unfold emp
  rw [show 256 - j = (256 - (j + 1)) + 1 by omega, climbE, show 255 - (256 - (j + 1)) = j by omega]
 have HCZ : Hid (∀ k, (climbE p x k).size = 32) := Lib.hid fun k => climbE_size p x hx k
 have HC0 : Hid (climbE p x (256 - 256) = x) := Lib.hid (by rw [Nat.sub_self, climbE])
 generalize climbE p x = CE at *
 have b0 : Blk (w.alloc (.cells (emC emp) 55)) w.heap.size 55 (emC emp) := Blk.new _ _ _
 have hB0 := (Below.refl _ w).alloc (Nat.le_refl _) (.cells (emC emp) 55)
 have HBI := Lib.hid (fun i (hi : i < 256) W => rbit_any p i hi (by omega) W)
 have HES := Lib.hid emp_size
 have HH := Lib.hid (fun (b : ByteArray) (hb : b.size ≤ 1000) W => rh5_any b (by omega) W)
 have HHS := Lib.hid hB_size
 go_enter Tryz.func84, Tryz.ntmps84
 go_wp2
 generalize w.alloc (.cells (emC emp) 55) = w0 at *
 go_loopw [2, 11] (fun y v wr => ∃ (k : Nat) (X : ByteArray), d ≤ k ∧ k ≤ 256 ∧ y = .string X ∧ Hid (X = CE (256 - k)) ∧ X.size = 32 ∧ v = .int .i64 ((k : Int) - 1) ∧ Blk wr w.heap.size 55 (emC emp) ∧ Below w.heap.size w wr) (fun _ v _ => ((intOf v) + 1).toNat)
 case atStart => exact ⟨256, x, hd, Nat.le_refl _, rfl, Lib.hid HC0.out.symm, hx, rfl, b0, hB0⟩
 case round =>
  clear b0 hB0
  obtain ⟨k, X, hdk, hk, rfl, HXE, hX, rfl, hbr, hBr⟩ := hrel
  by_cases hlt : d < k
  · obtain ⟨j, rfl⟩ : ∃ j, k = j + 1 := ⟨k - 1, by omega⟩
    rw [show (((j + 1 : Nat) : Int) - 1) = (j : Int) by omega]
    have hdj : (d : Int) ≤ (j : Int) := by omega
    have hcb := txt_load ((hbr.cell (j + 1)).trans (emC_at emp (by omega)))
    have HNX : Hid ((if bitN p j = 0 then hB (⟨#[78]⟩ ++ X ++ emp (j + 1)) else hB (⟨#[78]⟩ ++ emp (j + 1) ++ X)) = CE (256 - j)) := Lib.hid (by rw [HCE.out j (by omega), HCS.out j (by omega), ← HXE.out])
    have hes := HES.out (j + 1)
    generalize emp (j + 1) = E at *
    have z0 : (⟨#[78]⟩ : ByteArray).size = 1 := rfl
    have a1 : ¬ (⟨#[78]⟩ : ByteArray).size + X.size > 9223372036854775807 := by omega
    have a2 : ¬ ((⟨#[78]⟩ : ByteArray) ++ X).size + E.size > 9223372036854775807 := by simp only [ByteArray.size_append]; omega
    have a3 : ¬ (⟨#[78]⟩ : ByteArray).size + E.size > 9223372036854775807 := by omega
    have a4 : ¬ ((⟨#[78]⟩ : ByteArray) ++ E).size + X.size > 9223372036854775807 := by simp only [ByteArray.size_append]; omega
    have H1 := Lib.hid (HH.out (⟨#[78]⟩ ++ X ++ E) (by simp only [ByteArray.size_append]; omega))
    have H2 := Lib.hid (HH.out (⟨#[78]⟩ ++ E ++ X) (by simp only [ByteArray.size_append]; omega))
    have S1 := Lib.hid (HHS.out (⟨#[78]⟩ ++ X ++ E))
    have S2 := Lib.hid (HHS.out (⟨#[78]⟩ ++ E ++ X))
    have HBJ := Lib.hid (HBI.out j (by omega))
    have hb2 : bitN p j = 0 ∨ bitN p j = 1 := by rw [bitN_eq]; split <;> simp
    generalize bitN p j = bj at *
    clear HXE HCE HCS HCZ HC0
    have HBR := Lib.hid hbr
    have HBB := Lib.hid hBr
    have hj8 : (j : Int) + 1 < 257 := by omega
    clear HBI HH HHS HES z0 hbr hBr hes hX
    go_wp2_with fail
    refine (HBJ.out _).mono ?_
    rintro e w2 ⟨rfl, rfl⟩
    rcases hb2 with hb2 | hb2
    · subst hb2
      have HNX : Hid (hB (⟨#[78]⟩ ++ X ++ E) = CE (256 - j)) := Lib.hid (by have := HNX.out; rwa [if_pos rfl] at this)
      go_wp2_with fail
      refine (H1.out _).mono ?_
      rintro e w3 ⟨rfl, hb3⟩
      have k3 := HBR.out.below hb3 HBR.out.lt
      have hB3 := HBB.out.trans (hb3.mono HBB.out.size)
      clear hb3 hcb
      generalize hB (⟨#[78]⟩ ++ X ++ E) = R at *
      go_wp2
      go_roundw
      case rel => exact ⟨j, R, by omega, by omega, rfl, HNX, S1.out, by go_num, k3, hB3⟩
      case measure => simp [intOf]
    · subst hb2
      have HNX : Hid (hB (⟨#[78]⟩ ++ E ++ X) = CE (256 - j)) := Lib.hid (by have := HNX.out; rwa [if_neg (by decide)] at this)
      go_wp2_with fail
      refine (H2.out _).mono ?_
      rintro e w3 ⟨rfl, hb3⟩
      have k3 := HBR.out.below hb3 HBR.out.lt
      have hB3 := HBB.out.trans (hb3.mono HBB.out.size)
      clear hb3 hcb
      generalize hB (⟨#[78]⟩ ++ E ++ X) = R at *
      go_wp2
      go_roundw
      case rel => exact ⟨j, R, by omega, by omega, rfl, HNX, S2.out, by go_num, k3, hB3⟩
      case measure => simp [intOf]
  · obtain rfl : k = d := by omega
    have hdj : ¬ (k : Int) ≤ (k : Int) - 1 := by omega
    generalize hq : (k : Int) - 1 = q at *
    clear hlt
    go_wp2
    go_ret
    exact ⟨by rw [← HXE.out]; rfl, hBr⟩
end
end Go.Proofs.YtakgolbgeeoioaaGreat

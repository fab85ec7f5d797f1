/-
  Maps of pairs; a map hangs on no order in which it was filled.
-/
import Derived.Test.YtjmjkcgldencoaaGreatSMap
import Derived.Test.YtjmjkcgldencoaaGreatHStepSTree
namespace Go.Proofs.YtjmjkcgldencoaaGreat
open Go.RowKit Go.Maps

theorem madeL_isMap (ps : List (ByteArray × ByteArray)) : IsMap (madeL ps) := by
  induction ps using snoc_ind with
  | h0 => exact isMap_empty
  | h1 l a ih => rw [madeL_snoc]; exact ih.put _ _
theorem litK_key (k : ByteArray) : WideAt.IsKeyLit (litK k) := trivial
theorem made_has (ps : List (ByteArray × ByteArray)) (x : ByteArray) : has (madeL ps) (litK x) = (lookP ps x).isSome := by
  induction ps using snoc_ind with
  | h0 => rfl
  | h1 l a ih =>
    rw [madeL_snoc, lookP_snoc]
    by_cases h : a.1 = x
    · subst h
      rw [has_put_same (madeL_isMap l) (litK_key _), if_pos rfl]
      rfl
    · rw [has_put_other (fun e => h (litK_inj e).symm), if_neg h, ih]
theorem made_at (ps : List (ByteArray × ByteArray)) (x : ByteArray) (z : DataW Unit) : (madeL ps).atKey (litK x) z = match lookP ps x with | some v => datV v | none => z := by
  induction ps using snoc_ind with
  | h0 => rfl
  | h1 l a ih =>
    rw [madeL_snoc, lookP_snoc]
    by_cases h : a.1 = x
    · subst h
      rw [atKey_put_same (madeL_isMap l) (litK_key _), if_pos rfl]
    · rw [atKey_put_other (fun e => h (litK_inj e).symm), if_neg h, ih]
theorem made_other (ps : List (ByteArray × ByteArray)) {l : Lit} (h : ∀ x, l ≠ litK x) : has (madeL ps) l = false := by
  induction ps using snoc_ind with
  | h0 => rfl
  | h1 l' a ih => rw [madeL_snoc, has_put_other (h _), ih]
theorem lit_cases (l : Lit) : (∃ x, l = litK x) ∨ ∀ x, l ≠ litK x := by
  cases l with
  | string b => exact .inl ⟨⟨b.toArray⟩, by simp [litK]⟩
  | _ => exact .inr fun x h => by unfold litK at h; cases h
theorem made_ext {ps qs : List (ByteArray × ByteArray)} (c1 : Canon (madeL ps)) (c2 : Canon (madeL qs)) (h : ∀ x, lookP ps x = lookP qs x) : madeL ps = madeL qs := by
  refine ext c1 c2 (fun l => ?_) (fun l z hl => ?_)
  · rcases lit_cases l with ⟨x, rfl⟩ | hn
    · rw [made_has, made_has, h]
    · rw [made_other ps hn, made_other qs hn]
  · rcases lit_cases l with ⟨x, rfl⟩ | hn
    · rw [made_at, made_at, h]
    · rw [made_other ps hn] at hl; cases hl
theorem look_mem {q : List (ByteArray × ByteArray)} (hd : q.Pairwise fun a b => a.1 ≠ b.1) (x v : ByteArray) : lookP q x = some v ↔ (x, v) ∈ q := by
  induction q using snoc_ind with
  | h0 => simp [lookP]
  | h1 l a ih =>
    obtain ⟨hl, _, hc⟩ := List.pairwise_append.1 hd
    rw [lookP_snoc, List.mem_append, List.mem_singleton]
    by_cases h : a.1 = x
    · subst h
      rw [if_pos rfl]
      constructor
      · intro e; injection e with e; right; rw [← e]
      · rintro (hm | hm)
        · exact absurd rfl (hc _ hm a (by simp))
        · rw [← hm]
    · rw [if_neg h, ih hl]
      constructor
      · exact .inl
      · rintro (hm | hm)
        · exact hm
        · exact absurd (congrArg Prod.fst hm).symm h
theorem agn_false {ps : List (ByteArray × ByteArray)} {i : Nat} : ∀ {m : Nat}, agn ps i m = false → ∀ t, t < m → keyP ps (i + 1 + t) ≠ keyP ps i
  | 0, _, t, ht => absurd ht (Nat.not_lt_zero _)
  | m + 1, h, t, ht => by
    rw [agn, Bool.or_eq_false_iff] at h
    rcases Nat.lt_or_eq_of_le (Nat.le_of_lt_succ ht) with h1 | rfl
    · exact agn_false h.1 t h1
    · exact of_decide_eq_false h.2
theorem agn_true {ps : List (ByteArray × ByteArray)} {i : Nat} : ∀ {m : Nat}, agn ps i m = true → ∃ t, t < m ∧ keyP ps (i + 1 + t) = keyP ps i
  | 0, h => by cases h
  | m + 1, h => by
    rw [agn, Bool.or_eq_true] at h
    rcases h with h | h
    · obtain ⟨t, h1, h2⟩ := agn_true h
      exact ⟨t, by omega, h2⟩
    · exact ⟨m, by omega, of_decide_eq_true h⟩
theorem last_later (ps : List (ByteArray × ByteArray)) : ∀ k, ∀ q ∈ lastK ps k, ∀ j, k ≤ j → j < ps.length → keyP ps j ≠ q.1
  | 0, _, h, _, _, _ => by cases h
  | k + 1, q, h, j, hk, hj => by
    rw [lastK] at h
    rcases List.mem_append.1 h with h | h
    · exact last_later ps k q h j (by omega) hj
    · cases ha : agn ps k (ps.length - (k + 1)) with
      | true => rw [ha] at h; cases h
      | false =>
        rw [ha] at h
        rw [List.mem_singleton.1 h]
        have := agn_false ha (j - (k + 1)) (by omega)
        rwa [show k + 1 + (j - (k + 1)) = j by omega] at this
theorem last_apart (ps : List (ByteArray × ByteArray)) : ∀ k, k ≤ ps.length → (lastK ps k).Pairwise fun a b => a.1 ≠ b.1
  | 0, _ => List.Pairwise.nil
  | k + 1, hk => by
    rw [lastK]
    refine List.pairwise_append.2 ⟨last_apart ps k (by omega), by split <;> simp, fun a ha b hb => ?_⟩
    split at hb
    · cases hb
    · rw [List.mem_singleton.1 hb]
      exact (last_later ps k a ha k (Nat.le_refl _) (by omega)).symm
theorem last_look (ps : List (ByteArray × ByteArray)) : ∀ k, k ≤ ps.length → ∀ x, (∀ j, k ≤ j → j < ps.length → keyP ps j ≠ x) → lookP (lastK ps k) x = lookP (ps.take k) x
  | 0, _, _, _ => rfl
  | k + 1, hk, x, hx => by
    have e1 : ps.take (k + 1) = ps.take k ++ [ps.getD k (ByteArray.empty, ByteArray.empty)] := by
      rw [List.take_succ_eq_append_getElem (by omega), getD_pair (by omega)]
    rw [e1, lookP_snoc, lastK]
    by_cases h : (ps.getD k (ByteArray.empty, ByteArray.empty)).1 = x
    · rw [if_pos h]
      cases ha : agn ps k (ps.length - (k + 1)) with
      | true =>
        obtain ⟨t, ht, he⟩ := agn_true ha
        exact absurd (he.trans h) (hx (k + 1 + t) (by omega) (by omega))
      | false => simp only [Bool.false_eq_true, if_false]; rw [lookP_snoc, if_pos h]
    · rw [if_neg h, ← last_look ps k (by omega) x (fun j hj hl => by
        rcases Nat.lt_or_eq_of_le hj with h1 | rfl
        · exact hx j h1 hl
        · exact h)]
      split
      · rw [List.append_nil]
      · rw [lookP_snoc, if_neg h]
/-- filled otherwise, it is the same -/
theorem back_look (ps : List (ByteArray × ByteArray)) (x : ByteArray) : lookP (lastK ps ps.length).reverse x = lookP ps x := by
  have h1 := last_look ps ps.length (Nat.le_refl _) x (fun j h1 h2 => absurd h2 (by omega))
  rw [List.take_length] at h1
  rw [← h1]
  have hp := last_apart ps ps.length (Nat.le_refl _)
  have hr : (lastK ps ps.length).reverse.Pairwise fun a b => a.1 ≠ b.1 := by
    rw [List.pairwise_reverse]
    exact hp.imp fun h => h.symm
  apply Option.ext
  intro v
  rw [look_mem hr, look_mem hp, List.mem_reverse]

theorem keyed : Keyed Tryz.prog 9 := string_keyed Tryz.underlying9
/-- block b is the map of the pairs -/
def MapAt (w : World) (b : Nat) (ps : List (ByteArray × ByteArray)) : Prop := w.ownsMap Tryz.prog 9 (plainElem (H := Unit) Tryz.prog 9) b ps.length (madeL ps)
/-- what made answers -/
def RM (ps : List (ByteArray × ByteArray)) (w : World) (e : Ending) (w' : World) : Prop := ∃ b, e = .returned (.map (some b)) ∧ w.heap.size ≤ b ∧ MapAt w' b ps ∧ Below w.heap.size w w'
end Go.Proofs.YtjmjkcgldencoaaGreat

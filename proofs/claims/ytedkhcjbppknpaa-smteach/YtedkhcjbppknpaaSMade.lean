/-
  Maps of pairs: made's walk; a map hangs on no order in which it was filled.
-/
import Derived.Test.YtedkhcjbppknpaaSMap
import Derived.Test.YtedkhcjbppknpaaHStepSTree
namespace Go.Proofs.Ytedkhcjbppknpaa
open Go.RowKit Go.Maps

theorem madeL_isMap (ps : List (ByteArray × ByteArray)) : IsMap (madeL ps) := by
  induction ps using snoc_ind with
  | h0 => exact isMap_empty
  | h1 l a ih => rw [madeL_snoc]; exact ih.put _ _
theorem litK_key (k : ByteArray) : WideAt.IsKeyLit (litK k) := trivial
theorem made_has (ps : List (ByteArray × ByteArray)) (x : ByteArray) : has (madeL ps) (litK x) = (lookP ps x).isSome := by
  induction ps using snoc_ind with
  | h0 => rfl
  | h1 l a ih =>
    rw [madeL_snoc, lookP_snoc]
    by_cases h : a.1 = x
    · subst h
      rw [has_put_same (madeL_isMap l) (litK_key _), if_pos rfl]
      rfl
    · rw [has_put_other (fun e => h (litK_inj e).symm), if_neg h, ih]
theorem made_at (ps : List (ByteArray × ByteArray)) (x : ByteArray) (z : DataW Unit) : (madeL ps).atKey (litK x) z = match lookP ps x with | some v => datV v | none => z := by
  induction ps using snoc_ind with
  | h0 => rfl
  | h1 l a ih =>
    rw [madeL_snoc, lookP_snoc]
    by_cases h : a.1 = x
    · subst h
      rw [atKey_put_same (madeL_isMap l) (litK_key _), if_pos rfl]
    · rw [atKey_put_other (fun e => h (litK_inj e).symm), if_neg h, ih]
theorem made_other (ps : List (ByteArray × ByteArray)) {l : Lit} (h : ∀ x, l ≠ litK x) : has (madeL ps) l = false := by
  induction ps using snoc_ind with
  | h0 => rfl
  | h1 l' a ih => rw [madeL_snoc, has_put_other (h _), ih]
theorem lit_cases (l : Lit) : (∃ x, l = litK x) ∨ ∀ x, l ≠ litK x := by
  cases l with
  | string b => exact .inl ⟨⟨b.toArray⟩, by simp [litK]⟩
  | _ => exact .inr fun x h => by unfold litK at h; cases h
theorem made_ext {ps qs : List (ByteArray × ByteArray)} (c1 : Canon (madeL ps)) (c2 : Canon (madeL qs)) (h : ∀ x, lookP ps x = lookP qs x) : madeL ps = madeL qs := by
  refine ext c1 c2 (fun l => ?_) (fun l z hl => ?_)
  · rcases lit_cases l with ⟨x, rfl⟩ | hn
    · rw [made_has, made_has, h]
    · rw [made_other ps hn, made_other qs hn]
  · rcases lit_cases l with ⟨x, rfl⟩ | hn
    · rw [made_at, made_at, h]
    · rw [made_other ps hn] at hl; cases hl
theorem look_mem {q : List (ByteArray × ByteArray)} (hd : q.Pairwise fun a b => a.1 ≠ b.1) (x v : ByteArray) : lookP q x = some v ↔ (x, v) ∈ q := by
  induction q using snoc_ind with
  | h0 => simp [lookP]
  | h1 l a ih =>
    obtain ⟨hl, _, hc⟩ := List.pairwise_append.1 hd
    rw [lookP_snoc, List.mem_append, List.mem_singleton]
    by_cases h : a.1 = x
    · subst h
      rw [if_pos rfl]
      constructor
      · intro e; injection e with e; right; rw [← e]
      · rintro (hm | hm)
        · exact absurd rfl (hc _ hm a (by simp))
        · rw [← hm]
    · rw [if_neg h, ih hl]
      constructor
      · exact .inl
      · rintro (hm | hm)
        · exact hm
        · exact absurd (congrArg Prod.fst hm).symm h
theorem agn_false {ps : List (ByteArray × ByteArray)} {i : Nat} : ∀ {m : Nat}, agn ps i m = false → ∀ t, t < m → keyP ps (i + 1 + t) ≠ keyP ps i
  | 0, _, t, ht => absurd ht (Nat.not_lt_zero _)
  | m + 1, h, t, ht => by
    rw [agn, Bool.or_eq_false_iff] at h
    rcases Nat.lt_or_eq_of_le (Nat.le_of_lt_succ ht) with h1 | rfl
    · exact agn_false h.1 t h1
    · exact of_decide_eq_false h.2
theorem agn_true {ps : List (ByteArray × ByteArray)} {i : Nat} : ∀ {m : Nat}, agn ps i m = true → ∃ t, t < m ∧ keyP ps (i + 1 + t) = keyP ps i
  | 0, h => by cases h
  | m + 1, h => by
    rw [agn, Bool.or_eq_true] at h
    rcases h with h | h
    · obtain ⟨t, h1, h2⟩ := agn_true h
      exact ⟨t, by omega, h2⟩
    · exact ⟨m, by omega, of_decide_eq_true h⟩
theorem last_later (ps : List (ByteArray × ByteArray)) : ∀ k, ∀ q ∈ lastK ps k, ∀ j, k ≤ j → j < ps.length → keyP ps j ≠ q.1
  | 0, _, h, _, _, _ => by cases h
  | k + 1, q, h, j, hk, hj => by
    rw [lastK] at h
    rcases List.mem_append.1 h with h | h
    · exact last_later ps k q h j (by omega) hj
    · cases ha : agn ps k (ps.length - (k + 1)) with
      | true => rw [ha] at h; cases h
      | false =>
        rw [ha] at h
        rw [List.mem_singleton.1 h]
        have := agn_false ha (j - (k + 1)) (by omega)
        rwa [show k + 1 + (j - (k + 1)) = j by omega] at this
theorem last_apart (ps : List (ByteArray × ByteArray)) : ∀ k, k ≤ ps.length → (lastK ps k).Pairwise fun a b => a.1 ≠ b.1
  | 0, _ => List.Pairwise.nil
  | k + 1, hk => by
    rw [lastK]
    refine List.pairwise_append.2 ⟨last_apart ps k (by omega), by split <;> simp, fun a ha b hb => ?_⟩
    split at hb
    · cases hb
    · rw [List.mem_singleton.1 hb]
      exact (last_later ps k a ha k (Nat.le_refl _) (by omega)).symm
theorem last_look (ps : List (ByteArray × ByteArray)) : ∀ k, k ≤ ps.length → ∀ x, (∀ j, k ≤ j → j < ps.length → keyP ps j ≠ x) → lookP (lastK ps k) x = lookP (ps.take k) x
  | 0, _, _, _ => rfl
  | k + 1, hk, x, hx => by
    have e1 : ps.take (k + 1) = ps.take k ++ [ps.getD k (ByteArray.empty, ByteArray.empty)] := by
      rw [List.take_succ_eq_append_getElem (by omega), getD_pair (by omega)]
    rw [e1, lookP_snoc, lastK]
    by_cases h : (ps.getD k (ByteArray.empty, ByteArray.empty)).1 = x
    · rw [if_pos h]
      cases ha : agn ps k (ps.length - (k + 1)) with
      | true =>
        obtain ⟨t, ht, he⟩ := agn_true ha
        exact absurd (he.trans h) (hx (k + 1 + t) (by omega) (by omega))
      | false => simp only [Bool.false_eq_true, if_false]; rw [lookP_snoc, if_pos h]
    · rw [if_neg h, ← last_look ps k (by omega) x (fun j hj hl => by
        rcases Nat.lt_or_eq_of_le hj with h1 | rfl
        · exact hx j h1 hl
        · exact h)]
      split
      · rw [List.append_nil]
      · rw [lookP_snoc, if_neg h]
/-- filled otherwise, it is the same -/
theorem back_look (ps : List (ByteArray × ByteArray)) (x : ByteArray) : lookP (lastK ps ps.length).reverse x = lookP ps x := by
  have h1 := last_look ps ps.length (Nat.le_refl _) x (fun j h1 h2 => absurd h2 (by omega))
  rw [List.take_length] at h1
  rw [← h1]
  have hp := last_apart ps ps.length (Nat.le_refl _)
  have hr : (lastK ps ps.length).reverse.Pairwise fun a b => a.1 ≠ b.1 := by
    rw [List.pairwise_reverse]
    exact hp.imp fun h => h.symm
  apply Option.ext
  intro v
  rw [look_mem hr, look_mem hp, List.mem_reverse]

theorem keyed : Keyed Try.prog 9 := string_keyed Try.underlying9
/-- block b is the map of the pairs -/
def MapAt (w : World) (b : Nat) (ps : List (ByteArray × ByteArray)) : Prop := w.ownsMap Try.prog 9 (plainElem (H := Unit) Try.prog 9) b ps.length (madeL ps)
/-- what made answers -/
def RM (ps : List (ByteArray × ByteArray)) (w : World) (e : Ending) (w' : World) : Prop := ∃ b, e = .returned (.map (some b)) ∧ w.heap.size ≤ b ∧ MapAt w' b ps ∧ Below w.heap.size w w'
section
attribute [-go_sem] loadVar
set_option maxRecDepth 100000 in
set_option maxHeartbeats 2000000 in
theorem made_any (oa : Option Addr) (n cap : Nat) (ps : List (ByteArray × ByteArray)) (hn : ps.length = n) (hsz : n ≤ 1000) (hF : FitP ps) (w : World) (hP : Prs w oa ps) :
    Calls Try.prog 12 #[.slice oa n cap] w (RM ps w) := by
  have HRM : Hid (∀ e w', RM ps w e w' = ∃ b, e = .returned (.map (some b)) ∧ w.heap.size ≤ b ∧ MapAt w' b ps ∧ Below w.heap.size w w') := Lib.hid fun _ _ => rfl
  generalize RM ps w = PO at *
  have HAT : Hid (∀ W i, Below w.heap.size w W → i < n → ∃ g o X Y, oa = some ⟨g, o, none⟩ ∧ g < w.heap.size ∧ (∀ W, Below w.heap.size w W → (loadVar 9 ⟨g, o + i * 2, none⟩).run Try.prog W = .ok (.string X) W ∧ (loadVar 9 ⟨g, o + i * 2 + 1, none⟩).run Try.prog W = .ok (.string Y) W) ∧ X.size ≤ 60 ∧ Y.size ≤ 60 ∧ ps.take (i + 1) = ps.take i ++ [(X, Y)]) := Lib.hid fun W i hW hi => by
    obtain ⟨g, o, h1, h2, h3, h4⟩ := hP.at (i := i) (by omega)
    have hf := hF.get (i := i) (by omega)
    exact ⟨g, o, _, _, h1, h2, fun W hW => ⟨txt_load ((hW.cell (p := ⟨g, o + i * 2, none⟩) h2).trans h3), txt_load ((hW.cell (p := ⟨g, o + i * 2 + 1, none⟩) h2).trans h4)⟩, hf.1, hf.2, List.take_succ_eq_append_getElem (by omega)⟩
  have HN := Lib.hid hn
  have hmm := @run_makeMap Try.prog
  have hm0 : MapAt (w.alloc (.map #[] 0)) w.heap.size (ps.take 0) := World.ownsMap_made w _ _ _
  have hB0 := (Below.refl _ w).alloc (Nat.le_refl _) (.map #[] 0)
  clear hP hF hn
  go_enter Try.func12, Try.ntmps12
  go_wp2
  generalize w.alloc (.map #[] 0) = w0 at *
  go_loopw [4] (fun i wr => ∃ k : Nat, k ≤ n ∧ i = .int .i64 k ∧ MapAt wr w.heap.size (ps.take k) ∧ Below w.heap.size w wr) (fun i _ => n - (intOf i).toNat)
  case atStart => exact ⟨0, by omega, rfl, hm0, hB0⟩
  case round =>
    clear hm0 hB0 hmm
    obtain ⟨k, hk, rfl, hm, hB⟩ := hrel
    by_cases hlt : k < n
    · have hlt' : (k : Int) < (n : Int) := by omega
      obtain ⟨g, o, X, Y, rfl, hg, hld, hx, hy, htk⟩ := HAT.out wr k hB hlt
      have hmd : MapAt wr.drew w.heap.size (ps.take k) := hm
      obtain ⟨w1, hrun, hown1, hg1⟩ := World.ownsMap.update hmd keyed Try.underlying36 (by rw [List.length_take]; unfold maxLen; omega) (Go.WideMaps.keyOf_string_mk Try.underlying9 (s := X) (by unfold maxLen; omega)) (plainElem_string (H := Unit) Try.underlying9 (s := Y) (by unfold maxLen; omega))
      have hB1 : Below w.heap.size w w1 := (hB.drew).grown hg1 (by have := hB.size; exact this) (fun i hi => by injection hi; omega)
      have HM1 : Hid (MapAt w1 w.heap.size (ps.take (k + 1))) := Lib.hid (by
        unfold MapAt
        rw [htk, madeL_snoc, List.length_append]
        exact hown1)
      have HKP : Hid (∀ W, Below w.heap.size w W → (loadVar 9 ⟨g, o + k * 2, none⟩).run Try.prog W = .ok (.string X) W ∧ (loadVar 9 ⟨g, o + k * 2 + 1, none⟩).run Try.prog W = .ok (.string Y) W) := Lib.hid hld
      have HB := Lib.hid hB
      clear hld hm hown1 hg1 htk hB HAT
      go_wp2
      refine wp_region_held_drew (S := fun W => (loadVar 9 ⟨g, o + k * 2, none⟩).run Try.prog W = .ok (.string X) W ∧ (loadVar 9 ⟨g, o + k * 2 + 1, none⟩).run Try.prog W = .ok (.string Y) W) (by kernel_rfl) ?_ (fun hHeld0 => ?_)
      · (refine HKP.out _ ?_; first | exact HB.out.drew | exact hB1)
      apply takeH (i := 0) rfl (by kernel_rfl) (by kernel_rfl) (by kernel_rfl) (fun _ _ _ h => h) (by rfl)
      case hy => (intro w hSw; (try dsimp only at hSw); go_simp; try with_reducible rfl)
      case hS => assumption
      (try simp only [Act.put, List.setIfInBounds_toArray, List.set_cons_zero, List.set_cons_succ])
      apply takeH (i := 1) rfl (by kernel_rfl) (by kernel_rfl) (by kernel_rfl) (fun _ _ _ h => h) (by rfl)
      case hy => (intro w hSw; (try dsimp only at hSw); go_simp; try with_reducible rfl)
      case hS => assumption
      (try simp only [Act.put, List.setIfInBounds_toArray, List.set_cons_zero, List.set_cons_succ])
      apply takeH (i := 2) rfl (by kernel_rfl) (by kernel_rfl) (by kernel_rfl) (fun _ _ _ h => h) (by rfl)
      case hy => (intro w hSw; (try dsimp only at hSw); go_simp; try with_reducible rfl)
      case hS => assumption
      (try simp only [Act.put, List.setIfInBounds_toArray, List.set_cons_zero, List.set_cons_succ])
      apply takeH (i := 3) rfl (by kernel_rfl) (by kernel_rfl) (by kernel_rfl) (fun _ _ _ h => h) (by rfl)
      case hy => (intro w hSw; (try dsimp only at hSw); go_simp; try with_reducible rfl)
      case hS => assumption
      (try simp only [Act.put, List.setIfInBounds_toArray, List.set_cons_zero, List.set_cons_succ])
      apply takeH (i := 4) rfl (by kernel_rfl) (by kernel_rfl) (by kernel_rfl) (fun _ _ _ h => h) (by rfl)
      case hy => (intro w hSw; (try dsimp only at hSw); go_simp; try with_reducible rfl)
      case hS => assumption
      (try simp only [Act.put, List.setIfInBounds_toArray, List.set_cons_zero, List.set_cons_succ])
      apply takeH (i := 5) rfl (by kernel_rfl) (by kernel_rfl) (by kernel_rfl) (fun _ _ _ h => h) (by rfl)
      case hy => (intro w hSw; (try dsimp only at hSw); go_simp; try with_reducible rfl)
      case hS => assumption
      (try simp only [Act.put, List.setIfInBounds_toArray, List.set_cons_zero, List.set_cons_succ])
      apply takeH (i := 6) rfl (by kernel_rfl) (by kernel_rfl) (by kernel_rfl) (fun _ _ _ h => h) (by rfl)
      case hy => (intro w hSw; (try dsimp only at hSw); go_simp; try with_reducible rfl)
      case hS => assumption
      (try simp only [Act.put, List.setIfInBounds_toArray, List.set_cons_zero, List.set_cons_succ])
      apply takeH (i := 7) rfl (by kernel_rfl) (by kernel_rfl) (by kernel_rfl) (fun _ _ _ h => h) (by rfl)
      case hy => (intro w hSw; (try dsimp only at hSw); go_simp; try with_reducible rfl)
      case hS => assumption
      (try simp only [Act.put, List.setIfInBounds_toArray, List.set_cons_zero, List.set_cons_succ])
      apply takeH (i := 8) rfl (by kernel_rfl) (by kernel_rfl) (by kernel_rfl) (fun _ _ _ h => h) (by rfl)
      case hy => (intro w hSw; (try dsimp only at hSw); go_simp; try with_reducible rfl)
      case hS => assumption
      (try simp only [Act.put, List.setIfInBounds_toArray, List.set_cons_zero, List.set_cons_succ])
      apply takeH (i := 9) rfl (by kernel_rfl) (by kernel_rfl) (by kernel_rfl) (fun _ _ _ h => h) (by rfl)
      case hy => (intro w hSw; (try dsimp only at hSw); go_simp; try with_reducible rfl)
      case hS => assumption
      (try simp only [Act.put, List.setIfInBounds_toArray, List.set_cons_zero, List.set_cons_succ])
      apply takeH (i := 10) rfl (by kernel_rfl) (by kernel_rfl) (by kernel_rfl) (fun _ _ _ h => h) (by rfl)
      case hy => (intro w hSw; (try dsimp only at hSw); go_simp; try with_reducible rfl)
      case hS => assumption
      (try simp only [Act.put, List.setIfInBounds_toArray, List.set_cons_zero, List.set_cons_succ])
      refine doH (i := 11) rfl (by kernel_rfl) (by rfl) (fun K hK => ?_)
      go_simp
      refine hK.out _ _ ?_ (fun hHeld11 => ?_)
      · (refine HKP.out _ ?_; first | exact HB.out.drew | exact hB1)
      clear hK K hHeld0
      (try simp only [Act.put, List.setIfInBounds_toArray, List.set_cons_zero, List.set_cons_succ])
      refine wpAnyH_done (by kernel_rfl) ?_ _
      clear hrun
      go_wp2
      go_roundw
      case rel => exact ⟨k + 1, by omega, by go_num, HM1.out, hB1⟩
      case measure => simp [intOf]; omega
    · obtain rfl : k = n := by omega
      have hlt' : ¬ (k : Int) < (k : Int) := by omega
      have hm2 : MapAt wr w.heap.size ps := by
        have := hm
        rwa [← HN.out, List.take_length] at this
      clear hlt hm
      go_wp2
      rw [HRM.out]
      exact ⟨_, rfl, Nat.le_refl _, hm2, hB⟩
end
end Go.Proofs.Ytedkhcjbppknpaa

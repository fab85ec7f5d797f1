/-
  Pairs of a size that is looked at. Which keys of a list of pairs come no more. Maps of pairs: what is put, and what it comes to. Maps of pairs; a map hangs on no order in which it was filled.
-/
import Derived.Test.YtjdjndginacdnaaSPair
import Derived.Maps.Ext
import Derived.Maps.OwnOps
import Derived.Maps.RangeWalk
import Derived.Maps.StringElems
import Derived.Sort.KeysCollected
import Derived.Test.YtjdjndginacdnaaHSumHStepSTree
namespace Go.Proofs.Ytjdjndginacdnaa
open Go.RowKit


/-- keys and values of a size that is looked at -/
def FitP (ps : List (ByteArray × ByteArray)) : Prop := ∀ x ∈ ps, x.1.size ≤ 60 ∧ x.2.size ≤ 60
theorem FitP.get {ps : List (ByteArray × ByteArray)} (h : FitP ps) {i : Nat} (hi : i < ps.length) : ps[i].1.size ≤ 60 ∧ ps[i].2.size ≤ 60 := h _ (List.getElem_mem hi)
theorem FitP.snoc {ps : List (ByteArray × ByteArray)} (h : FitP ps) {y : ByteArray × ByteArray} (hy : y.1.size ≤ 60 ∧ y.2.size ≤ 60) : FitP (ps ++ [y]) := fun x hx => by
  rcases List.mem_append.1 hx with hx | hx
  · exact h x hx
  · rw [List.mem_singleton.1 hx]; exact hy
/-- what Few answers -/
def RFew (n m : Nat) (ps : List (ByteArray × ByteArray)) (w : World) (e : Ending) (w' : World) : Prop := (∃ b, e = .returned (.bool b) ∧ (b = true → n ≤ m ∧ FitP ps)) ∧ w' = w
set_option maxRecDepth 100000 in
set_option maxHeartbeats 1000000 in
theorem few_any5 (oa : Option Addr) (n cap m : Nat) (ps : List (ByteArray × ByteArray)) (hn : ps.length = n) (hm : m ≤ 50) (w : World) (hP : Prs w oa ps) :
    Calls Try.prog 12 #[.slice oa n cap, .int .i64 m] w (RFew n m ps w) := by
  have HP := Lib.hid hP
  have HN := Lib.hid hn
  clear hP hn
  go_enter Try.func12, Try.ntmps12
  go_wp2
  go_loop [5] (fun v => ∃ k : Nat, k ≤ n ∧ k ≤ 50 ∧ v = .int .i64 k ∧ (∀ i (h : i < ps.length), i < k → ps[i].1.size ≤ 60 ∧ ps[i].2.size ≤ 60)) (fun v => 50 - (intOf v).toNat)
  case atStart => exact ⟨0, by omega, by omega, rfl, fun i _ h => absurd h (Nat.not_lt_zero _)⟩
  case round =>
    obtain ⟨k, hk, hk5, rfl, hF⟩ := hrel
    have HF := Lib.hid hF
    clear hF
    by_cases hkn : k < n
    · have hkn' : (k : Int) < (n : Int) := by omega
      by_cases hk50 : k < 50
      · have hk50' : (k : Int) < 50 := by omega
        obtain ⟨g, o, rfl, hg, c1, c2⟩ := HP.out.at (i := k) (by rw [HN.out]; exact hkn)
        have HK := Lib.hid (show ∀ i (h : i < ps.length), i < k + 1 → (ps[k]'(by rw [HN.out]; exact hkn)).1.size ≤ 60 ∧ (ps[k]'(by rw [HN.out]; exact hkn)).2.size ≤ 60 → ps[i].1.size ≤ 60 ∧ ps[i].2.size ≤ 60 from fun i h hi hh => by
          rcases Nat.lt_or_eq_of_le (Nat.le_of_lt_succ hi) with h1 | rfl
          · exact HF.out i h h1
          · exact hh)
        generalize hX : (ps[k]'(by rw [HN.out]; exact hkn)).1 = X at *
        generalize hY : (ps[k]'(by rw [HN.out]; exact hkn)).2 = Y at *
        clear hX hY
        by_cases hx : X.size ≤ 60
        · have hx' : ¬ (60 : Int) < (X.size : Int) := by omega
          by_cases hy : Y.size ≤ 60
          · have hy' : ¬ (60 : Int) < (Y.size : Int) := by omega
            go_wp2
            go_round
            case rel => exact ⟨k + 1, by omega, by omega, by go_num, fun i h hi => HK.out i h hi ⟨hx, hy⟩⟩
            case measure => simp [intOf]; omega
          · have hy' : (60 : Int) < (Y.size : Int) := by omega
            go_wp2
            go_ret
            exact ⟨⟨false, rfl, fun h => by cases h⟩, rfl⟩
        · have hx' : (60 : Int) < (X.size : Int) := by omega
          go_wp2
          go_ret
          exact ⟨⟨false, rfl, fun h => by cases h⟩, rfl⟩
      · have hk50' : ¬ (k : Int) < 50 := by omega
        have hnm : ¬ (n : Int) ≤ (m : Int) := by omega
        go_wp2
        go_ret
        exact ⟨⟨false, rfl, fun h => by cases h⟩, rfl⟩
    · have hkn' : ¬ (k : Int) < (n : Int) := by omega
      have HFin : Hid (n ≤ m → n ≤ m ∧ FitP ps) := Lib.hid fun h => ⟨h, fun x hx => by
        obtain ⟨i, hi, rfl⟩ := List.getElem_of_mem hx
        exact HF.out i hi (by have := HN.out; omega)⟩
      go_wp2
      go_ret
      exact ⟨⟨decide (n ≤ m), rfl, fun h => HFin.out (of_decide_eq_true h)⟩, rfl⟩
end Go.Proofs.Ytjdjndginacdnaa
namespace Go.Proofs.Ytjdjndginacdnaa
open Go.RowKit

/-- the key of the pair i -/
def keyP (ps : List (ByteArray × ByteArray)) (i : Nat) : ByteArray := (ps.getD i (ByteArray.empty, ByteArray.empty)).1
/-- has one of the t pairs behind i its key? -/
def agn (ps : List (ByteArray × ByteArray)) (i : Nat) : Nat → Bool
  | 0 => false
  | t + 1 => agn ps i t || decide (keyP ps (i + 1 + t) = keyP ps i)
/-- of the first k pairs those of which the key comes no more -/
def lastK (ps : List (ByteArray × ByteArray)) : Nat → List (ByteArray × ByteArray)
  | 0 => []
  | k + 1 => lastK ps k ++ (if agn ps k (ps.length - (k + 1)) then [] else [ps.getD k (ByteArray.empty, ByteArray.empty)])
theorem lastK_len (ps : List (ByteArray × ByteArray)) : ∀ k, (lastK ps k).length ≤ k
  | 0 => Nat.le_refl _
  | k + 1 => by
    have := lastK_len ps k
    rw [lastK, List.length_append]
    split <;> simp <;> omega
theorem getD_pair {ps : List (ByteArray × ByteArray)} {i : Nat} (h : i < ps.length) : ps.getD i (ByteArray.empty, ByteArray.empty) = ps[i] := by
  rw [List.getD_eq_getElem?_getD, List.getElem?_eq_getElem h]; rfl
theorem lastK_mem (ps : List (ByteArray × ByteArray)) : ∀ k, k ≤ ps.length → ∀ x ∈ lastK ps k, x ∈ ps
  | 0, _, _, h => by cases h
  | k + 1, hk, x, h => by
    rw [lastK] at h
    rcases List.mem_append.1 h with h | h
    · exact lastK_mem ps k (by omega) x h
    · split at h
      · cases h
      · rw [List.mem_singleton.1 h, getD_pair (by omega)]
        exact List.getElem_mem _
/-- what a call that makes a slice of pairs answers -/
def RTP (ps : List (ByteArray × ByteArray)) (w : World) (e : Ending) (w' : World) : Prop := ∃ v, e = .returned v ∧ OwnP w' w.heap.size v ps ∧ Below w.heap.size w w'
theorem OwnP.at {w : World} {B : Nat} {v : Value} {ps : List (ByteArray × ByteArray)} (h : OwnP w B v ps) : ∃ oa cap, v = .slice oa ps.length cap := by
  obtain ⟨oa, cap, hv, _⟩ := h.form
  exact ⟨oa, cap, hv⟩
theorem Prs.grown {w w' : World} {oa : Option Addr} {ps : List (ByteArray × ByteArray)} {B : Nat} {row : Option Nat} (h : Prs w oa ps) (hg : w.grownBy w' row) (hr : ∀ g, row = some g → B ≤ g) (hb : ∀ a, oa = some a → a.block < B) : Prs w' oa ps := by
  rcases h with h | ⟨g, o, h1, h2⟩
  · exact .inl h
  · have hne : some g ≠ row := fun e => by have := hr g e.symm; have := hb _ h1; simp at this; omega
    have he : ∀ k, w'.cell? ⟨g, k, none⟩ = w.cell? ⟨g, k, none⟩ := fun k => World.cell?_of_block (a := ⟨g, k, none⟩) (hg.block g h2.1 hne)
    exact .inr ⟨g, o, h1, Nat.lt_of_lt_of_le h2.1 hg.size, fun i hi => by rw [he, he]; exact h2.2 i hi⟩
end Go.Proofs.Ytjdjndginacdnaa
namespace Go.Proofs.Ytjdjndginacdnaa
open Go.RowKit Go.Maps

def litK (k : ByteArray) : Lit := .string k.data.toList
def datV (v : ByteArray) : DataW Unit := .lit (.string v.data.toList)
theorem litK_inj {a b : ByteArray} (h : litK a = litK b) : a = b := by
  unfold litK at h
  injection h with h
  exact ByteArray.ext (Array.toList_inj.1 h)
/-- the map of pairs, put one after another -/
def madeL (ps : List (ByteArray × ByteArray)) : DataW Unit := ps.foldl (fun D p => D.put (litK p.1) (datV p.2)) (.map [])
theorem madeL_snoc (ps : List (ByteArray × ByteArray)) (p : ByteArray × ByteArray) : madeL (ps ++ [p]) = (madeL ps).put (litK p.1) (datV p.2) := by simp [madeL]
/-- the last value of a key -/
def lookP (ps : List (ByteArray × ByteArray)) (x : ByteArray) : Option ByteArray := ps.foldl (fun acc p => if p.1 = x then some p.2 else acc) none
theorem lookP_snoc (ps : List (ByteArray × ByteArray)) (p : ByteArray × ByteArray) (x : ByteArray) : lookP (ps ++ [p]) x = if p.1 = x then some p.2 else lookP ps x := by simp [lookP]
theorem snoc_ind {α : Type} {P : List α → Prop} (h0 : P []) (h1 : ∀ l a, P l → P (l ++ [a])) (l : List α) : P l := by
  have : ∀ n (l : List α), l.length = n → P l := by
    intro n
    induction n with
    | zero => intro l h; rw [List.length_eq_zero_iff.1 h]; exact h0
    | succ n ih =>
      intro l h
      have hne : l ≠ [] := by intro e; rw [e] at h; cases h
      rw [← List.dropLast_concat_getLast hne]
      exact h1 _ _ (ih _ (by rw [List.length_dropLast]; omega))
  exact this _ l rfl
theorem isMap_put {D : DataW Unit} (h : IsMap D) (k : Lit) (d : DataW Unit) : IsMap (D.put k d) := by
  cases D <;> simp [IsMap] at h ⊢ <;> simp [DataW.put] <;> exact h
end Go.Proofs.Ytjdjndginacdnaa
namespace Go.Proofs.Ytjdjndginacdnaa
open Go.RowKit Go.Maps

theorem madeL_isMap (ps : List (ByteArray × ByteArray)) : IsMap (madeL ps) := by
  induction ps using snoc_ind with
  | h0 => exact isMap_empty
  | h1 l a ih => rw [madeL_snoc]; exact ih.put _ _
theorem litK_key (k : ByteArray) : WideAt.IsKeyLit (litK k) := trivial
theorem made_has (ps : List (ByteArray × ByteArray)) (x : ByteArray) : has (madeL ps) (litK x) = (lookP ps x).isSome := by
  induction ps using snoc_ind with
  | h0 => rfl
  | h1 l a ih =>
    rw [madeL_snoc, lookP_snoc]
    by_cases h : a.1 = x
    · subst h
      rw [has_put_same (madeL_isMap l) (litK_key _), if_pos rfl]
      rfl
    · rw [has_put_other (fun e => h (litK_inj e).symm), if_neg h, ih]
theorem made_at (ps : List (ByteArray × ByteArray)) (x : ByteArray) (z : DataW Unit) : (madeL ps).atKey (litK x) z = match lookP ps x with | some v => datV v | none => z := by
  induction ps using snoc_ind with
  | h0 => rfl
  | h1 l a ih =>
    rw [madeL_snoc, lookP_snoc]
    by_cases h : a.1 = x
    · subst h
      rw [atKey_put_same (madeL_isMap l) (litK_key _), if_pos rfl]
    · rw [atKey_put_other (fun e => h (litK_inj e).symm), if_neg h, ih]
theorem made_other (ps : List (ByteArray × ByteArray)) {l : Lit} (h : ∀ x, l ≠ litK x) : has (madeL ps) l = false := by
  induction ps using snoc_ind with
  | h0 => rfl
  | h1 l' a ih => rw [madeL_snoc, has_put_other (h _), ih]
theorem lit_cases (l : Lit) : (∃ x, l = litK x) ∨ ∀ x, l ≠ litK x := by
  cases l with
  | string b => exact .inl ⟨⟨b.toArray⟩, by simp [litK]⟩
  | _ => exact .inr fun x h => by unfold litK at h; cases h
theorem made_ext {ps qs : List (ByteArray × ByteArray)} (c1 : Canon (madeL ps)) (c2 : Canon (madeL qs)) (h : ∀ x, lookP ps x = lookP qs x) : madeL ps = madeL qs := by
  refine ext c1 c2 (fun l => ?_) (fun l z hl => ?_)
  · rcases lit_cases l with ⟨x, rfl⟩ | hn
    · rw [made_has, made_has, h]
    · rw [made_other ps hn, made_other qs hn]
  · rcases lit_cases l with ⟨x, rfl⟩ | hn
    · rw [made_at, made_at, h]
    · rw [made_other ps hn] at hl; cases hl
theorem look_mem {q : List (ByteArray × ByteArray)} (hd : q.Pairwise fun a b => a.1 ≠ b.1) (x v : ByteArray) : lookP q x = some v ↔ (x, v) ∈ q := by
  induction q using snoc_ind with
  | h0 => simp [lookP]
  | h1 l a ih =>
    obtain ⟨hl, _, hc⟩ := List.pairwise_append.1 hd
    rw [lookP_snoc, List.mem_append, List.mem_singleton]
    by_cases h : a.1 = x
    · subst h
      rw [if_pos rfl]
      constructor
      · intro e; injection e with e; right; rw [← e]
      · rintro (hm | hm)
        · exact absurd rfl (hc _ hm a (by simp))
        · rw [← hm]
    · rw [if_neg h, ih hl]
      constructor
      · exact .inl
      · rintro (hm | hm)
        · exact hm
        · exact absurd (congrArg Prod.fst hm).symm h
theorem agn_false {ps : List (ByteArray × ByteArray)} {i : Nat} : ∀ {m : Nat}, agn ps i m = false → ∀ t, t < m → keyP ps (i + 1 + t) ≠ keyP ps i
  | 0, _, t, ht => absurd ht (Nat.not_lt_zero _)
  | m + 1, h, t, ht => by
    rw [agn, Bool.or_eq_false_iff] at h
    rcases Nat.lt_or_eq_of_le (Nat.le_of_lt_succ ht) with h1 | rfl
    · exact agn_false h.1 t h1
    · exact of_decide_eq_false h.2
theorem agn_true {ps : List (ByteArray × ByteArray)} {i : Nat} : ∀ {m : Nat}, agn ps i m = true → ∃ t, t < m ∧ keyP ps (i + 1 + t) = keyP ps i
  | 0, h => by cases h
  | m + 1, h => by
    rw [agn, Bool.or_eq_true] at h
    rcases h with h | h
    · obtain ⟨t, h1, h2⟩ := agn_true h
      exact ⟨t, by omega, h2⟩
    · exact ⟨m, by omega, of_decide_eq_true h⟩
theorem last_later (ps : List (ByteArray × ByteArray)) : ∀ k, ∀ q ∈ lastK ps k, ∀ j, k ≤ j → j < ps.length → keyP ps j ≠ q.1
  | 0, _, h, _, _, _ => by cases h
  | k + 1, q, h, j, hk, hj => by
    rw [lastK] at h
    rcases List.mem_append.1 h with h | h
    · exact last_later ps k q h j (by omega) hj
    · cases ha : agn ps k (ps.length - (k + 1)) with
      | true => rw [ha] at h; cases h
      | false =>
        rw [ha] at h
        rw [List.mem_singleton.1 h]
        have := agn_false ha (j - (k + 1)) (by omega)
        rwa [show k + 1 + (j - (k + 1)) = j by omega] at this
theorem last_apart (ps : List (ByteArray × ByteArray)) : ∀ k, k ≤ ps.length → (lastK ps k).Pairwise fun a b => a.1 ≠ b.1
  | 0, _ => List.Pairwise.nil
  | k + 1, hk => by
    rw [lastK]
    refine List.pairwise_append.2 ⟨last_apart ps k (by omega), by split <;> simp, fun a ha b hb => ?_⟩
    split at hb
    · cases hb
    · rw [List.mem_singleton.1 hb]
      exact (last_later ps k a ha k (Nat.le_refl _) (by omega)).symm
theorem last_look (ps : List (ByteArray × ByteArray)) : ∀ k, k ≤ ps.length → ∀ x, (∀ j, k ≤ j → j < ps.length → keyP ps j ≠ x) → lookP (lastK ps k) x = lookP (ps.take k) x
  | 0, _, _, _ => rfl
  | k + 1, hk, x, hx => by
    have e1 : ps.take (k + 1) = ps.take k ++ [ps.getD k (ByteArray.empty, ByteArray.empty)] := by
      rw [List.take_succ_eq_append_getElem (by omega), getD_pair (by omega)]
    rw [e1, lookP_snoc, lastK]
    by_cases h : (ps.getD k (ByteArray.empty, ByteArray.empty)).1 = x
    · rw [if_pos h]
      cases ha : agn ps k (ps.length - (k + 1)) with
      | true =>
        obtain ⟨t, ht, he⟩ := agn_true ha
        exact absurd (he.trans h) (hx (k + 1 + t) (by omega) (by omega))
      | false => simp only [Bool.false_eq_true, if_false]; rw [lookP_snoc, if_pos h]
    · rw [if_neg h, ← last_look ps k (by omega) x (fun j hj hl => by
        rcases Nat.lt_or_eq_of_le hj with h1 | rfl
        · exact hx j h1 hl
        · exact h)]
      split
      · rw [List.append_nil]
      · rw [lookP_snoc, if_neg h]
/-- filled otherwise, it is the same -/
theorem back_look (ps : List (ByteArray × ByteArray)) (x : ByteArray) : lookP (lastK ps ps.length).reverse x = lookP ps x := by
  have h1 := last_look ps ps.length (Nat.le_refl _) x (fun j h1 h2 => absurd h2 (by omega))
  rw [List.take_length] at h1
  rw [← h1]
  have hp := last_apart ps ps.length (Nat.le_refl _)
  have hr : (lastK ps ps.length).reverse.Pairwise fun a b => a.1 ≠ b.1 := by
    rw [List.pairwise_reverse]
    exact hp.imp fun h => h.symm
  apply Option.ext
  intro v
  rw [look_mem hr, look_mem hp, List.mem_reverse]

theorem keyed : Keyed Try.prog 9 := string_keyed Try.underlying9
/-- block b is the map of the pairs -/
def MapAt (w : World) (b : Nat) (ps : List (ByteArray × ByteArray)) : Prop := w.ownsMap Try.prog 9 (plainElem (H := Unit) Try.prog 9) b ps.length (madeL ps)
/-- what made answers -/
def RM (ps : List (ByteArray × ByteArray)) (w : World) (e : Ending) (w' : World) : Prop := ∃ b, e = .returned (.map (some b)) ∧ w.heap.size ≤ b ∧ MapAt w' b ps ∧ Below w.heap.size w w'
end Go.Proofs.Ytjdjndginacdnaa

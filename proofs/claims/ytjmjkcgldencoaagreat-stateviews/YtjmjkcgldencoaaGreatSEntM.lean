/-
  Entries in order: one list, whatever order they came in.
-/
import Derived.Test.YtjmjkcgldencoaaGreatSOrd2
import Derived.Test.YtjmjkcgldencoaaGreatSMadeM
import Derived.Sort.LotA
namespace Go.Proofs.YtjmjkcgldencoaaGreat
open Go.RowKit Go.Sort Go.Maps

theorem ltB_iff (x y : ByteArray) : Op.bytesLess x.toList y.toList = true ↔ x.data.toList < y.data.toList := by
  rw [bytesLess_eq, Lib.toList_data, Lib.toList_data, decide_eq_true_iff]
theorem eqB_iff (x y : ByteArray) : (x.toList == y.toList) = true ↔ x = y := by
  rw [beqB5, decide_eq_true_iff]
theorem cmpS_neg (x y : ByteArray) : cmpS x y < 0 ↔ x.data.toList < y.data.toList := by
  unfold cmpS
  rw [← ltB_iff]
  cases h1 : Op.bytesLess x.toList y.toList
  · cases h2 : (x.toList == y.toList) <;> simp
  · simp
theorem cmpS_zero (x y : ByteArray) : cmpS x y = 0 ↔ x = y := by
  rw [← eqB_iff]
  unfold cmpS
  cases h1 : Op.bytesLess x.toList y.toList
  · cases h2 : (x.toList == y.toList) <;> simp
  · have h := (ltB_iff x y).1 h1
    cases h2 : (x.toList == y.toList)
    · simp
    · have e := (eqB_iff x y).1 h2
      subst e
      exact absurd h (List.lt_irrefl _)
/-- x comes ahead of y -/
def Ahd (x y : ByteArray) : Prop := (pathS x).data.toList < (pathS y).data.toList ∨ (pathS x = pathS y ∧ x.data.toList < y.data.toList)
theorem cfK_neg (x y : ByteArray) : cfK x y < 0 ↔ Ahd x y := by
  unfold cfK orI Ahd
  by_cases h : cmpS (pathS x) (pathS y) = 0
  · rw [if_pos h, cmpS_neg]
    have e := (cmpS_zero _ _).1 h
    constructor
    · intro h2; exact .inr ⟨e, h2⟩
    · rintro (h2 | h2)
      · rw [e] at h2; exact absurd h2 (List.lt_irrefl _)
      · exact h2.2
  · rw [if_neg h, cmpS_neg]
    constructor
    · exact .inl
    · rintro (h2 | h2)
      · exact h2
      · exact absurd ((cmpS_zero _ _).2 h2.1) h
theorem ltK_iff (x y : ByteArray) : ltOf cfK x y = true ↔ Ahd x y := by
  unfold ltOf
  rw [decide_eq_true_iff, cfK_neg]
theorem ahd_irrefl (x : ByteArray) : ¬ Ahd x x := by
  rintro (h | h)
  · exact List.lt_irrefl _ h
  · exact List.lt_irrefl _ h.2
theorem ahd_trans {x y z : ByteArray} (h1 : Ahd x y) (h2 : Ahd y z) : Ahd x z := by
  rcases h1 with h1 | ⟨e1, h1⟩ <;> rcases h2 with h2 | ⟨e2, h2⟩
  · exact .inl (List.lt_trans h1 h2)
  · rw [e2] at h1; exact .inl h1
  · rw [← e1] at h2; exact .inl h2
  · exact .inr ⟨e1.trans e2, List.lt_trans h1 h2⟩
theorem lst_tri (a b : ByteArray) : a.data.toList < b.data.toList ∨ a = b ∨ b.data.toList < a.data.toList := by
  by_cases h1 : a.data.toList < b.data.toList
  · exact .inl h1
  · by_cases h2 : b.data.toList < a.data.toList
    · exact .inr (.inr h2)
    · exact .inr (.inl (ByteArray.ext (Array.toList_inj.1 (List.le_antisymm (List.not_lt.1 h2) (List.not_lt.1 h1)))))
theorem ahd_tri (x y : ByteArray) : Ahd x y ∨ x = y ∨ Ahd y x := by
  rcases lst_tri (pathS x) (pathS y) with h | h | h
  · exact .inl (.inl h)
  · rcases lst_tri x y with h2 | h2 | h2
    · exact .inl (.inr ⟨h, h2⟩)
    · exact .inr (.inl h2)
    · exact .inr (.inr (.inr ⟨h.symm, h2⟩))
  · exact .inr (.inr (.inl h))
theorem ahd_asymm {x y : ByteArray} (h1 : Ahd x y) (h2 : Ahd y x) : False := ahd_irrefl x (ahd_trans h1 h2)
theorem ltK_false (x y : ByteArray) : ltOf cfK x y = false ↔ ¬ Ahd x y := by rw [← ltK_iff, Bool.not_eq_true]
theorem swoK : SWO (ltOf cfK) where
  irrefl x := (ltK_false x x).2 (ahd_irrefl x)
  trans x y z h1 h2 := (ltK_iff x z).2 (ahd_trans ((ltK_iff x y).1 h1) ((ltK_iff y z).1 h2))
  ntrans x y z h1 h2 := (ltK_false x z).2 fun h => by
    rw [ltK_false] at h1 h2
    rcases ahd_tri x y with h3 | h3 | h3
    · exact h1 h3
    · rw [h3] at h; exact h2 h
    · exact h2 (ahd_trans h3 h)
theorem oneK (x y : ByteArray) (h1 : ltOf cfK x y = false) (h2 : ltOf cfK y x = false) : x = y := by
  rw [ltK_false] at h1 h2
  rcases ahd_tri x y with h | h | h
  · exact absurd h h1
  · exact h
  · exact absurd h h2
/-- keys in order -/
def srt (ks : List ByteArray) : List ByteArray := ks.mergeSort fun x y => !ltOf cfK y x
theorem srt_pair (ks : List ByteArray) : (srt ks).Pairwise fun x y => ltOf cfK y x = false := by
  have := List.pairwise_mergeSort (le := fun x y => !ltOf cfK y x) (fun a b c h1 h2 => by
      simp only [Bool.not_eq_true'] at *
      exact swoK.ntrans c b a h2 h1) (fun a b => by
      cases h1 : ltOf cfK b a <;> cases h2 : ltOf cfK a b <;> simp
      exact (ahd_asymm ((ltK_iff _ _).1 h1) ((ltK_iff _ _).1 h2)).elim) ks
  exact this.imp fun h => by simpa using h
theorem srt_perm {ks ks' : List ByteArray} (h : ks.Perm ks') : srt ks = srt ks' := by
  refine List.Perm.eq_of_pairwise (le := fun x y => ltOf cfK y x = false) (fun a b _ _ h1 h2 => oneK a b h2 h1) (srt_pair ks) (srt_pair ks') (((List.mergeSort_perm ks _).trans h).trans (List.mergeSort_perm ks' _).symm)
theorem lex_of {a b : List UInt8} (h : ¬ b < a) : lexLe (a.map (·.toNat)) (b.map (·.toNat)) := by
  induction a generalizing b with
  | nil => exact trivial
  | cons x r ih =>
    cases b with
    | nil => exact absurd (List.nil_lt_cons x r) h
    | cons y s =>
      rw [List.cons_lt_cons_iff, not_or, not_and] at h
      show x.toNat < y.toNat ∨ (x.toNat = y.toNat ∧ _)
      rcases Nat.lt_trichotomy x.toNat y.toNat with h1 | h1 | h1
      · exact .inl h1
      · exact .inr ⟨h1, ih (h.2 (UInt8.toNat_inj.1 h1).symm)⟩
      · exact absurd (UInt8.lt_iff_toNat_lt.2 h1) h.1
/-- the value that the map has for the key -/
def valD (D : DataW Unit) (k : ByteArray) : ByteArray := match D.atKey (litK k) .nil with | .lit (.string b) => ⟨b.toArray⟩ | _ => ByteArray.empty
def keysD (D : DataW Unit) : List ByteArray := (strKeys D).map fun l => ⟨l.toArray⟩
/-- the map's entries, in order -/
def entsD (D : DataW Unit) : List Ent := (srt (keysD D)).map (entK (valD D))
theorem ents_good (D : DataW Unit) : Good 0 (entsD D) := by
  refine ⟨fun x hx => ?_, ?_, fun _ _ _ _ j hj => absurd hj (Nat.not_lt_zero _)⟩
  · obtain ⟨k, _, rfl⟩ := List.mem_map.1 hx
    exact pathS_size k
  · unfold entsD
    refine List.pairwise_map.2 ((srt_pair (keysD D)).imp fun {x y} h => ?_)
    rw [ltK_false] at h
    exact lex_of fun h2 => h (.inl h2)
theorem ents_len (D : DataW Unit) : (entsD D).length = (strKeys D).length := by
  unfold entsD srt keysD
  rw [List.length_map, List.length_mergeSort, List.length_map]
end Go.Proofs.YtjmjkcgldencoaaGreat

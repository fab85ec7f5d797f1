/-
  Layer 8 in plain words: how two claims and a growth are gone down together.
-/
import Derived.Test.YtfhfmfcmkiobdaaCMath
namespace Go.Proofs.Ytfhfmfcmkiobdaa
section
variable {h : ByteArray → ByteArray} (h32 : ∀ s, (h s).size = 32)
theorem gr_end {m : Nat} {a b : ByteArray} {E L : List ByteArray} (g : Gr h m m a b E L) : a = b := by
  generalize hn : m = n at g
  generalize hm : n = m' at g
  cases g with
  | stay _ => rfl
  | left h1 _ _ _ => omega
  | right h1 _ _ _ => omega
theorem gr_late {m n : Nat} (hmn : m < n) {a b : ByteArray} {E L : List ByteArray} (g : Gr h m n a b E L) : ∃ z L', L = z :: L' ∧ b = h z := by
  cases g with
  | stay _ => omega
  | left _ _ _ _ => exact ⟨_, _, rfl, rfl⟩
  | right _ _ _ _ => exact ⟨_, _, rfl, rfl⟩
theorem gr_early {m n : Nat} (hmn : m < n) (hk : ¬ m ≤ kC n) {a b : ByteArray} {E L : List ByteArray} (g : Gr h m n a b E L) : ∃ u E', E = u :: E' ∧ a = h u := by
  cases g with
  | stay _ => omega
  | left _ h2 _ _ => omega
  | right _ _ _ _ => exact ⟨_, _, rfl, rfl⟩
include h32 in
theorem gr_left {m n i : Nat} (hmn : m < n) (him : i < m) (hk : m ≤ kC n) {a b z : ByteArray} {E L Y : List ByteArray} {lb : ByteArray} (g : Gr h m n a b E (z :: L)) (c : Cl h lb i n (z :: Y)) :
    ∃ y' Y', Y = y' :: Y' ∧ Cl h lb i (kC n) (y' :: Y') ∧ Gr h m (kC n) a (h y') E L := by
  generalize hL : z :: L = ZL at g
  generalize hY : z :: Y = ZY at c
  cases g with
  | stay _ => omega
  | left _ _ hq g' =>
    injection hL with hz hL
    subst hL
    cases c with
    | leaf => omega
    | left _ _ hq' c' =>
      injection hY with hz' hY
      subst hY
      have := nod_inj false (h32 _) (gr_size h h32 g').2 hq' hq (hz'.symm.trans hz)
      rw [← this.1] at g'
      exact ⟨_, _, rfl, c', g'⟩
    | right _ h3 _ _ => omega
  | right _ h3 _ _ => omega
include h32 in
theorem gr_cross {m n i : Nat} (hmn : m < n) (hk : ¬ m ≤ kC n) (hi : i < kC n) {a b z u : ByteArray} {E L X Y : List ByteArray} {la lb : ByteArray} (g : Gr h m n a b (u :: E) (z :: L)) (ca : Cl h la i m (u :: X)) (cb : Cl h lb i n (z :: Y)) :
    ∃ x' X' y' Y', X = x' :: X' ∧ Y = y' :: Y' ∧ h x' = h y' ∧ Cl h la i (kC n) (x' :: X') ∧ Cl h lb i (kC n) (y' :: Y') := by
  have h1 : 1 ≤ kC n := kC_pos n
  have hsame : kC m = kC n := kC_same (by omega) (by omega) (by omega)
  generalize hE : u :: E = UE at g
  generalize hL : z :: L = ZL at g
  generalize hX : u :: X = UX at ca
  generalize hY : z :: Y = ZY at cb
  cases g with
  | stay _ => omega
  | left _ h2 _ _ => omega
  | right _ _ hq g' =>
    injection hE with hu hE
    injection hL with hz hL
    cases ca with
    | leaf => omega
    | right _ h3 _ _ => omega
    | left _ _ hq1 ca' =>
      injection hX with hu1 hX
      subst hX
      cases cb with
      | leaf => omega
      | right _ h3 _ _ => omega
      | left _ _ hq2 cb' =>
        injection hY with hz1 hY
        subst hY
        have e1 := nod_mix (h32 _) hq (hu1.symm.trans hu)
        have e2 := nod_mix (h32 _) hq (hz1.symm.trans hz)
        rw [hsame] at ca'
        exact ⟨_, _, _, _, rfl, rfl, e1.1.trans e2.1.symm, ca', cb'⟩
include h32 in
theorem gr_right {m n i : Nat} (hmn : m < n) (hk : ¬ m ≤ kC n) (hi : ¬ i < kC n) {a b z u : ByteArray} {E L X Y : List ByteArray} {la lb : ByteArray} (g : Gr h m n a b (u :: E) (z :: L)) (ca : Cl h la i m (u :: X)) (cb : Cl h lb i n (z :: Y)) :
    ∃ x' X' y' Y', X = x' :: X' ∧ Y = y' :: Y' ∧ Cl h la (i - kC n) (m - kC n) (x' :: X') ∧ Cl h lb (i - kC n) (n - kC n) (y' :: Y') ∧ Gr h (m - kC n) (n - kC n) (h x') (h y') E L := by
  have h1 : 1 ≤ kC n := kC_pos n
  have hsame : kC m = kC n := kC_same (by omega) (by omega) (by omega)
  generalize hE : u :: E = UE at g
  generalize hL : z :: L = ZL at g
  generalize hX : u :: X = UX at ca
  generalize hY : z :: Y = ZY at cb
  cases g with
  | stay _ => omega
  | left _ h2 _ _ => omega
  | right _ _ hq g' =>
    injection hE with hu hE
    injection hL with hz hL
    subst hE
    subst hL
    cases ca with
    | leaf => omega
    | left _ h3 _ _ => omega
    | right _ _ hq1 ca' =>
      injection hX with hu1 hX
      subst hX
      cases cb with
      | leaf => omega
      | left _ h3 _ _ => omega
      | right _ _ hq2 cb' =>
        injection hY with hz1 hY
        subst hY
        have e1 := nod_inj true (h32 _) (gr_size h h32 g').1 hq1 hq (hu1.symm.trans hu)
        have e2 := nod_inj true (h32 _) (gr_size h h32 g').2 hq2 hq (hz1.symm.trans hz)
        rw [← e1.1, ← e2.1] at g'
        rw [hsame] at ca'
        exact ⟨_, _, _, _, rfl, rfl, ca', cb', g'⟩
end
end Go.Proofs.Ytfhfmfcmkiobdaa

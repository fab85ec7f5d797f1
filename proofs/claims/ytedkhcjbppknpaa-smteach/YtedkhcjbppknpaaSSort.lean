/-
  Paths in order: those that begin with the same bits part by their next one.
-/
import Derived.Test.YtedkhcjbppknpaaSPart
namespace Go.Proofs.Ytedkhcjbppknpaa

/-- the order by bytes -/
def lexLe : List Nat → List Nat → Prop
  | [], _ => True
  | _ :: _, [] => False
  | a :: r, b :: s => a < b ∨ (a = b ∧ lexLe r s)
theorem lexLe_at : ∀ (m : Nat) {l s : List Nat}, lexLe l s → (∀ t, t < m → l.getD t 0 = s.getD t 0) → m < l.length → m < s.length → l.getD m 0 ≤ s.getD m 0
  | _, [], _, _, _, h, _ => absurd h (Nat.not_lt_zero _)
  | _, _ :: _, [], h, _, _, _ => h.elim
  | 0, a :: r, b :: s, h, _, _, _ => by
    rcases h with h | ⟨h, _⟩
    · exact Nat.le_of_lt h
    · exact Nat.le_of_eq h
  | m + 1, a :: r, b :: s, h, he, h1, h2 => by
    have h0 : a = b := he 0 (Nat.succ_pos _)
    rcases h with h | ⟨_, h⟩
    · omega
    · exact lexLe_at m h (fun t ht => he (t + 1) (Nat.succ_lt_succ ht)) (Nat.lt_of_succ_lt_succ h1) (Nat.lt_of_succ_lt_succ h2)
theorem top_same (x y : Nat) (hx : x < 256) (hy : y < 256) : ∀ t, t ≤ 8 → (∀ j, j < t → (x / 2 ^ (7 - j) % 2 == 1) = (y / 2 ^ (7 - j) % 2 == 1)) → x / 2 ^ (8 - t) = y / 2 ^ (8 - t)
  | 0, _, _ => by
    rw [Nat.div_eq_of_lt (by simpa using hx), Nat.div_eq_of_lt (by simpa using hy)]
  | t + 1, ht, h => by
    have ih := top_same x y hx hy t (by omega) fun j hj => h j (by omega)
    have hb := h t (by omega)
    rw [show 8 - (t + 1) = 7 - t by omega]
    rw [show 8 - t = (7 - t) + 1 by omega, Nat.pow_succ, ← Nat.div_div_eq_div_mul, ← Nat.div_div_eq_div_mul] at ih
    generalize x / 2 ^ (7 - t) = a at *
    generalize y / 2 ^ (7 - t) = b at *
    have e1 : a % 2 = 0 ∨ a % 2 = 1 := by omega
    have e2 : b % 2 = 0 ∨ b % 2 = 1 := by omega
    rcases e1 with e1 | e1 <;> rcases e2 with e2 | e2 <;> simp [e1, e2] at hb <;> omega
theorem bit_mono (x y : ByteArray) (hx : x.size = 32) (hy : y.size = 32) (hl : lexLe (nums x) (nums y)) (d : Nat) (hd : d < 256) (hs : ∀ j, j < d → bitS x j = bitS y j) (hb : bitS x d = true) : bitS y d = true := by
  have lx : ∀ t, (nums x).getD t 0 < 256 := by
    intro t
    by_cases ht : t < (nums x).length
    · rw [List.getD_eq_getElem?_getD, List.getElem?_eq_getElem ht]; exact nums_lt x _ (List.getElem_mem ht)
    · rw [List.getD_eq_getElem?_getD, List.getElem?_eq_none (by omega)]; decide
  have ly : ∀ t, (nums y).getD t 0 < 256 := by
    intro t
    by_cases ht : t < (nums y).length
    · rw [List.getD_eq_getElem?_getD, List.getElem?_eq_getElem ht]; exact nums_lt y _ (List.getElem_mem ht)
    · rw [List.getD_eq_getElem?_getD, List.getElem?_eq_none (by omega)]; decide
  have hbyte : ∀ t, t < d / 8 → (nums x).getD t 0 = (nums y).getD t 0 := by
    intro t ht
    have := top_same _ _ (lx t) (ly t) 8 (Nat.le_refl _) fun j hj => by
      have := hs (8 * t + j) (by omega)
      unfold bitS at this
      rwa [show (8 * t + j) / 8 = t by omega, show (8 * t + j) % 8 = j by omega] at this
    simpa using this
  have hle := lexLe_at (d / 8) hl hbyte (by rw [nums_length]; omega) (by rw [nums_length]; omega)
  have htop := top_same _ _ (lx (d / 8)) (ly (d / 8)) (d % 8) (by omega) fun j hj => by
    have := hs (8 * (d / 8) + j) (by omega)
    unfold bitS at this
    rwa [show (8 * (d / 8) + j) / 8 = d / 8 by omega, show (8 * (d / 8) + j) % 8 = j by omega] at this
  unfold bitS at hb ⊢
  rw [show 8 - d % 8 = (7 - d % 8) + 1 by omega, Nat.pow_succ, ← Nat.div_div_eq_div_mul, ← Nat.div_div_eq_div_mul] at htop
  have hdv := Nat.div_le_div_right (c := 2 ^ (7 - d % 8)) hle
  generalize (nums x).getD (d / 8) 0 / 2 ^ (7 - d % 8) = a at *
  generalize (nums y).getD (d / 8) 0 / 2 ^ (7 - d % 8) = b at *
  simp only [beq_iff_eq] at hb ⊢
  omega
/-- entries in order, whose paths are the same up to d -/
structure Good (d : Nat) (es : List Ent) : Prop where
  size : ∀ x ∈ es, x.path.size = 32
  sort : es.Pairwise fun x y => lexLe (nums x.path) (nums y.path)
  same : ∀ x ∈ es, ∀ y ∈ es, ∀ j, j < d → bitS x.path j = bitS y.path j
theorem Good.mon {d : Nat} {es : List Ent} (h : Good d es) (hd : d < 256) : Mon d es := by
  refine List.Pairwise.imp_of_mem (fun {x y} hx hy hl hb => ?_) h.sort
  exact bit_mono x.path y.path (h.size x hx) (h.size y hy) hl d hd (h.same x hx y hy) hb
theorem Good.filter {d : Nat} {es : List Ent} (h : Good d es) (f : Ent → Bool) (b : Bool) (hf : ∀ x, f x = true → bitS x.path d = b) : Good (d + 1) (es.filter f) := by
  refine ⟨fun x hx => h.size x (List.mem_filter.1 hx).1, List.Pairwise.filter f h.sort, fun x hx y hy j hj => ?_⟩
  obtain ⟨hx1, hx2⟩ := List.mem_filter.1 hx
  obtain ⟨hy1, hy2⟩ := List.mem_filter.1 hy
  rcases Nat.lt_or_eq_of_le (Nat.le_of_lt_succ hj) with hj | rfl
  · exact h.same x hx1 y hy1 j hj
  · rw [hf x hx2, hf y hy2]
theorem Good.zer {d : Nat} {es : List Ent} (h : Good d es) : Good (d + 1) (zer d es) := h.filter _ false fun x hx => by simpa using hx
theorem Good.one {d : Nat} {es : List Ent} (h : Good d es) : Good (d + 1) (one d es) := h.filter _ true fun _ hx => hx
theorem Good.nil (d : Nat) : Good d [] := ⟨fun _ h => (by cases h), List.Pairwise.nil, fun _ h => (by cases h)⟩
end Go.Proofs.Ytedkhcjbppknpaa

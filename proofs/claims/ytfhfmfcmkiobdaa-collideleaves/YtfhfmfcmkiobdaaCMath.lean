/-
  Layer 8 in plain words: the nodes that a claim opens (opn), what a consistency proof makes (gro), the reference's up and both, and why unlike nodes are found.
-/
import Derived.Test.YtfhfmfcmkiobdaaRows
import Derived.Lib.BitFns
namespace Go.Proofs.Ytfhfmfcmkiobdaa

/-- the greatest power of two below n, from 2 on -/
def kC (n : Nat) : Nat := 2 ^ Nat.log2 (n - 1)
theorem kC_pos (n : Nat) : 0 < kC n := Nat.two_pow_pos _
theorem kC_lt {n : Nat} (h : 2 ≤ n) : kC n < n := by
  have : 2 ^ Nat.log2 (n - 1) ≤ n - 1 := Nat.log2_self_le (by omega)
  unfold kC; omega
theorem kC_two {n : Nat} (h : 2 ≤ n) : n ≤ 2 * kC n := by
  have : n - 1 < 2 ^ (Nat.log2 (n - 1) + 1) := Nat.lt_log2_self
  unfold kC; rw [Nat.pow_succ] at this; omega
theorem kC_same {m n : Nat} (h2 : 2 ≤ n) (h : kC n < m) (hmn : m ≤ n) : kC m = kC n := by
  unfold kC at *
  congr 1
  have a1 : 2 ^ Nat.log2 (n - 1) ≤ m - 1 := by omega
  have a2 : m - 1 < 2 ^ (Nat.log2 (n - 1) + 1) := by
    have : n - 1 < 2 ^ (Nat.log2 (n - 1) + 1) := Nat.lt_log2_self
    omega
  exact (Nat.log2_eq_iff (by omega)).2 ⟨a1, a2⟩
theorem bitLen_log : ∀ x : Nat, x ≠ 0 → x < 2 ^ 64 → Lib.bitLen x = Nat.log2 x + 1 := by
  intro x
  induction x using Nat.strongRecOn with
  | ind x ih =>
    intro h0 h
    rw [Lib.bitLen_half x h0 h]
    by_cases h1 : x < 2
    · have : x = 1 := by omega
      subst this
      decide
    · rw [ih (x / 2) (by omega) (by omega) (by omega)]
      conv => rhs; rw [Nat.log2_def]
      rw [if_pos (by omega)]
      omega
theorem kC_bit {n : Nat} (h2 : 2 ≤ n) (hn : n ≤ 1048576) : 1 ≤ Lib.bitLen (n - 1) ∧ Lib.bitLen (n - 1) ≤ 20 ∧ 2 ^ (Lib.bitLen (n - 1) - 1) = kC n := by
  have hb := bitLen_log (n - 1) (by omega) (by omega)
  refine ⟨by omega, ?_, by rw [hb]; rfl⟩
  have : 2 ^ Nat.log2 (n - 1) ≤ n - 1 := Nat.log2_self_le (by omega)
  have hl : Nat.log2 (n - 1) < 20 := by
    rcases Nat.lt_or_ge (Nat.log2 (n - 1)) 20 with h | h
    · exact h
    · have := Nat.pow_le_pow_right (n := 2) (by decide) h
      omega
  omega
/-- half: doubling as long as it stays below -/
theorem kC_of {n k : Nat} (h2 : 2 ≤ n) (j : Nat) (hk : k = 2 ^ j) (h : k < n) (hd : n ≤ k + k) : kC n = k := by
  unfold kC
  rw [hk]; congr 1
  exact (Nat.log2_eq_iff (by omega)).2 ⟨by rw [← hk]; omega, by rw [Nat.pow_succ, ← hk]; omega⟩

section
variable (h : ByteArray → ByteArray)
def b1 : ByteArray := ⟨#[1]⟩
def b0 : ByteArray := ⟨#[0]⟩
def nodC (right : Bool) (made nb : ByteArray) : ByteArray := if right then b1 ++ nb ++ made else b1 ++ made ++ nb
def conC (b : Bool) (N : List ByteArray) (q : ByteArray) : List ByteArray := match N with
  | [] => []
  | x :: N' => nodC b (h x) q :: x :: N'
/-- the nodes that a claim opens, from the root down; P is the proof, its end first -/
def opn (lf : ByteArray) : Nat → Nat → List ByteArray → List ByteArray
  | _, n, [] => if n ≤ 1 then [lf] else []
  | i, n, q :: P => if n ≤ 1 then [] else if i < kC n then conC h false (opn lf i (kC n) P) q else conC h true (opn lf (i - kC n) (n - kC n) P) q
/-- the way to a leaf, from the root down -/
def wyl (i n : Nat) : List Bool := if _hn : n ≤ 1 then [] else if i < kC n then false :: wyl i (kC n) else true :: wyl (i - kC n) (n - kC n)
termination_by n
decreasing_by
  · exact kC_lt (by omega)
  · have := kC_pos n; omega
/-- the way to the end of the first ones -/
def we (i n : Nat) : List Bool := if _hn : n - 1 ≤ i then [] else if i < kC n then false :: we i (kC n) else true :: we (i - kC n) (n - kC n)
termination_by n
decreasing_by
  · exact kC_lt (by omega)
  · have := kC_pos n; omega
theorem wyl_end {i n : Nat} (hn : n ≤ 1) : wyl i n = [] := by rw [wyl, dif_pos hn]
theorem wyl_left {i n : Nat} (hn : 1 < n) (hi : i < kC n) : wyl i n = false :: wyl i (kC n) := by rw [wyl, dif_neg (by omega), if_pos hi]
theorem wyl_right {i n : Nat} (hn : 1 < n) (hi : ¬ i < kC n) : wyl i n = true :: wyl (i - kC n) (n - kC n) := by rw [wyl, dif_neg (by omega), if_neg hi]
theorem we_end {i n : Nat} (hn : n - 1 ≤ i) : we i n = [] := by rw [we, dif_pos hn]
theorem we_left {i n : Nat} (hn : i < n - 1) (hi : i < kC n) : we i n = false :: we i (kC n) := by rw [we, dif_neg (by omega), if_pos hi]
theorem we_right {i n : Nat} (hn : i < n - 1) (hi : ¬ i < kC n) : we i n = true :: we (i - kC n) (n - kC n) := by rw [we, dif_neg (by omega), if_neg hi]
theorem wyl_len (i n : Nat) : (wyl i n).length ≤ n := by
  induction n using Nat.strongRecOn generalizing i with
  | ind n ih =>
    by_cases hn : n ≤ 1
    · rw [wyl_end hn]; simp
    · by_cases hi : i < kC n
      · rw [wyl_left (by omega) hi]; have := ih _ (kC_lt (by omega)) i; have := kC_lt (n := n) (by omega); simp; omega
      · rw [wyl_right (by omega) hi]; have := kC_pos n; have := ih (n - kC n) (by omega) (i - kC n); simp; omega
theorem we_len (i n : Nat) : (we i n).length ≤ n := by
  induction n using Nat.strongRecOn generalizing i with
  | ind n ih =>
    by_cases hn : n - 1 ≤ i
    · rw [we_end hn]; simp
    · by_cases hi : i < kC n
      · rw [we_left (by omega) hi]; have := ih _ (kC_lt (by omega)) i; have := kC_lt (n := n) (by omega); simp; omega
      · rw [we_right (by omega) hi]; have := kC_pos n; have := ih (n - kC n) (by omega) (i - kC n); simp; omega
/-- the same nodes along a way -/
def tops (lf : ByteArray) : List Bool → List ByteArray → List ByteArray
  | [], [] => [lf]
  | b :: W, q :: P => conC h b (tops lf W P) q
  | _, _ => []
theorem tops_len (lf : ByteArray) : ∀ (W : List Bool) (P : List ByteArray), W.length = P.length → (tops h lf W P).length = W.length + 1
  | [], [], _ => rfl
  | b :: W, q :: P, e => by
    have ih := tops_len lf W P (by simpa using e)
    unfold tops
    match hN : tops h lf W P, ih with
    | [], ih => simp at ih
    | x :: N, ih => simp [conC] at ih ⊢; exact ih
  | [], _ :: _, e => by simp at e
  | _ :: _, [], e => by simp at e
theorem tops_cons (lf : ByteArray) {W : List Bool} {P : List ByteArray} (e : W.length = P.length) : ∃ x N, tops h lf W P = x :: N := by
  have := tops_len h lf W P e
  match hN : tops h lf W P, this with
  | [], t => simp at t
  | x :: N, _ => exact ⟨x, N, rfl⟩
theorem tops_none (lf : ByteArray) : ∀ (W : List Bool) (P : List ByteArray), W.length ≠ P.length → tops h lf W P = []
  | [], [], e => absurd rfl e
  | b :: W, q :: P, e => by unfold tops; rw [tops_none lf W P (by simpa using e)]; rfl
  | [], _ :: _, _ => rfl
  | _ :: _, [], _ => rfl
theorem opn_tops (lf : ByteArray) : ∀ (P : List ByteArray) (i n : Nat), opn h lf i n P = tops h lf (wyl i n) P
  | [], i, n => by
    unfold opn
    by_cases hn : n ≤ 1
    · rw [if_pos hn, wyl_end hn]; rfl
    · rw [if_neg hn]
      by_cases hi : i < kC n
      · rw [wyl_left (by omega) hi]; rfl
      · rw [wyl_right (by omega) hi]; rfl
  | q :: P, i, n => by
    unfold opn
    by_cases hn : n ≤ 1
    · rw [if_pos hn, wyl_end hn]; rfl
    · rw [if_neg hn]
      by_cases hi : i < kC n
      · rw [if_pos hi, wyl_left (by omega) hi, opn_tops lf P]; rfl
      · rw [if_neg hi, wyl_right (by omega) hi, opn_tops lf P]; rfl
/-- the reference's up -/
def upC (x : ByteArray) : Nat → Nat → List ByteArray → ByteArray × Bool
  | _, n, [] => if n = 1 then (x, true) else (⟨#[]⟩, false)
  | i, n, q :: P => if n = 1 then (x, false) else if i < kC n then (h (nodC false (upC x i (kC n) P).1 q), (upC x i (kC n) P).2) else (h (nodC true (upC x (i - kC n) (n - kC n) P).1 q), (upC x (i - kC n) (n - kC n) P).2)
theorem up_opn (lf : ByteArray) : ∀ (P : List ByteArray) (i n : Nat), 1 ≤ n → (((upC h (h lf) i n P).2 = true ∧ ∃ x N, opn h lf i n P = x :: N ∧ (upC h (h lf) i n P).1 = h x) ∨ ((upC h (h lf) i n P).2 = false ∧ opn h lf i n P = []))
  | [], i, n, h1 => by
    unfold upC opn
    by_cases hn : n = 1
    · rw [if_pos hn, if_pos (by omega)]; exact .inl ⟨rfl, lf, [], rfl, rfl⟩
    · rw [if_neg hn, if_neg (by omega)]; exact .inr ⟨rfl, rfl⟩
  | q :: P, i, n, h1 => by
    unfold upC opn
    by_cases hn : n = 1
    · rw [if_pos hn, if_pos (by omega)]; exact .inr ⟨rfl, rfl⟩
    · rw [if_neg hn, if_neg (show ¬ n ≤ 1 by omega)]
      by_cases hi : i < kC n
      · rw [if_pos hi, if_pos hi]
        rcases up_opn lf P i (kC n) (kC_pos n) with ⟨a, x, N, b, c⟩ | ⟨a, b⟩
        · exact .inl ⟨a, nodC false (h x) q, x :: N, by rw [b]; rfl, by rw [c]⟩
        · exact .inr ⟨a, by rw [b]; rfl⟩
      · rw [if_neg hi, if_neg hi]
        rcases up_opn lf P (i - kC n) (n - kC n) (by have := kC_lt (n := n) (by omega); omega) with ⟨a, x, N, b, c⟩ | ⟨a, b⟩
        · exact .inl ⟨a, nodC true (h x) q, x :: N, by rw [b]; rfl, by rw [c]⟩
        · exact .inr ⟨a, by rw [b]; rfl⟩
/-- what a consistency proof makes along a way: both roots, the nodes under the first, under the second -/
def gro : List Bool → List ByteArray → Option (ByteArray × ByteArray × List ByteArray × List ByteArray)
  | [], [low] => some (low, low, [], [])
  | b :: W, q :: P => match gro W P with
    | none => none
    | some (a, s, ea, la) => if b then some (h (nodC true a q), h (nodC true s q), nodC true a q :: ea, nodC true s q :: la) else some (a, h (nodC false s q), ea, nodC false s q :: la)
  | _, _ => none
theorem gro_nil : ∀ W : List Bool, gro h W [] = none
  | [] => rfl
  | _ :: _ => rfl
theorem gro_len : ∀ (W : List Bool) (P : List ByteArray), (gro h W P).isSome = decide (P.length = W.length + 1)
  | [], [] => rfl
  | [], [_] => rfl
  | [], _ :: _ :: _ => by simp [gro]
  | b :: W, [] => by simp [gro]
  | b :: W, q :: P => by
    have ih := gro_len W P
    unfold gro
    cases hg : gro h W P with
    | none => rw [hg] at ih; simp at ih ⊢; omega
    | some t => rw [hg] at ih; obtain ⟨a, s, ea, la⟩ := t; simp at ih ⊢; cases b <;> simp <;> omega
/-- the reference's both -/
def botC (first : ByteArray) : Nat → Nat → List ByteArray → Bool → ByteArray × ByteArray × Bool
  | m, n, [], whole => if m = n ∧ whole = true then (first, first, true) else (⟨#[]⟩, ⟨#[]⟩, false)
  | m, n, q :: P, whole => if m = n ∧ whole = true then (first, first, false) else if m = n then (q, q, P.isEmpty) else
    if m ≤ kC n then ((botC first m (kC n) P whole).1, h (nodC false (botC first m (kC n) P whole).2.1 q), (botC first m (kC n) P whole).2.2)
    else (h (nodC true (botC first (m - kC n) (n - kC n) P false).1 q), h (nodC true (botC first (m - kC n) (n - kC n) P false).2.1 q), (botC first (m - kC n) (n - kC n) P false).2.2)
def addF (first : ByteArray) (whole : Bool) (W : List Bool) (P : List ByteArray) : List ByteArray := if whole && !W.contains true then P ++ [first] else P
theorem bot_gro (first : ByteArray) : ∀ (P : List ByteArray) (m n : Nat) (whole : Bool), 1 ≤ m → m ≤ n →
    (((botC h first m n P whole).2.2 = true ∧ ∃ ea la, gro h (we (m - 1) n) (addF first whole (we (m - 1) n) P) = some ((botC h first m n P whole).1, (botC h first m n P whole).2.1, ea, la)) ∨ ((botC h first m n P whole).2.2 = false ∧ gro h (we (m - 1) n) (addF first whole (we (m - 1) n) P) = none))
  | [], m, n, whole, h1, hm => by
    unfold botC
    by_cases hn : m = n
    · subst hn
      rw [we_end (by omega)]
      cases whole
      · rw [if_neg (by simp)]; exact .inr ⟨rfl, rfl⟩
      · rw [if_pos ⟨rfl, rfl⟩]; exact .inl ⟨rfl, [], [], rfl⟩
    · rw [if_neg (by simp [hn])]
      refine .inr ⟨rfl, ?_⟩
      have hx : ∀ (b : Bool) (W : List Bool), gro h (b :: W) (addF first whole (b :: W) []) = none := by
        intro b W
        unfold addF
        split
        · show (match gro h W [] with | none => none | some (a, s, ea, la) => _) = none; rw [gro_nil]
        · rfl
      by_cases hi : m - 1 < kC n
      · rw [we_left (by omega) hi]; exact hx _ _
      · rw [we_right (by omega) hi]; exact hx _ _
  | q :: P, m, n, whole, h1, hm => by
    unfold botC
    by_cases hn : m = n
    · subst hn
      rw [we_end (by omega)]
      cases whole
      · rw [if_neg (by simp), if_pos rfl]
        cases P with
        | nil => exact .inl ⟨rfl, [], [], rfl⟩
        | cons p P => exact .inr ⟨rfl, rfl⟩
      · rw [if_pos ⟨rfl, rfl⟩]
        refine .inr ⟨rfl, ?_⟩
        cases P <;> rfl
    · rw [if_neg (by simp [hn]), if_neg hn]
      by_cases hi : m - 1 < kC n
      · rw [if_pos (by omega), we_left (by omega) hi]
        have e : addF first whole (false :: we (m - 1) (kC n)) (q :: P) = q :: addF first whole (we (m - 1) (kC n)) P := by
          unfold addF
          simp only [List.contains_cons, show ((true == false) = false) from rfl, Bool.false_or]
          split <;> rfl
        rw [e]
        rcases bot_gro first P m (kC n) whole h1 (by omega) with ⟨a, ea, la, b⟩ | ⟨a, b⟩
        · exact .inl ⟨a, ea, nodC false (botC h first m (kC n) P whole).2.1 q :: la, by unfold gro; rw [b]; rfl⟩
        · exact .inr ⟨a, by unfold gro; rw [b]⟩
      · rw [if_neg (by omega), we_right (by omega) hi]
        have e : addF first whole (true :: we (m - 1 - kC n) (n - kC n)) (q :: P) = q :: addF first false (we (m - 1 - kC n) (n - kC n)) P := by
          unfold addF
          simp
        rw [e, show m - 1 - kC n = m - kC n - 1 by omega]
        rcases bot_gro first P (m - kC n) (n - kC n) false (by omega) (by omega) with ⟨a, ea, la, b⟩ | ⟨a, b⟩
        · exact .inl ⟨a, nodC true (botC h first (m - kC n) (n - kC n) P false).1 q :: ea, nodC true (botC h first (m - kC n) (n - kC n) P false).2.1 q :: la, by unfold gro; rw [b]; rfl⟩
        · exact .inr ⟨a, by unfold gro; rw [b]⟩
theorem app_inj {a b c d : ByteArray} (hs : a.size = c.size) (e : a ++ b = c ++ d) : a = c ∧ b = d := by
  have e1 : a.data.toList ++ b.data.toList = c.data.toList ++ d.data.toList := by
    have := congrArg (fun x : ByteArray => x.data.toList) e
    simpa [ByteArray.data_append] using this
  obtain ⟨h1, h2⟩ := List.append_inj e1 (by rw [Array.length_toList, Array.length_toList]; exact hs)
  exact ⟨ByteArray.ext (Array.toList_inj.1 h1), ByteArray.ext (Array.toList_inj.1 h2)⟩
theorem nod_inj {x y q r : ByteArray} (b : Bool) (hx : x.size = 32) (hy : y.size = 32) (hq : q.size = 32) (hr : r.size = 32) (e : nodC b x q = nodC b y r) : x = y ∧ q = r := by
  unfold nodC at e
  cases b
  · rw [if_neg (by simp), if_neg (by simp)] at e
    obtain ⟨e1, e2⟩ := app_inj (by rw [ByteArray.size_append, ByteArray.size_append, hx, hy]) e
    exact ⟨(app_inj rfl e1).2, e2⟩
  · rw [if_pos rfl, if_pos rfl] at e
    obtain ⟨e1, e2⟩ := app_inj (by rw [ByteArray.size_append, ByteArray.size_append, hq, hr]) e
    exact ⟨e2, (app_inj rfl e1).2⟩
theorem nod_mix {x y q r : ByteArray} (hx : x.size = 32) (hr : r.size = 32) (e : nodC false x q = nodC true y r) : x = r ∧ q = y := by
  unfold nodC at e
  rw [if_neg (by simp), if_pos rfl] at e
  obtain ⟨e1, e2⟩ := app_inj (by rw [ByteArray.size_append, ByteArray.size_append, hx, hr]) e
  exact ⟨(app_inj rfl e1).2, e2⟩
/-- N are the nodes of a claim of the leaf lf, i of n -/
inductive Cl (lf : ByteArray) : Nat → Nat → List ByteArray → Prop
  | leaf : Cl lf 0 1 [lf]
  | left {i n : Nat} {q x : ByteArray} {N : List ByteArray} : 2 ≤ n → i < kC n → q.size = 32 → Cl lf i (kC n) (x :: N) → Cl lf i n (nodC false (h x) q :: x :: N)
  | right {i n : Nat} {q x : ByteArray} {N : List ByteArray} : 2 ≤ n → kC n ≤ i → q.size = 32 → Cl lf (i - kC n) (n - kC n) (x :: N) → Cl lf i n (nodC true (h x) q :: x :: N)
theorem cl_of (lf : ByteArray) : ∀ (P : List ByteArray) (i n : Nat) (x : ByteArray) (N : List ByteArray), i < n → (∀ q ∈ P, q.size = 32) → opn h lf i n P = x :: N → Cl h lf i n (x :: N)
  | [], i, n, x, N, hi, hp, e => by
    unfold opn at e
    by_cases hn : n ≤ 1
    · rw [if_pos hn] at e
      obtain rfl : n = 1 := by omega
      obtain rfl : i = 0 := by omega
      rw [← e]; exact .leaf
    · rw [if_neg hn] at e; cases e
  | q :: P, i, n, x, N, hi, hp, e => by
    unfold opn at e
    by_cases hn : n ≤ 1
    · rw [if_pos hn] at e; cases e
    · rw [if_neg hn] at e
      by_cases hk : i < kC n
      · rw [if_pos hk] at e
        cases ho : opn h lf i (kC n) P with
        | nil => rw [ho] at e; cases e
        | cons y M =>
          rw [ho] at e
          rw [← e]
          exact .left (by omega) hk (hp q (by simp)) (cl_of lf P i (kC n) y M hk (fun r hr => hp r (by simp [hr])) ho)
      · rw [if_neg hk] at e
        cases ho : opn h lf (i - kC n) (n - kC n) P with
        | nil => rw [ho] at e; cases e
        | cons y M =>
          rw [ho] at e
          rw [← e]
          exact .right (by omega) (by omega) (hp q (by simp)) (cl_of lf P (i - kC n) (n - kC n) y M (by have := kC_pos n; omega) (fun r hr => hp r (by simp [hr])) ho)
/-- what grows from the first m to n: both roots, and the nodes -/
inductive Gr : Nat → Nat → ByteArray → ByteArray → List ByteArray → List ByteArray → Prop
  | stay {m : Nat} {low : ByteArray} : low.size = 32 → Gr m m low low [] []
  | left {m n : Nat} {a b q : ByteArray} {E L : List ByteArray} : m < n → m ≤ kC n → q.size = 32 → Gr m (kC n) a b E L → Gr m n a (h (nodC false b q)) E (nodC false b q :: L)
  | right {m n : Nat} {a b q : ByteArray} {E L : List ByteArray} : m < n → kC n < m → q.size = 32 → Gr (m - kC n) (n - kC n) a b E L → Gr m n (h (nodC true a q)) (h (nodC true b q)) (nodC true a q :: E) (nodC true b q :: L)
theorem gr_of : ∀ (n m : Nat) (P : List ByteArray) (a b : ByteArray) (E L : List ByteArray), 1 ≤ m → m ≤ n → (∀ q ∈ P, q.size = 32) → gro h (we (m - 1) n) P = some (a, b, E, L) → Gr h m n a b E L := by
  intro n
  induction n using Nat.strongRecOn with
  | ind n ih =>
    intro m P a b E L h1 hm hp e
    by_cases hn : m = n
    · subst hn
      rw [we_end (by omega)] at e
      match P, hp, e with
      | [low], hp, e => cases e; exact .stay (hp _ (by simp))
      | [], _, e => cases e
      | _ :: _ :: _, _, e => cases e
    · by_cases hk : m - 1 < kC n
      · rw [we_left (by omega) hk] at e
        match P, hp, e with
        | [], _, e => cases e
        | q :: P, hp, e =>
          unfold gro at e
          cases hg : gro h (we (m - 1) (kC n)) P with
          | none => rw [hg] at e; cases e
          | some t =>
            obtain ⟨a', b', E', L'⟩ := t
            rw [hg] at e
            cases e
            exact .left (by omega) (by omega) (hp q (by simp)) (ih (kC n) (kC_lt (by omega)) m P _ _ _ _ h1 (by omega) (fun r hr => hp r (by simp [hr])) hg)
      · rw [we_right (by omega) hk] at e
        match P, hp, e with
        | [], _, e => cases e
        | q :: P, hp, e =>
          unfold gro at e
          rw [show m - 1 - kC n = m - kC n - 1 by omega] at e
          cases hg : gro h (we (m - kC n - 1) (n - kC n)) P with
          | none => rw [hg] at e; cases e
          | some t =>
            obtain ⟨a', b', E', L'⟩ := t
            rw [hg] at e
            cases e
            have := kC_pos n
            exact .right (by omega) (by omega) (hp q (by simp)) (ih (n - kC n) (by omega) (m - kC n) P _ _ _ _ (by omega) (by omega) (fun r hr => hp r (by simp [hr])) hg)
theorem gr_size (h32 : ∀ s, (h s).size = 32) {m n : Nat} {a b : ByteArray} {E L : List ByteArray} (g : Gr h m n a b E L) : a.size = 32 ∧ b.size = 32 := by
  induction g with
  | stay hl => exact ⟨hl, hl⟩
  | left _ _ _ _ ih => exact ⟨ih.1, h32 _⟩
  | right _ _ _ _ ih => exact ⟨h32 _, h32 _⟩
theorem cl_cons {lf : ByteArray} {i n : Nat} {N : List ByteArray} (c : Cl h lf i n N) : ∃ x M, N = x :: M := by cases c <;> exact ⟨_, _, rfl⟩
/-- two claims of one place and one size: where the first nodes are the same there are more of them, and the hasher tells the same of the next -/
theorem cl_next (h32 : ∀ s, (h s).size = 32) {la lb : ByteArray} (hne : la ≠ lb) {i n : Nat} {x : ByteArray} {A B : List ByteArray} (ca : Cl h la i n (x :: A)) (cb : Cl h lb i n (x :: B)) :
    ∃ y A' z B' i' n', A = y :: A' ∧ B = z :: B' ∧ h y = h z ∧ Cl h la i' n' (y :: A') ∧ Cl h lb i' n' (z :: B') := by
  have hk := kC_lt (n := n)
  generalize hA : x :: A = XA at ca
  generalize hB : x :: B = XB at cb
  cases ca with
  | leaf =>
    cases cb with
    | leaf => cases hA; cases hB; exact absurd rfl hne
    | left h2 _ _ _ => omega
    | right h2 _ _ _ => omega
  | left h2 hi hq ca' =>
    cases hA
    cases cb with
    | leaf => omega
    | left _ _ hq' cb' =>
      injection hB with e1 e2
      exact ⟨_, _, _, _, _, _, rfl, e2, (nod_inj false (h32 _) (h32 _) hq hq' e1).1, ca', cb'⟩
    | right _ hi' _ _ => omega
  | right h2 hi hq ca' =>
    cases hA
    cases cb with
    | leaf => omega
    | left _ hi' _ _ => omega
    | right _ _ hq' cb' =>
      injection hB with e1 e2
      exact ⟨_, _, _, _, _, _, rfl, e2, (nod_inj true (h32 _) (h32 _) hq hq' e1).1, ca', cb'⟩
end
end Go.Proofs.Ytfhfmfcmkiobdaa

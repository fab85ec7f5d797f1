/-
  The sixty-four words of a block, in numbers.
-/
import Derived.Test.YtbkmclgddknijaaPrimBits
import Derived.Test.YtbkmclgddknijaaTable
namespace Go.Proofs.Ytbkmclgddknijaa

/-- four bytes as a word, the greatest first -/
def wd (B : Nat → Nat) (t : Nat) : Nat := B (4 * t) * 16777216 + B (4 * t + 1) * 65536 + B (4 * t + 2) * 256 + B (4 * t + 3)
/-- the word behind the words l -/
def wnext (B : Nat → Nat) (l : List Nat) (n : Nat) : Nat :=
  if n < 16 then wd B n else (sS1 (l.getD (n - 2) 0) + l.getD (n - 7) 0 + sS0 (l.getD (n - 15) 0) + l.getD (n - 16) 0) % 4294967296
/-- the first n words -/
def wl (B : Nat → Nat) : Nat → List Nat
  | 0 => []
  | n + 1 => wl B n ++ [wnext B (wl B n) n]
theorem wl_length (B : Nat → Nat) : ∀ n, (wl B n).length = n
  | 0 => rfl
  | n + 1 => by simp [wl, wl_length B n]
theorem wd_lt {B : Nat → Nat} (h : ∀ i, B i < 256) (t : Nat) : wd B t < 4294967296 := by
  have h0 := h (4 * t)
  have h1 := h (4 * t + 1)
  have h2 := h (4 * t + 2)
  have h3 := h (4 * t + 3)
  unfold wd
  omega
theorem wl_lt {B : Nat → Nat} (h : ∀ i, B i < 256) : ∀ n, ∀ x ∈ wl B n, x < 4294967296
  | 0 => by simp [wl]
  | n + 1 => by
    intro x hx
    simp only [wl, List.mem_append, List.mem_singleton] at hx
    rcases hx with hx | rfl
    · exact wl_lt h n x hx
    · unfold wnext
      split
      · exact wd_lt h n
      · exact Nat.mod_lt _ (by decide)
theorem getD_lt {l : List Nat} {M : Nat} (h : ∀ x ∈ l, x < M) (hM : 0 < M) (i : Nat) : l.getD i 0 < M := by
  rw [List.getD_eq_getElem?_getD]
  rcases hj : l[i]? with _ | x
  · simpa using hM
  · simpa using h x (List.mem_of_getElem? hj)

/-- n numbers as an array of m values, noughts behind them -/
def padded (f : Nat → Value) (m : Nat) (l : List Nat) : Array Value := ((l ++ List.replicate (m - l.length) 0).map f).toArray
theorem padded_size (f : Nat → Value) {m : Nat} {l : List Nat} (h : l.length ≤ m) : (padded f m l).size = m := by
  simp [padded]; omega
theorem padded_nil (f : Nat → Value) (m : Nat) : padded f m [] = Array.replicate m (f 0) := by
  simp [padded, List.map_replicate]
theorem padded_full (f : Nat → Value) {m : Nat} {l : List Nat} (h : l.length = m) : padded f m l = (l.map f).toArray := by
  simp [padded, h]
theorem padded_at (f : Nat → Value) {m i : Nat} {l : List Nat} (hi : i < l.length) : (padded f m l)[i]? = some (f (l.getD i 0)) := by
  simp [padded, List.getElem?_append, hi]
theorem padded_there (f : Nat → Value) {m i : Nat} {l : List Nat} (h : l.length ≤ m) (hi : i < m) : ∃ v, (padded f m l)[i]? = some v :=
  ⟨_, Array.getElem?_eq_getElem (by rw [padded_size f h]; exact hi)⟩
theorem padded_set (f : Nat → Value) {m : Nat} {l : List Nat} (h : l.length < m) (x : Nat) : (padded f m l).setIfInBounds l.length (f x) = padded f m (l ++ [x]) := by
  unfold padded
  rw [List.setIfInBounds_toArray]
  congr 1
  apply List.ext_getElem?
  intro i
  rw [List.getElem?_set]
  simp only [List.getElem?_map, List.length_map, List.length_append, List.length_replicate, List.getElem?_append, List.length_cons, List.length_nil, List.getElem?_replicate]
  by_cases h1 : i < l.length
  · simp [h1, show ¬ l.length = i by omega, show i < l.length + 1 by omega]
  · by_cases h2 : l.length = i
    · subst h2; simp; omega
    · simp only [h1, h2, if_false, show ¬ i < l.length + (0 + 1) by omega]
      by_cases h3 : i < m
      · simp [show i - l.length < m - l.length by omega, show i - (l.length + 1) < m - (l.length + 1) by omega]
      · simp [show ¬ i - l.length < m - l.length by omega, show ¬ i - (l.length + 1) < m - (l.length + 1) by omega]
end Go.Proofs.Ytbkmclgddknijaa

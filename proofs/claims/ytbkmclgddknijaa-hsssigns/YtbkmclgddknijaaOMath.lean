/-
  Layer 3 in plain words: chains, digits, leaves, nodes, paths, signatures.
-/
import Derived.Test.YtbkmclgddknijaaHSum
import Derived.Test.YtbkmclgddknijaaWStrs
namespace Go.Proofs.Ytbkmclgddknijaa
open Go.RowKit

/-- a chain's first value; a step; n steps from j on -/
def firstB (seed : ByteArray) (q i : Nat) : ByteArray := hB (⟨#[107]⟩ ++ txt seed ++ num4 q ++ num4 i)
def stepB (q i j : Nat) (x : ByteArray) : ByteArray := hB (⟨#[99]⟩ ++ num4 q ++ num4 i ++ num4 j ++ x)
def walkB (q i j : Nat) (x : ByteArray) : Nat → ByteArray
  | 0 => x
  | n + 1 => stepB q i (j + n) (walkB q i j x n)
theorem walkB_walkB (q i d : Nat) (x : ByteArray) : ∀ n, walkB q i d (walkB q i 0 x d) n = walkB q i 0 x (d + n)
  | 0 => rfl
  | n + 1 => by
    show stepB q i (d + n) (walkB q i d (walkB q i 0 x d) n) = stepB q i (0 + (d + n)) (walkB q i 0 x (d + n))
    rw [walkB_walkB q i d x n, Nat.zero_add]
theorem walkB_size (q i j : Nat) (x : ByteArray) (hx : x.size = 32) : ∀ n, (walkB q i j x n).size = 32
  | 0 => hx
  | _ + 1 => hB_size _
def valB (seed : ByteArray) (q i n : Nat) : ByteArray := walkB q i 0 (firstB seed q i) n
theorem valB_size (seed : ByteArray) (q i n : Nat) : (valB seed q i n).size = 32 := walkB_size q i 0 _ (hB_size _) n

/-- the digits of a hash, and of what they are short of -/
def hexd (h : List Nat) (i : Nat) : Nat := if i % 2 = 0 then h.getD (i / 2) 0 / 16 else h.getD (i / 2) 0 % 16
def shortD (h : List Nat) : Nat → Nat
  | 0 => 0
  | k + 1 => shortD h k + (15 - hexd h k)
def digD (h : List Nat) (i : Nat) : Nat := if i < 64 then hexd h i else shortD h 64 / 16 ^ (66 - i) % 16
theorem hexd_le {h : List Nat} (hl : ∀ x ∈ h, x < 256) (i : Nat) : hexd h i ≤ 15 := by
  have : h.getD (i / 2) 0 < 256 := by
    rw [List.getD_eq_getElem?_getD]
    cases e : h[i / 2]? with
    | none => simp
    | some x => simpa using hl x (List.mem_of_getElem? e)
  unfold hexd
  split <;> omega
theorem digD_le {h : List Nat} (hl : ∀ x ∈ h, x < 256) (i : Nat) : digD h i ≤ 15 := by
  unfold digD
  split
  · exact hexd_le hl i
  · have := Nat.mod_lt (shortD h 64 / 16 ^ (66 - i)) (show 0 < 16 by decide)
    omega
theorem shortD_le {h : List Nat} : ∀ k, shortD h k ≤ 15 * k
  | 0 => Nat.zero_le _
  | k + 1 => by
    have := shortD_le (h := h) k
    show shortD h k + (15 - hexd h k) ≤ _
    omega
/-- a message's hash, and digits -/
def msgB (q : Nat) (m : ByteArray) : ByteArray := hB (⟨#[109]⟩ ++ num4 q ++ txt m)
def digB (q : Nat) (m : ByteArray) (i : Nat) : Nat := digD (nums (msgB q m)) i
theorem digB_le (q : Nat) (m : ByteArray) (i : Nat) : digB q m i ≤ 15 := digD_le (nums_lt _) i

/-- texts one behind the other -/
def catB : List ByteArray → ByteArray
  | [] => ⟨#[]⟩
  | s :: r => s ++ catB r
theorem catB_append (a b : List ByteArray) : catB (a ++ b) = catB a ++ catB b := by
  induction a with
  | nil => exact (empty_append _).symm
  | cons x r ih => show x ++ catB (r ++ b) = x ++ catB r ++ catB b; rw [ih, ByteArray.append_assoc]
theorem catB_one (x : ByteArray) : catB [x] = x := append_empty x
theorem catB_size {l : List ByteArray} (h : ∀ x ∈ l, x.size = 32) : (catB l).size = 32 * l.length := by
  induction l with
  | nil => rfl
  | cons x r ih =>
    show (x ++ catB r).size = 32 * (r.length + 1)
    rw [ByteArray.size_append, h x (by simp), ih (fun y hy => h y (by simp [hy]))]
    omega
theorem fstN_size {f : Nat → ByteArray} (h : ∀ i, (f i).size = 32) (n : Nat) : (catB (fstN f n)).size = 32 * n := by
  rw [catB_size, fstN_length]
  intro x hx
  simp only [fstN, List.mem_map] at hx
  obtain ⟨i, _, rfl⟩ := hx
  exact h i
theorem fstN_cat_succ (f : Nat → ByteArray) (n : Nat) : catB (fstN f (n + 1)) = catB (fstN f n) ++ f n := by rw [fstN_succ, catB_append, catB_one]
/-- a key's leaf, of its chains' last values; two nodes together -/
def leafB (q : Nat) (vs : List ByteArray) : ByteArray := hB (⟨#[112]⟩ ++ num4 q ++ catB vs)
def joinB (l r : ByteArray) : ByteArray := hB (⟨#[116]⟩ ++ l ++ r)
def nodeB (seed : ByteArray) : Nat → Nat → ByteArray
  | 0, k => leafB k (fstN (fun i => valB seed k i 15) 67)
  | h + 1, k => joinB (nodeB seed h (2 * k)) (nodeB seed h (2 * k + 1))
theorem nodeB_size (seed : ByteArray) (h k : Nat) : (nodeB seed h k).size = 32 := by cases h <;> exact hB_size _
/-- the node beside the k-th -/
def othB (k : Nat) : Nat := if k % 2 = 1 then k - 1 else k + 1
/-- a signature -/
def signB (seed : ByteArray) (q : Nat) (m : ByteArray) : ByteArray :=
  num4 q ++ catB (fstN (fun i => valB seed q i (digB q m i)) 67) ++ catB (fstN (fun h => nodeB seed h (othB (q / 2 ^ h))) 3)
theorem signB_size (seed : ByteArray) (q : Nat) (m : ByteArray) : (signB seed q m).size = 2244 := by
  unfold signB
  rw [ByteArray.size_append, ByteArray.size_append, num4_size, fstN_size (fun i => valB_size _ _ _ _), fstN_size (fun i => nodeB_size _ _ _)]
/-- where a path leads to -/
def climbB (q : Nat) (o : Nat → ByteArray) (x : ByteArray) : Nat → ByteArray
  | 0 => x
  | k + 1 => if q / 2 ^ k % 2 = 0 then joinB (climbB q o x k) (o k) else joinB (o k) (climbB q o x k)
theorem climbB_size (q : Nat) (o : Nat → ByteArray) (x : ByteArray) (hx : x.size = 32) : ∀ k, (climbB q o x k).size = 32
  | 0 => hx
  | k + 1 => by unfold climbB; split <;> exact hB_size _
/-- where a signature's values lead to -/
def rootB (q : Nat) (m s : ByteArray) : ByteArray :=
  climbB q (fun h => s.extract (2148 + 32 * h) (2180 + 32 * h)) (leafB q (fstN (fun i => walkB q i (digB q m i) (s.extract (4 + 32 * i) (36 + 32 * i)) (15 - digB q m i)) 67)) 3
/-- the number at a signature's front -/
def frontB (s : ByteArray) : Nat := (nums s).getD 0 0 * 16777216 + (nums s).getD 1 0 * 65536 + (nums s).getD 2 0 * 256 + (nums s).getD 3 0
def verB (p m s : ByteArray) : Bool := decide (s.size = 2244 ∧ frontB s < 8 ∧ rootB (frontB s) m s = p)

theorem node_up (seed : ByteArray) (h k : Nat) : (if k % 2 = 0 then joinB (nodeB seed h k) (nodeB seed h (othB k)) else joinB (nodeB seed h (othB k)) (nodeB seed h k)) = nodeB seed (h + 1) (k / 2) := by
  show _ = joinB (nodeB seed h (2 * (k / 2))) (nodeB seed h (2 * (k / 2) + 1))
  unfold othB
  split
  · rw [if_neg (by omega), show 2 * (k / 2) = k by omega]
  · rw [if_pos (by omega), show 2 * (k / 2) = k - 1 by omega, show k - 1 + 1 = k by omega]
theorem climb_node (seed : ByteArray) (q : Nat) (o : Nat → ByteArray) : ∀ n, (∀ h, h < n → o h = nodeB seed h (othB (q / 2 ^ h))) → climbB q o (nodeB seed 0 q) n = nodeB seed n (q / 2 ^ n)
  | 0, _ => by show nodeB seed 0 q = _; rw [Nat.pow_zero, Nat.div_one]
  | n + 1, ho => by
    unfold climbB
    rw [climb_node seed q o n (fun h hh => ho h (by omega)), ho n (by omega), node_up, Nat.div_div_eq_div_mul, ← Nat.pow_succ]

theorem extract_mid (a b c : ByteArray) {i j : Nat} (hi : i = a.size) (hj : j = a.size + b.size) : (a ++ b ++ c).extract i j = b := by
  subst hi hj
  apply ByteArray.ext
  have h1 : a.size = a.data.size := rfl
  have h2 : b.size = b.data.size := rfl
  rw [ByteArray.data_extract, ByteArray.data_append, ByteArray.data_append, h1, h2]
  generalize a.data = a; generalize b.data = b; generalize c.data = c
  have h0 : a.extract a.size (a.size + b.size) = #[] := Array.eq_empty_of_size_eq_zero (by simp)
  rw [Array.extract_append, Array.extract_append, h0, Nat.sub_self, Nat.add_sub_cancel_left, Array.extract_size, Array.size_append, show a.size - (a.size + b.size) = 0 by omega, show a.size + b.size - (a.size + b.size) = 0 by omega]
  simp
theorem cat_get (f : Nat → ByteArray) (hf : ∀ i, (f i).size = 32) (n : Nat) : ∀ m, n < m → ∃ a c, catB (fstN f m) = a ++ f n ++ c ∧ a.size = 32 * n
  | 0, h => absurd h (by omega)
  | m + 1, h => by
    rw [fstN_cat_succ]
    by_cases e : n = m
    · subst e
      exact ⟨catB (fstN f n), ⟨#[]⟩, (append_empty _).symm, fstN_size hf n⟩
    · obtain ⟨a, c, e1, e2⟩ := cat_get f hf n m (by omega)
      exact ⟨a, c ++ f m, by rw [e1, ByteArray.append_assoc], e2⟩
theorem sign_val (seed : ByteArray) (q : Nat) (m : ByteArray) {i : Nat} (hi : i < 67) : (signB seed q m).extract (4 + 32 * i) (36 + 32 * i) = valB seed q i (digB q m i) := by
  obtain ⟨a, c, e1, e2⟩ := cat_get (fun i => valB seed q i (digB q m i)) (fun i => valB_size _ _ _ _) i 67 hi
  unfold signB
  rw [e1, show num4 (q : Int) ++ (a ++ valB seed q i (digB q m i) ++ c) ++ catB (fstN (fun h => nodeB seed h (othB (q / 2 ^ h))) 3) = (num4 (q : Int) ++ a) ++ valB seed q i (digB q m i) ++ (c ++ catB (fstN (fun h => nodeB seed h (othB (q / 2 ^ h))) 3)) by simp only [ByteArray.append_assoc]]
  exact extract_mid _ _ _ (by rw [ByteArray.size_append, num4_size, e2]) (by rw [ByteArray.size_append, num4_size, e2, valB_size]; omega)
theorem sign_node (seed : ByteArray) (q : Nat) (m : ByteArray) {h : Nat} (hh : h < 3) : (signB seed q m).extract (2148 + 32 * h) (2180 + 32 * h) = nodeB seed h (othB (q / 2 ^ h)) := by
  obtain ⟨a, c, e1, e2⟩ := cat_get (fun h => nodeB seed h (othB (q / 2 ^ h))) (fun i => nodeB_size _ _ _) h 3 hh
  have e3 : (catB (fstN (fun i => valB seed q i (digB q m i)) 67)).size = 32 * 67 := fstN_size (fun i => valB_size _ _ _ _) 67
  unfold signB
  rw [e1, show num4 (q : Int) ++ catB (fstN (fun i => valB seed q i (digB q m i)) 67) ++ (a ++ nodeB seed h (othB (q / 2 ^ h)) ++ c) = (num4 (q : Int) ++ catB (fstN (fun i => valB seed q i (digB q m i)) 67) ++ a) ++ nodeB seed h (othB (q / 2 ^ h)) ++ c by simp only [ByteArray.append_assoc]]
  exact extract_mid _ _ _ (by rw [ByteArray.size_append, ByteArray.size_append, num4_size, e3, e2]) (by rw [ByteArray.size_append, ByteArray.size_append, num4_size, e3, e2, nodeB_size]; omega)
theorem sign_front (seed : ByteArray) (q : Nat) (m : ByteArray) (hq : q < 8) : frontB (signB seed q m) = q := by
  have e : nums (signB seed q m) = by4 q ++ nums (catB (fstN (fun i => valB seed q i (digB q m i)) 67) ++ catB (fstN (fun h => nodeB seed h (othB (q / 2 ^ h))) 3)) := by
    unfold signB
    rw [ByteArray.append_assoc, nums_append]
    congr 1
    unfold num4
    rw [clip_in (by omega) (by omega), nums_strN (by4_lt _), Int.toNat_natCast]
  unfold frontB
  rw [e]
  simp only [by4, List.cons_append, List.getD_cons_zero, List.getD_cons_succ]
  omega
/-- what is signed is verified -/
theorem sign_ver (seed : ByteArray) (q : Nat) (m : ByteArray) (hq : q < 8) : rootB q m (signB seed q m) = nodeB seed 3 0 := by
  unfold rootB
  rw [fstN_congr (g := fun i => valB seed q i 15) (fun i hi => by
    show walkB q i (digB q m i) ((signB seed q m).extract (4 + 32 * i) (36 + 32 * i)) (15 - digB q m i) = _
    rw [sign_val seed q m hi]
    unfold valB
    rw [walkB_walkB]
    have := digB_le q m i
    rw [show digB q m i + (15 - digB q m i) = 15 by omega])]
  show climbB q _ (nodeB seed 0 q) 3 = _
  rw [climb_node seed q _ 3 (fun h hh => sign_node seed q m hh), show q / 2 ^ 3 = 0 by omega]
/-- the level above -/
def levelB (seed : ByteArray) (h n : Nat) : List ByteArray := fstN (nodeB seed h) n
def togB (ns : List ByteArray) : List ByteArray := fstN (fun i => joinB (ns.getD (2 * i) ByteArray.empty) (ns.getD (2 * i + 1) ByteArray.empty)) (ns.length / 2)
theorem tog_level (seed : ByteArray) (h n : Nat) : togB (levelB seed h (2 * n)) = levelB seed (h + 1) n := by
  unfold togB levelB
  rw [fstN_length, show 2 * n / 2 = n by omega]
  exact fstN_congr fun i hi => by rw [fstN_get _ (by omega), fstN_get _ (by omega)]; rfl
end Go.Proofs.Ytbkmclgddknijaa

/-
  What a digest holds of the bytes that were written, in numbers.
-/
import Derived.Test.YtigmkhgaoamdkaaMix
namespace Go.Proofs.Ytigmkhgaoamdkaa
open Go.RowKit

/-- the eight words behind the first k blocks of m -/
def hstN (m : List Nat) : Nat → List Nat
  | 0 => stdH
  | k + 1 => mixed (hstN m k) fun i => m.getD (64 * k + i) 0
theorem hstN_length (m : List Nat) : ∀ k, (hstN m k).length = 8
  | 0 => rfl
  | _ + 1 => mixed_length _ _
theorem hstN_lt (m : List Nat) : ∀ k, ∀ x ∈ hstN m k, x < 4294967296
  | 0 => by
    intro x hx
    have := List.all_eq_true.1 (show stdH.all (fun x => decide (x < 4294967296)) = true by decide +kernel) x hx
    simpa using this
  | _ + 1 => mixed_lt _ _
/-- only bytes of whole blocks matter -/
theorem mixed_congr (hl : List Nat) {B C : Nat → Nat} (h : ∀ i, i < 64 → B i = C i) : mixed hl B = mixed hl C := by
  have hw : ∀ n, n ≤ 64 → wl B n = wl C n := by
    intro n
    induction n with
    | zero => intro _; rfl
    | succ n ih =>
      intro hn
      have e := ih (by omega)
      show wl B n ++ [wnext B (wl B n) n] = wl C n ++ [wnext C (wl C n) n]
      have e2 : wnext B (wl C n) n = wnext C (wl C n) n := by
        generalize wl C n = l
        unfold wnext
        by_cases h16 : n < 16
        · rw [if_pos h16, if_pos h16]
          unfold wd
          rw [h (4 * n) (by omega), h (4 * n + 1) (by omega), h (4 * n + 2) (by omega), h (4 * n + 3) (by omega)]
        · rw [if_neg h16, if_neg h16]
      rw [e, e2]
  unfold mixed
  rw [hw 64 (Nat.le_refl _)]
theorem hstN_append (m x : List Nat) : ∀ k, 64 * k ≤ m.length → hstN (m ++ x) k = hstN m k
  | 0, _ => rfl
  | k + 1, h => by
    show mixed (hstN (m ++ x) k) _ = mixed (hstN m k) _
    rw [hstN_append m x k (by omega)]
    apply mixed_congr
    intro i hi
    rw [List.getD_eq_getElem?_getD, List.getD_eq_getElem?_getD, List.getElem?_append_left (by omega)]
/-- what a digest's block g holds when the bytes m were written -/
def Dig (w : World) (g : Nat) (m : List Nat) : Prop :=
  ∃ bs : List Nat, bs.length = 64 ∧ (∀ x ∈ bs, x < 256) ∧ bs.take (m.length % 64) = m.drop (64 * (m.length / 64)) ∧ Blk w g 89 (digA (hstN m (m.length / 64)) bs m.length)
theorem Dig.lt {w : World} {g : Nat} {m : List Nat} (h : Dig w g m) : g < w.heap.size := by
  obtain ⟨_, _, _, _, hb⟩ := h
  exact hb.lt
theorem Dig.grown {w w' : World} {g : Nat} {m : List Nat} {row : Option Nat} (h : Dig w g m) (hg : w.grownBy w' row) (hne : some g ≠ row) : Dig w' g m := by
  obtain ⟨bs, h1, h2, h3, hb⟩ := h
  exact ⟨bs, h1, h2, h3, hb.grown hg hne⟩
theorem Dig.below {w w' : World} {g B : Nat} {m : List Nat} (h : Dig w g m) (hb : Below B w w') (hg : g < B) : Dig w' g m := by
  obtain ⟨bs, h1, h2, h3, hk⟩ := h
  exact ⟨bs, h1, h2, h3, hk.below hb hg⟩

/-- j bytes of x go over into the block: fewer than fill it -/
theorem part_take {bs m x : List Nat} {j : Nat} (h64 : bs.length = 64) (ht : bs.take (m.length % 64) = m.drop (64 * (m.length / 64))) (hx : x.length = j) (_ : m.length % 64 + j ≤ 64) :
    (bs.take (m.length % 64) ++ x ++ bs.drop (m.length % 64 + j)).take (m.length % 64 + j) = (m ++ x).drop (64 * (m.length / 64)) := by
  have hl : (bs.take (m.length % 64) ++ x).length = m.length % 64 + j := by simp; omega
  rw [List.take_append_of_le_length (by rw [hl]; omega), List.take_of_length_le (by rw [hl]; omega), ht, List.drop_append_of_le_length (by omega)]
theorem part_lt {bs x : List Nat} {r j : Nat} (hb : ∀ y ∈ bs, y < 256) (hx : ∀ y ∈ x, y < 256) : ∀ y ∈ bs.take r ++ x ++ bs.drop j, y < 256 := by
  intro y hy
  simp only [List.mem_append] at hy
  rcases hy with (hy | hy) | hy
  · exact hb y (List.mem_of_mem_take hy)
  · exact hx y hy
  · exact hb y (List.mem_of_mem_drop hy)
theorem part_len {bs x : List Nat} {r j : Nat} (h64 : bs.length = 64) (hx : x.length = j) (hj : r + j ≤ 64) : (bs.take r ++ x ++ bs.drop (r + j)).length = 64 := by
  simp; omega
end Go.Proofs.Ytigmkhgaoamdkaa

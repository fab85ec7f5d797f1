/-
  A digest's cells: the table, eight words, a block's bytes, how many bytes were written.
-/
import Derived.Test.YtbkmclgddknijaaStd
import Derived.Test.YtbkmclgddknijaaSched
import Derived.Test.YtbkmclgddknijaaRounds
import Derived.Deep.MidRow
namespace Go.Proofs.Ytbkmclgddknijaa
open Go.RowKit

def U64' (n : Nat) : Value := .int .u64 (n : Int)
def S8.list (s : S8) : List Nat := [s.a, s.b, s.c, s.d, s.e, s.f, s.g, s.h]
theorem S8.vals_list (s : S8) : s.vals = (s.list.map U32).toArray := rfl
theorem S8.list_length (s : S8) : s.list.length = 8 := rfl
theorem S8.list_lt {s : S8} (h : s.ok) : ∀ x ∈ s.list, x < 4294967296 := by
  obtain ⟨h1, h2, h3, h4, h5, h6, h7, h8⟩ := h
  intro x hx
  simp only [S8.list, List.mem_cons, List.not_mem_nil, or_false] at hx
  rcases hx with rfl | rfl | rfl | rfl | rfl | rfl | rfl | rfl <;> assumption
/-- the cells as a list -/
def digL (hl bs : List Nat) (n : Nat) : List Value := stdK.map U32 ++ (hl.map U32 ++ (bs.map U8 ++ [U64' n]))
def digA (hl bs : List Nat) (n : Nat) : Array Value := (digL hl bs n).toArray
theorem stdK_length : stdK.length = 64 := rfl
theorem digA_size {hl bs : List Nat} {n : Nat} (h8 : hl.length = 8) (h64 : bs.length = 64) : (digA hl bs n).size = 137 := by simp [digA, digL, h8, h64, stdK_length]
theorem digA_k {hl bs : List Nat} {n : Nat} (i : Nat) (hi : i < 64) : (digA hl bs n)[i]? = some (U32 (stdK.getD i 0)) := by
  have := stdK_length
  simp only [digA, digL, List.getElem?_toArray]
  rw [List.getElem?_append_left (by simp; omega)]
  simp [List.getD_eq_getElem?_getD, List.getElem?_eq_getElem (show i < stdK.length by omega)]
theorem digA_h {hl bs : List Nat} {n : Nat} (h8 : hl.length = 8) (i : Nat) (hi : i < 8) : (digA hl bs n)[64 + i]? = some (U32 (hl.getD i 0)) := by
  have := stdK_length
  simp only [digA, digL, List.getElem?_toArray]
  rw [List.getElem?_append_right (by simp; omega), List.getElem?_append_left (by simp; omega)]
  simp [List.getD_eq_getElem?_getD, stdK_length, List.getElem?_eq_getElem (show i < hl.length by omega)]
theorem digA_b {hl bs : List Nat} {n : Nat} (h8 : hl.length = 8) (h64 : bs.length = 64) (i : Nat) (hi : i < 64) : (digA hl bs n)[72 + i]? = some (U8 (bs.getD i 0)) := by
  have := stdK_length
  simp only [digA, digL, List.getElem?_toArray]
  rw [List.getElem?_append_right (by simp; omega), List.getElem?_append_right (by simp; omega), List.getElem?_append_left (by simp; omega)]
  have e : 72 + i - (stdK.map U32).length - (hl.map U32).length = i := by simp; omega
  rw [e]
  simp [List.getD_eq_getElem?_getD, List.getElem?_eq_getElem (show i < bs.length by omega)]
theorem digA_n {hl bs : List Nat} {n : Nat} (h8 : hl.length = 8) (h64 : bs.length = 64) : (digA hl bs n)[136]? = some (U64' n) := by
  have := stdK_length
  simp only [digA, digL, List.getElem?_toArray]
  rw [List.getElem?_append_right (by simp; omega), List.getElem?_append_right (by simp; omega), List.getElem?_append_right (by simp; omega)]
  have e : 136 - (stdK.map U32).length - (hl.map U32).length - (bs.map U8).length = 0 := by simp; omega
  rw [e]
  rfl
theorem digA_setN {hl bs : List Nat} {n : Nat} (h8 : hl.length = 8) (h64 : bs.length = 64) (m : Nat) : (digA hl bs n).setIfInBounds 136 (U64' m) = digA hl bs m := by
  have := stdK_length
  simp only [digA, digL, List.setIfInBounds_toArray]
  congr 1
  rw [List.set_append_right _ _ (by simp; omega), List.set_append_right _ _ (by simp; omega), List.set_append_right _ _ (by simp; omega)]
  have e : 136 - (stdK.map U32).length - (hl.map U32).length - (bs.map U8).length = 0 := by simp; omega
  rw [e]
  rfl
theorem digA_setH {hl bs : List Nat} {n : Nat} (h8 : hl.length = 8) (i x : Nat) (hi : i < 8) : (digA hl bs n).setIfInBounds (64 + i) (U32 x) = digA (hl.set i x) bs n := by
  have := stdK_length
  simp only [digA, digL, List.setIfInBounds_toArray]
  congr 1
  rw [List.set_append_right _ _ (by simp; omega), List.set_append_left _ _ (by simp; omega)]
  have e : 64 + i - (stdK.map U32).length = i := by simp; omega
  rw [e, List.map_set]
theorem digL_len {hl bs : List Nat} {n : Nat} (h8 : hl.length = 8) (h64 : bs.length = 64) : (digL hl bs n).length = 137 := by simp [digL, h8, h64, stdK_length]
theorem digA_splice {hl bs : List Nat} {n : Nat} (h8 : hl.length = 8) (h64 : bs.length = 64) (o : Nat) (xs : List Nat) (hx : o + xs.length ≤ 64) :
    ((digA hl bs n).toList.take (72 + o) ++ xs.map U8 ++ (digA hl bs n).toList.drop (72 + o + xs.length)).toArray = digA hl (bs.take o ++ xs ++ bs.drop (o + xs.length)) n := by
  have hk := stdK_length
  simp only [digA]
  congr 1
  have hA : (stdK.map U32).length = 64 := by simp [hk]
  have hH : (hl.map U32).length = 8 := by simp [h8]
  have t1 : (digL hl bs n).take (72 + o) = stdK.map U32 ++ (hl.map U32 ++ (bs.take o).map U8) := by
    unfold digL
    rw [List.take_append, List.take_append, List.take_append, hA, hH, List.take_of_length_le (by rw [hA]; omega), List.take_of_length_le (by rw [hH]; omega)]
    simp only [List.length_map, h64, List.map_take]
    rw [show 72 + o - 64 - 8 = o by omega, show o - 64 = 0 by omega]
    simp
  have t2 : (digL hl bs n).drop (72 + o + xs.length) = (bs.drop (o + xs.length)).map U8 ++ [U64' n] := by
    unfold digL
    rw [List.drop_append, List.drop_append, List.drop_append, hA, hH, List.drop_of_length_le (by rw [hA]; omega), List.drop_of_length_le (by rw [hH]; omega)]
    simp only [List.length_map, h64, List.map_drop]
    rw [show 72 + o + xs.length - 64 - 8 = o + xs.length by omega, show o + xs.length - 64 = 0 by omega]
    simp
  rw [t1, t2]
  unfold digL
  simp [List.append_assoc]

/-- the first i of eight words added -/
def addTo (x y : List Nat) (i : Nat) : List Nat := (List.range 8).map fun j => if j < i then (x.getD j 0 + y.getD j 0) % 4294967296 else x.getD j 0
theorem addTo_length (x y : List Nat) (i : Nat) : (addTo x y i).length = 8 := by simp [addTo]
theorem addTo_zero {x : List Nat} (y : List Nat) (h : x.length = 8) : addTo x y 0 = x := by
  apply List.ext_getElem?
  intro j
  simp only [addTo, List.getElem?_map]
  by_cases hj : j < 8
  · simp [hj, List.getElem?_eq_getElem (show j < x.length by omega)]
  · simp [List.getElem?_eq_none (show (List.range 8).length ≤ j by simp; omega), List.getElem?_eq_none (show x.length ≤ j by omega)]
theorem addTo_at (x y : List Nat) (i : Nat) (h : i < 8) : (addTo x y i).getD i 0 = x.getD i 0 := by
  simp [addTo, List.getD_eq_getElem?_getD, h]
theorem addTo_succ (x y : List Nat) (i : Nat) (h : i < 8) : (addTo x y i).set i ((x.getD i 0 + y.getD i 0) % 4294967296) = addTo x y (i + 1) := by
  apply List.ext_getElem?
  intro j
  rw [List.getElem?_set]
  simp only [addTo, List.getElem?_map, List.length_map, List.length_range]
  by_cases hj : j < 8
  · by_cases e : i = j
    · subst e; simp [hj]
    · simp only [e, if_false, List.getElem?_range, hj]
      by_cases h2 : j < i
      · simp [h2, show j < i + 1 by omega]
      · simp [h2, show ¬ j < i + 1 by omega]
  · simp [List.getElem?_eq_none (show (List.range 8).length ≤ j by simp; omega)]
    omega
def S8.of (l : List Nat) : S8 := ⟨l.getD 0 0, l.getD 1 0, l.getD 2 0, l.getD 3 0, l.getD 4 0, l.getD 5 0, l.getD 6 0, l.getD 7 0⟩
theorem S8.of_list {l : List Nat} (h : l.length = 8) : (S8.of l).list = l := by
  match l, h with
  | [_, _, _, _, _, _, _, _], _ => rfl
theorem S8.of_ok {l : List Nat} (h : ∀ x ∈ l, x < 4294967296) : (S8.of l).ok :=
  ⟨getD_lt h (by decide) _, getD_lt h (by decide) _, getD_lt h (by decide) _, getD_lt h (by decide) _, getD_lt h (by decide) _, getD_lt h (by decide) _, getD_lt h (by decide) _, getD_lt h (by decide) _⟩
/-- a block mixed into eight words -/
def mixed (hl : List Nat) (B : Nat → Nat) : List Nat := addTo hl (rnds (fun i => stdK.getD i 0) (fun i => (wl B 64).getD i 0) (S8.of hl) 64).list 8
theorem mixed_length (hl : List Nat) (B : Nat → Nat) : (mixed hl B).length = 8 := addTo_length _ _ _
theorem addTo_lt {x : List Nat} (y : List Nat) : ∀ v ∈ addTo x y 8, v < 4294967296 := by
  intro v hv
  simp only [addTo, List.mem_map, List.mem_range] at hv
  obtain ⟨j, hj, rfl⟩ := hv
  rw [if_pos hj]
  exact Nat.mod_lt _ (by decide)
theorem mixed_lt (hl : List Nat) (B : Nat → Nat) : ∀ v ∈ mixed hl B, v < 4294967296 := addTo_lt _
end Go.Proofs.Ytbkmclgddknijaa

/-
The reference's digest, out of the texts of layer 1, for a seat that has only the reference.
-/
import Derived.Test.YtfhfmfcmkiobdaaRows
import Derived.WalkKit
import Derived.WalkSpells
import Derived.WalkLawsBesides
import Derived.Lib.Hide
import Derived.Laws.Bits64b
import Derived.Laws.BitsAllLaws
import Derived.Laws.ShiftsVarLaws
import Derived.Shelf.Abstract
import Derived.Test.YtfhfmfcmkiobdaaBase
import Derived.Laws.Rows
import Derived.Laws.Tables
import Derived.Laws.CopyOwn
import Derived.BigQuiet
import Derived.Deep.QuietTactic
import Derived.Deep.WholeRow
import Derived.Deep.MidRow
import Derived.StillTailTactics
import Derived.Deep.RegionHeld3
import Derived.Deep.DeepCutAuto
import Derived.Lib.BufferWrite
import Derived.Lib.SlBuf
import Derived.OwnWalk
import Derived.Maps.AppendAt
import Derived.Deep.LoopGhost
namespace Go.Proofs.Ytfhfmfcmkiobdaa
open Go.RowKit
/-- x turned right by n, as 32 bits -/
def rotr (x n : Nat) : Nat := x / 2 ^ n + x % 2 ^ n * 2 ^ (32 - n)
theorem rotr_or (x n : Nat) (hx : x < 4294967296) (hn : n ≤ 32) : x * 2 ^ (32 - n) % 4294967296 ||| x / 2 ^ n = rotr x n := by
  have e : (4294967296 : Nat) = 2 ^ n * 2 ^ (32 - n) := by rw [← Nat.pow_add, show n + (32 - n) = 32 by omega]
  have h1 : x * 2 ^ (32 - n) % 4294967296 = x % 2 ^ n * 2 ^ (32 - n) := by rw [e, Nat.mul_mod_mul_right]
  have h2 : x / 2 ^ n < 2 ^ (32 - n) := by
    rw [Nat.div_lt_iff_lt_mul (Nat.two_pow_pos n), Nat.mul_comm, ← e]; exact hx
  rw [h1, nat_join (32 - n) _ _ (by simp) h2]
  unfold rotr
  omega
theorem rotr_lt (x n : Nat) (hx : x < 4294967296) (hn : n ≤ 32) : rotr x n < 4294967296 := by
  rw [← rotr_or x n hx hn]
  exact Nat.or_lt_two_pow (n := 32) (Nat.mod_lt _ (by decide)) (Nat.lt_of_le_of_lt (Nat.div_le_self _ _) hx)
def bS0 (x : Nat) : Nat := rotr x 2 ^^^ rotr x 13 ^^^ rotr x 22
def bS1 (x : Nat) : Nat := rotr x 6 ^^^ rotr x 11 ^^^ rotr x 25
def sS0 (x : Nat) : Nat := rotr x 7 ^^^ rotr x 18 ^^^ x / 8
def sS1 (x : Nat) : Nat := rotr x 17 ^^^ rotr x 19 ^^^ x / 1024
def cho (x y z : Nat) : Nat := (x &&& y) ^^^ ((4294967295 - x) &&& z)
def mjr (x y z : Nat) : Nat := (x &&& y) ^^^ (x &&& z) ^^^ (y &&& z)
theorem xor_lt {a b : Nat} (ha : a < 4294967296) (hb : b < 4294967296) : a ^^^ b < 4294967296 := Nat.xor_lt_two_pow (n := 32) ha hb
theorem and_lt {a : Nat} (b : Nat) (ha : a < 4294967296) : a &&& b < 4294967296 := Nat.lt_of_le_of_lt Nat.and_le_left ha
theorem bS0_lt (x : Nat) (h : x < 4294967296) : bS0 x < 4294967296 := xor_lt (xor_lt (rotr_lt x _ h (by omega)) (rotr_lt x _ h (by omega))) (rotr_lt x _ h (by omega))
theorem bS1_lt (x : Nat) (h : x < 4294967296) : bS1 x < 4294967296 := xor_lt (xor_lt (rotr_lt x _ h (by omega)) (rotr_lt x _ h (by omega))) (rotr_lt x _ h (by omega))
theorem sS0_lt (x : Nat) (h : x < 4294967296) : sS0 x < 4294967296 := xor_lt (xor_lt (rotr_lt x _ h (by omega)) (rotr_lt x _ h (by omega))) (by omega)
theorem sS1_lt (x : Nat) (h : x < 4294967296) : sS1 x < 4294967296 := xor_lt (xor_lt (rotr_lt x _ h (by omega)) (rotr_lt x _ h (by omega))) (by omega)
theorem cho_lt (x y z : Nat) (h : x < 4294967296) : cho x y z < 4294967296 := xor_lt (and_lt _ h) (and_lt _ (by omega))
theorem mjr_lt (x y z : Nat) (h : x < 4294967296) (h' : y < 4294967296) : mjr x y z < 4294967296 := xor_lt (xor_lt (and_lt _ h) (and_lt _ h)) (and_lt _ h')
open Go.RowKit Go.Shelf
theorem wpList_build_as {P : Program} {ops : Array Oper} {rest : List Oper} {o : Oper} {a : Act} {w : World} {Q : Exit → Act → World → Prop} (hg : o.guard = none) (t : TypeId) (parts : Array (Nat × Operand)) (ho : o.op = .build t parts)
    (cs : Array Value) (hb : P.built t (parts.map fun (i, x) => (i, a.eval x)).toList = some cs)
    (h : wpList P ops Q rest (a.put o.dst (.agg cs)) w) : wpList P ops Q (o :: rest) a w :=
  wpList_build hg t parts ho (by rw [hb]; rfl) (by rw [hb]; exact h)
open Go.RowKit
def stdK : List Nat := [
  0x428a2f98, 0x71374491, 0xb5c0fbcf, 0xe9b5dba5, 0x3956c25b, 0x59f111f1, 0x923f82a4, 0xab1c5ed5,
  0xd807aa98, 0x12835b01, 0x243185be, 0x550c7dc3, 0x72be5d74, 0x80deb1fe, 0x9bdc06a7, 0xc19bf174,
  0xe49b69c1, 0xefbe4786, 0x0fc19dc6, 0x240ca1cc, 0x2de92c6f, 0x4a7484aa, 0x5cb0a9dc, 0x76f988da,
  0x983e5152, 0xa831c66d, 0xb00327c8, 0xbf597fc7, 0xc6e00bf3, 0xd5a79147, 0x06ca6351, 0x14292967,
  0x27b70a85, 0x2e1b2138, 0x4d2c6dfc, 0x53380d13, 0x650a7354, 0x766a0abb, 0x81c2c92e, 0x92722c85,
  0xa2bfe8a1, 0xa81a664b, 0xc24b8b70, 0xc76c51a3, 0xd192e819, 0xd6990624, 0xf40e3585, 0x106aa070,
  0x19a4c116, 0x1e376c08, 0x2748774c, 0x34b0bcb5, 0x391c0cb3, 0x4ed8aa4a, 0x5b9cca4f, 0x682e6ff3,
  0x748f82ee, 0x78a5636f, 0x84c87814, 0x8cc70208, 0x90befffa, 0xa4506ceb, 0xbef9a3f7, 0xc67178f2]
def stdH : List Nat := [0x6a09e667, 0xbb67ae85, 0x3c6ef372, 0xa54ff53a, 0x510e527f, 0x9b05688c, 0x1f83d9ab, 0x5be0cd19]
theorem map_at {l : List Nat} {f : Nat → Value} {j : Nat} (h : j < l.length) : ((l.map f).toArray)[j]? = some (f (l.getD j 0)) := by
  simp [h, List.getD_eq_getElem?_getD]
theorem lt_of_all {l : List Nat} (h : l.all (fun x => decide (x < 4294967296)) = true) (j : Nat) : l.getD j 0 < 4294967296 := by
  rw [List.getD_eq_getElem?_getD]
  rcases hj : l[j]? with _ | x
  · simp
  · have := List.all_eq_true.1 h x (List.mem_of_getElem? hj)
    simpa using this
theorem stdK_lt (j : Nat) : stdK.getD j 0 < 4294967296 := lt_of_all (by decide +kernel) j
/-- four bytes as a word, the greatest first -/
def wd (B : Nat → Nat) (t : Nat) : Nat := B (4 * t) * 16777216 + B (4 * t + 1) * 65536 + B (4 * t + 2) * 256 + B (4 * t + 3)
/-- the word behind the words l -/
def wnext (B : Nat → Nat) (l : List Nat) (n : Nat) : Nat :=
  if n < 16 then wd B n else (sS1 (l.getD (n - 2) 0) + l.getD (n - 7) 0 + sS0 (l.getD (n - 15) 0) + l.getD (n - 16) 0) % 4294967296
/-- the first n words -/
def wl (B : Nat → Nat) : Nat → List Nat
  | 0 => []
  | n + 1 => wl B n ++ [wnext B (wl B n) n]
theorem wl_length (B : Nat → Nat) : ∀ n, (wl B n).length = n
  | 0 => rfl
  | n + 1 => by simp [wl, wl_length B n]
theorem wd_lt {B : Nat → Nat} (h : ∀ i, B i < 256) (t : Nat) : wd B t < 4294967296 := by
  have h0 := h (4 * t)
  have h1 := h (4 * t + 1)
  have h2 := h (4 * t + 2)
  have h3 := h (4 * t + 3)
  unfold wd
  omega
theorem wl_lt {B : Nat → Nat} (h : ∀ i, B i < 256) : ∀ n, ∀ x ∈ wl B n, x < 4294967296
  | 0 => by simp [wl]
  | n + 1 => by
    intro x hx
    simp only [wl, List.mem_append, List.mem_singleton] at hx
    rcases hx with hx | rfl
    · exact wl_lt h n x hx
    · unfold wnext
      split
      · exact wd_lt h n
      · exact Nat.mod_lt _ (by decide)
theorem getD_lt {l : List Nat} {M : Nat} (h : ∀ x ∈ l, x < M) (hM : 0 < M) (i : Nat) : l.getD i 0 < M := by
  rw [List.getD_eq_getElem?_getD]
  rcases hj : l[i]? with _ | x
  · simpa using hM
  · simpa using h x (List.mem_of_getElem? hj)
/-- n numbers as an array of m values, noughts behind them -/
def padded (f : Nat → Value) (m : Nat) (l : List Nat) : Array Value := ((l ++ List.replicate (m - l.length) 0).map f).toArray
theorem padded_size (f : Nat → Value) {m : Nat} {l : List Nat} (h : l.length ≤ m) : (padded f m l).size = m := by
  simp [padded]; omega
theorem padded_nil (f : Nat → Value) (m : Nat) : padded f m [] = Array.replicate m (f 0) := by
  simp [padded, List.map_replicate]
theorem padded_at (f : Nat → Value) {m i : Nat} {l : List Nat} (hi : i < l.length) : (padded f m l)[i]? = some (f (l.getD i 0)) := by
  simp [padded, List.getElem?_append, hi]
theorem padded_there (f : Nat → Value) {m i : Nat} {l : List Nat} (h : l.length ≤ m) (hi : i < m) : ∃ v, (padded f m l)[i]? = some v :=
  ⟨_, Array.getElem?_eq_getElem (by rw [padded_size f h]; exact hi)⟩
theorem padded_set (f : Nat → Value) {m : Nat} {l : List Nat} (h : l.length < m) (x : Nat) : (padded f m l).setIfInBounds l.length (f x) = padded f m (l ++ [x]) := by
  unfold padded
  rw [List.setIfInBounds_toArray]
  congr 1
  apply List.ext_getElem?
  intro i
  rw [List.getElem?_set]
  simp only [List.getElem?_map, List.length_map, List.length_append, List.length_replicate, List.getElem?_append, List.length_cons, List.length_nil, List.getElem?_replicate]
  by_cases h1 : i < l.length
  · simp [h1, show ¬ l.length = i by omega, show i < l.length + 1 by omega]
  · by_cases h2 : l.length = i
    · subst h2; simp; omega
    · simp only [h1, h2, if_false, show ¬ i < l.length + (0 + 1) by omega]
      by_cases h3 : i < m
      · simp [show i - l.length < m - l.length by omega, show i - (l.length + 1) < m - (l.length + 1) by omega]
      · simp [show ¬ i - l.length < m - l.length by omega, show ¬ i - (l.length + 1) < m - (l.length + 1) by omega]
/-- eight words -/
structure S8 where
  a : Nat
  b : Nat
  c : Nat
  d : Nat
  e : Nat
  f : Nat
  g : Nat
  h : Nat
def S8.ok (s : S8) : Prop := s.a < 4294967296 ∧ s.b < 4294967296 ∧ s.c < 4294967296 ∧ s.d < 4294967296 ∧ s.e < 4294967296 ∧ s.f < 4294967296 ∧ s.g < 4294967296 ∧ s.h < 4294967296
def tOne (s : S8) (k w : Nat) : Nat := (s.h + bS1 s.e + cho s.e s.f s.g + k + w) % 4294967296
def tTwo (s : S8) : Nat := (bS0 s.a + mjr s.a s.b s.c) % 4294967296
/-- one round -/
def rnd (s : S8) (k w : Nat) : S8 := ⟨(tOne s k w + tTwo s) % 4294967296, s.a, s.b, s.c, (s.d + tOne s k w) % 4294967296, s.e, s.f, s.g⟩
/-- the first n rounds -/
def rnds (K W : Nat → Nat) (s : S8) : Nat → S8
  | 0 => s
  | n + 1 => rnd (rnds K W s n) (K n) (W n)
theorem rnd_ok {s : S8} (h : s.ok) (k w : Nat) : (rnd s k w).ok := by
  obtain ⟨h1, h2, h3, h4, h5, h6, h7, h8⟩ := h
  exact ⟨Nat.mod_lt _ (by decide), h1, h2, h3, Nat.mod_lt _ (by decide), h5, h6, h7⟩
theorem rnds_ok {K W : Nat → Nat} {s : S8} (h : s.ok) : ∀ n, (rnds K W s n).ok
  | 0 => h
  | n + 1 => rnd_ok (rnds_ok h n) _ _
theorem quiet_left {P : Program} {f : FuncId} {args : Array Value} {w : World} {n : Nat} {v : Value}
    (h : Calls P f args (w.drewN n) fun e w' => e = .returned v ∧ w.drewN n = w') : Calls P f args (w.drewN n) fun e w'' => e = .returned v ∧ ∃ m, w'' = w.drewN m :=
  h.mono fun _ _ ⟨he, hm⟩ => ⟨he, n, hm.symm⟩
def S8.list (s : S8) : List Nat := [s.a, s.b, s.c, s.d, s.e, s.f, s.g, s.h]
theorem S8.list_length (s : S8) : s.list.length = 8 := rfl
theorem S8.list_lt {s : S8} (h : s.ok) : ∀ x ∈ s.list, x < 4294967296 := by
  obtain ⟨h1, h2, h3, h4, h5, h6, h7, h8⟩ := h
  intro x hx
  simp only [S8.list, List.mem_cons, List.not_mem_nil, or_false] at hx
  rcases hx with rfl | rfl | rfl | rfl | rfl | rfl | rfl | rfl <;> assumption
/-- the first i of eight words added -/
def addTo (x y : List Nat) (i : Nat) : List Nat := (List.range 8).map fun j => if j < i then (x.getD j 0 + y.getD j 0) % 4294967296 else x.getD j 0
theorem addTo_length (x y : List Nat) (i : Nat) : (addTo x y i).length = 8 := by simp [addTo]
theorem addTo_zero {x : List Nat} (y : List Nat) (h : x.length = 8) : addTo x y 0 = x := by
  apply List.ext_getElem?
  intro j
  simp only [addTo, List.getElem?_map]
  by_cases hj : j < 8
  · simp [hj, List.getElem?_eq_getElem (show j < x.length by omega)]
  · simp [List.getElem?_eq_none (show (List.range 8).length ≤ j by simp; omega), List.getElem?_eq_none (show x.length ≤ j by omega)]
theorem addTo_at (x y : List Nat) (i : Nat) (h : i < 8) : (addTo x y i).getD i 0 = x.getD i 0 := by
  simp [addTo, List.getD_eq_getElem?_getD, h]
theorem addTo_succ (x y : List Nat) (i : Nat) (h : i < 8) : (addTo x y i).set i ((x.getD i 0 + y.getD i 0) % 4294967296) = addTo x y (i + 1) := by
  apply List.ext_getElem?
  intro j
  rw [List.getElem?_set]
  simp only [addTo, List.getElem?_map, List.length_map, List.length_range]
  by_cases hj : j < 8
  · by_cases e : i = j
    · subst e; simp [hj]
    · simp only [e, if_false, List.getElem?_range, hj]
      by_cases h2 : j < i
      · simp [h2, show j < i + 1 by omega]
      · simp [h2, show ¬ j < i + 1 by omega]
  · simp [List.getElem?_eq_none (show (List.range 8).length ≤ j by simp; omega)]
    omega
def S8.of (l : List Nat) : S8 := ⟨l.getD 0 0, l.getD 1 0, l.getD 2 0, l.getD 3 0, l.getD 4 0, l.getD 5 0, l.getD 6 0, l.getD 7 0⟩
theorem S8.of_list {l : List Nat} (h : l.length = 8) : (S8.of l).list = l := by
  match l, h with
  | [_, _, _, _, _, _, _, _], _ => rfl
theorem S8.of_ok {l : List Nat} (h : ∀ x ∈ l, x < 4294967296) : (S8.of l).ok :=
  ⟨getD_lt h (by decide) _, getD_lt h (by decide) _, getD_lt h (by decide) _, getD_lt h (by decide) _, getD_lt h (by decide) _, getD_lt h (by decide) _, getD_lt h (by decide) _, getD_lt h (by decide) _⟩
/-- a block mixed into eight words -/
def mixed (hl : List Nat) (B : Nat → Nat) : List Nat := addTo hl (rnds (fun i => stdK.getD i 0) (fun i => (wl B 64).getD i 0) (S8.of hl) 64).list 8
theorem mixed_length (hl : List Nat) (B : Nat → Nat) : (mixed hl B).length = 8 := addTo_length _ _ _
theorem addTo_lt {x : List Nat} (y : List Nat) : ∀ v ∈ addTo x y 8, v < 4294967296 := by
  intro v hv
  simp only [addTo, List.mem_map, List.mem_range] at hv
  obtain ⟨j, hj, rfl⟩ := hv
  rw [if_pos hj]
  exact Nat.mod_lt _ (by decide)
theorem mixed_lt (hl : List Nat) (B : Nat → Nat) : ∀ v ∈ mixed hl B, v < 4294967296 := addTo_lt _
theorem flip_same {P : Program} {f : FuncId} {args : Array Value} {w : World} {v : Value} (h : Calls P f args w fun e w' => e = .returned v ∧ w = w') : Calls P f args w fun e w'' => e = .returned v ∧ w'' = w :=
  h.mono fun _ _ ⟨he, hw⟩ => ⟨he, hw.symm⟩
/-- the eight words behind the first k blocks of m -/
def hstN (m : List Nat) : Nat → List Nat
  | 0 => stdH
  | k + 1 => mixed (hstN m k) fun i => m.getD (64 * k + i) 0
theorem hstN_length (m : List Nat) : ∀ k, (hstN m k).length = 8
  | 0 => rfl
  | _ + 1 => mixed_length _ _
theorem hstN_lt (m : List Nat) : ∀ k, ∀ x ∈ hstN m k, x < 4294967296
  | 0 => by
    intro x hx
    have := List.all_eq_true.1 (show stdH.all (fun x => decide (x < 4294967296)) = true by decide +kernel) x hx
    simpa using this
  | _ + 1 => mixed_lt _ _
/-- how many noughts go behind the byte 80 -/
def zs (n : Nat) : Nat := (119 - n % 64) % 64
/-- a number's eight bytes, the greatest first -/
def be8 (n : Nat) : List Nat := (List.range 8).map fun i => n / 256 ^ (7 - i) % 256
def padMsg (m : List Nat) : List Nat := m ++ [128] ++ List.replicate (zs m.length) 0 ++ be8 (m.length * 8)
theorem be8_length (n : Nat) : (be8 n).length = 8 := by simp [be8]
theorem be8_lt (n : Nat) : ∀ x ∈ be8 n, x < 256 := by
  intro x hx
  simp only [be8, List.mem_map] at hx
  obtain ⟨i, _, rfl⟩ := hx
  exact Nat.mod_lt _ (by decide)
theorem zs_lt (n : Nat) : zs n < 64 := Nat.mod_lt _ (by decide)
theorem zs_mod (n : Nat) : (n + 1 + zs n) % 64 = 56 := by unfold zs; omega
theorem zs_least (n k : Nat) (h : k < zs n) : (n + 1 + k) % 64 ≠ 56 := by unfold zs at h; omega
theorem byteInfo : (Try.prog.info? 5).map (fun i => (i.zero, i.size, i.bytes)) = some (some (.int .u8 0), 1, 1) := by kernel_rfl
/-- the digest of the bytes m, as numbers -/
def dgst (m : List Nat) : List Nat := (hstN (padMsg m) ((padMsg m).length / 64)).flatMap by4
/-- the digest as a string -/
def SHA (m : List Nat) : ByteArray := strN (dgst m)
theorem flat_len (l : List Nat) : (l.flatMap by4).length = 4 * l.length := by
  induction l with
  | nil => rfl
  | cons x r ih => rw [List.flatMap_cons, List.length_append, ih, List.length_cons]; simp [by4]; omega
theorem flat_take (l : List Nat) (k : Nat) (h : k < l.length) : (l.take (k + 1)).flatMap by4 = (l.take k).flatMap by4 ++ by4 (l.getD k 0) := by
  rw [List.take_succ_eq_append_getElem h, List.flatMap_append]
  simp [List.getD_eq_getElem?_getD, List.getElem?_eq_getElem h]
def U64 (n : Nat) : Value := .int .u64 (n : Int)
def refKV : Array Value := (stdK.map U64).toArray
def refHV : Array Value := (stdH.map U64).toArray
def zero64 : Array Value := Array.replicate 64 (U64 0)
def zero8 : Array Value := Array.replicate 8 (U64 0)
theorem zero64_run (w : World) : (zeroValue 72).run Try.prog w = .ok (.agg zero64) w := by kernel_rfl
theorem zero8_run (w : World) : (zeroValue 74).run Try.prog w = .ok (.agg zero8) w := by kernel_rfl
theorem info64 : (Try.prog.info? 72).map (·.size) = some 64 := by kernel_rfl
theorem info8 : (Try.prog.info? 74).map (·.size) = some 8 := by kernel_rfl
set_option maxRecDepth 100000 in
set_option maxHeartbeats 400000 in
theorem refK_any (w : World) : Calls Try.prog 40 #[] w fun e w' => e = .returned (.agg refKV) ∧ w.alloc (.cells refKV 72) = w' := by
  have h1 := zero64_run
  go_enter Try.func40, Try.ntmps40
  go_wp2_with (first
    | (refine wpList_build_as rfl 72 _ rfl refKV (by kernel_rfl) ?_)
    | (refine wpList_store_row rfl 72 _ _ rfl w.heap.size refKV rfl rfl 72 zero64 (Blk.new _ _ _) (by kernel_rfl) (by kernel_rfl) (by kernel_rfl) ?_))
  rw [World.setRow_alloc_new]
  exact bodyPost_ret (results_cell_row rfl _ _ w.heap.size 72 refKV (0, 0) _ rfl (Blk.new _ _ _) Try.underlying72 rfl (by kernel_rfl)) rfl ⟨rfl, rfl⟩
set_option maxRecDepth 100000 in
set_option maxHeartbeats 400000 in
theorem refH_any (w : World) : Calls Try.prog 41 #[] w fun e w' => e = .returned (.agg refHV) ∧ w.alloc (.cells refHV 74) = w' := by
  have h1 := zero8_run
  go_enter Try.func41, Try.ntmps41
  go_wp2_with (first
    | (refine wpList_build_as rfl 74 _ rfl refHV (by kernel_rfl) ?_)
    | (refine wpList_store_row rfl 74 _ _ rfl w.heap.size refHV rfl rfl 74 zero8 (Blk.new _ _ _) (by kernel_rfl) (by kernel_rfl) (by kernel_rfl) ?_))
  rw [World.setRow_alloc_new]
  exact bodyPost_ret (results_cell_row rfl _ _ w.heap.size 74 refHV (0, 0) _ rfl (Blk.new _ _ _) Try.underlying74 rfl (by kernel_rfl)) rfl ⟨rfl, rfl⟩
theorem ret_u64 {a b : Int} (h : a = b) : Ending.returned (.int .u64 a) = .returned (.int .u64 b) := by rw [h]
theorem right_num (x n : Nat) (hx : x < 4294967296) (hn : n ≤ 32) : (x * 4294967296 + x) / 2 ^ n % 4294967296 = rotr x n := by
  have e : (4294967296 : Nat) = 2 ^ (32 - n) * 2 ^ n := by rw [← Nat.pow_add, show 32 - n + n = 32 by omega]
  have h1 : (x * 4294967296 + x) / 2 ^ n = x * 2 ^ (32 - n) + x / 2 ^ n := by
    rw [e, ← Nat.mul_assoc, Nat.mul_comm (x * 2 ^ (32 - n)) (2 ^ n), Nat.mul_add_div (Nat.two_pow_pos n)]
  have e' : (4294967296 : Nat) = 2 ^ n * 2 ^ (32 - n) := by rw [Nat.mul_comm]; exact e
  have h2 : x * 2 ^ (32 - n) % 4294967296 = x % 2 ^ n * 2 ^ (32 - n) := by rw [e', Nat.mul_mod_mul_right]
  have h3 := rotr_lt x n hx hn
  rw [h1, Nat.add_mod, h2]
  have h4 : x / 2 ^ n < 4294967296 := Nat.lt_of_le_of_lt (Nat.div_le_self _ _) hx
  rw [Nat.mod_eq_of_lt h4]
  have h5 : x % 2 ^ n * 2 ^ (32 - n) + x / 2 ^ n = rotr x n := by unfold rotr; omega
  rw [h5, Nat.mod_eq_of_lt h3]
set_option maxHeartbeats 400000 in
theorem rotr_any (x n : Nat) (hx : x < 4294967296) (hn : n < 32) (w : World) : Calls Try.prog 53 #[.int .u64 x, .int .u64 n] w fun e w' => e = .returned (.int .u64 (rotr x n : Nat)) ∧ w = w' := by
  have HR := Lib.hid (right_num x n hx (by omega))
  have hn' : (n : Int) < 64 := by omega
  go_enter Try.func53, Try.ntmps53
  go_wp2
  go_ret
  refine ⟨ret_u64 ?_, rfl⟩
  rw [← HR.out]
  have e : ((x : Int) * 4294967296 + (x : Int)) / 2 ^ n = (((x * 4294967296 + x) / 2 ^ n : Nat) : Int) := by simp
  rw [e, Int.tmod_eq_emod_of_nonneg (Int.natCast_nonneg _)]
  simp
/-- j bytes of word n put together -/
def part (B : Nat → Nat) (n : Nat) : Nat → Nat
  | 0 => 0
  | j + 1 => part B n j * 256 + B (4 * n + j)
theorem part_four (B : Nat → Nat) (n : Nat) : part B n 4 = wd B n := by
  simp only [part, wd, Nat.add_zero]
  omega
theorem pow_lt_of {B : Nat → Nat} (h : ∀ i, B i < 256) (n : Nat) : ∀ j, part B n j < 256 ^ j
  | 0 => by simp [part]
  | j + 1 => by
    have := pow_lt_of h n j
    have hb := h (4 * n + j)
    show part B n j * 256 + B (4 * n + j) < 256 ^ j * 256
    omega
theorem part_lt4 {B : Nat → Nat} (h : ∀ i, B i < 256) (n j : Nat) (hj : j ≤ 4) : part B n j < 4294967296 :=
  Nat.lt_of_lt_of_le (pow_lt_of h n j) (by show 256 ^ j ≤ 256 ^ 4; exact Nat.pow_le_pow_right (by decide) hj)
theorem padded_set_self (f : Nat → Value) {m : Nat} {l : List Nat} (h : l.length < m) : (padded f m l).setIfInBounds l.length (f 0) = padded f m l := by
  rw [padded_set f h 0]
  unfold padded
  congr 2
  rw [List.append_assoc, List.length_append, List.length_cons, List.length_nil]
  congr 1
  rw [show m - l.length = (m - (l.length + (0 + 1))) + 1 by omega, List.replicate_succ]
  rfl
/-- eight words, those behind j moved one on -/
def shf (l : List Nat) (j : Nat) : List Nat := (List.range 8).map fun i => if j < i then l.getD (i - 1) 0 else l.getD i 0
theorem shf_length (l : List Nat) (j : Nat) : (shf l j).length = 8 := by simp [shf]
theorem shf_seven {l : List Nat} (h : l.length = 8) : shf l 7 = l := by
  match l, h with
  | [_, _, _, _, _, _, _, _], _ => rfl
theorem shf_at (l : List Nat) (j : Nat) (h : j < 8) (h0 : 0 < j) : (shf l j).getD (j - 1) 0 = l.getD (j - 1) 0 := by
  simp [shf, List.getD_eq_getElem?_getD, show j - 1 < 8 by omega, show ¬ j < j - 1 by omega]
theorem shf_set (l : List Nat) (j : Nat) (h : j < 8) (h0 : 0 < j) : (shf l j).set j (l.getD (j - 1) 0) = shf l (j - 1) := by
  apply List.ext_getElem?
  intro i
  rw [List.getElem?_set]
  simp only [shf, List.getElem?_map, List.length_map, List.length_range]
  by_cases hi : i < 8
  · by_cases e : j = i
    · subst e; simp [hi, show j - 1 < j by omega]
    · simp only [e, if_false, List.getElem?_range, hi]
      by_cases h2 : j < i
      · simp [h2, show j - 1 < i by omega]
      · simp [h2, show ¬ j - 1 < i by omega]
  · simp [List.getElem?_eq_none (show (List.range 8).length ≤ i by simp; omega)]
    omega
theorem shf_zero (s : S8) : shf s.list 0 = [s.a, s.a, s.b, s.c, s.d, s.e, s.f, s.g] := rfl
theorem rnd_list (s : S8) (k w x y : Nat) (hx : x = (s.d + tOne s k w) % 4294967296) (hy : y = (tOne s k w + tTwo s) % 4294967296) : ((shf s.list 0).set 4 x).set 0 y = (rnd s k w).list := by
  subst hx hy
  rfl
/-- the reference's majority, by ors -/
theorem mjr_or (x y z : Nat) : (x &&& y) ||| (x &&& z) ||| (y &&& z) = mjr x y z := by
  unfold mjr
  apply Nat.eq_of_testBit_eq
  intro i
  simp only [Nat.testBit_or, Nat.testBit_and, Nat.testBit_xor]
  cases x.testBit i <;> cases y.testBit i <;> cases z.testBit i <;> rfl
def uA (l : List Nat) : Array Value := (l.map U64).toArray
theorem z64u : zero64 = padded U64 64 [] := by rw [padded_nil]; rfl
theorem uA_size {l : List Nat} (h : l.length = 8) : (uA l).size = 8 := by simp [uA, h]
theorem uA_at {l : List Nat} {i : Nat} (h : i < l.length) : (uA l)[i]? = some (.int .u64 ((l.getD i 0 : Nat) : Int)) := map_at (f := U64) h
theorem uA_set (l : List Nat) (i x : Nat) : (uA l).setIfInBounds i (U64 x) = uA (l.set i x) := by
  unfold uA
  rw [List.setIfInBounds_toArray, List.map_set]
/-- the blocks that the words' loop leaves alone -/
def Base (hl : List Nat) (w wr : World) : Prop := Blk wr w.heap.size 72 refKV ∧ Blk wr (w.heap.size + 1) 74 (uA hl) ∧ Blk wr (w.heap.size + 1 + 1) 74 zero8 ∧ Below w.heap.size w wr
theorem Base.drew {hl : List Nat} {w wr : World} (h : Base hl w wr) : Base hl w wr.drew := ⟨h.1, h.2.1, h.2.2.1, h.2.2.2.drew⟩
theorem Base.drewN {hl : List Nat} {w wr : World} (h : Base hl w wr) (n : Nat) : Base hl w (wr.drewN n) := ⟨h.1, h.2.1, h.2.2.1, below_drewN h.2.2.2 n⟩
theorem Base.set {hl : List Nat} {w wr : World} (h : Base hl w wr) (i : Nat) (v : Value) : Base hl w (wr.setCell ⟨w.heap.size + 1 + 1 + 1, i, none⟩ v) :=
  ⟨h.1.far (by show w.heap.size ≠ w.heap.size + 1 + 1 + 1; omega) _, h.2.1.far (by show w.heap.size + 1 ≠ w.heap.size + 1 + 1 + 1; omega) _, h.2.2.1.far (by show w.heap.size + 1 + 1 ≠ w.heap.size + 1 + 1 + 1; omega) _, h.2.2.2.setCell (p := ⟨w.heap.size + 1 + 1 + 1, i, none⟩) (by show w.heap.size ≤ w.heap.size + 1 + 1 + 1; omega) _⟩
theorem Base.alloc {hl : List Nat} {w wr : World} (h : Base hl w wr) (o : Obj) : Base hl w (wr.alloc o) := ⟨h.1.alloc _, h.2.1.alloc _, h.2.2.1.alloc _, h.2.2.2.alloc h.2.2.2.size _⟩
theorem Base.size_ge {hl : List Nat} {w wr : World} (_ : Base hl w wr) {T : Array Value} {t : TypeId} (hw : Blk wr (w.heap.size + 1 + 1 + 1) t T) : w.heap.size + 1 + 1 + 1 + 1 ≤ wr.heap.size := hw.lt
theorem Base.far {hl : List Nat} {w wr : World} (h : Base hl w wr) {g : Nat} (hg : w.heap.size + 1 + 1 + 1 + 1 ≤ g) (i : Nat) (v : Value) : Base hl w (wr.setCell ⟨g, i, none⟩ v) :=
  ⟨h.1.far (by show w.heap.size ≠ g; omega) _, h.2.1.far (by show w.heap.size + 1 ≠ g; omega) _, h.2.2.1.far (by show w.heap.size + 1 + 1 ≠ g; omega) _, h.2.2.2.setCell (p := ⟨g, i, none⟩) (by show w.heap.size ≤ g; omega) _⟩
theorem uA_one (l : List Nat) : (uA l).all (·.oneCell') = true := by
  rw [Array.all_eq_true_iff_forall_mem]
  intro v hv
  unfold uA at hv
  rw [List.mem_toArray, List.mem_map] at hv
  obtain ⟨x, _, rfl⟩ := hv
  rfl
theorem lt64 {a : Nat} (h : a < 4294967296) : a < 18446744073709551616 := by omega
theorem sch_spell (x2 x7 x15 x16 : Nat) (d2 : x2 < 4294967296) (_ : x7 < 4294967296) (d15 : x15 < 4294967296) (_ : x16 < 4294967296) :
    (IntKind.u64.wrap (IntKind.u64.wrap ((x16 : Int) + (x7 : Int) + bits BinOp.xor .u64 (bits BinOp.xor .u64 ((rotr x15 7 : Nat) : Int) ((rotr x15 18 : Nat) : Int)) ((x15 : Int) / 8)) + bits BinOp.xor .u64 (bits BinOp.xor .u64 ((rotr x2 17 : Nat) : Int) ((rotr x2 19 : Nat) : Int)) ((x2 : Int) / 1024))).tmod 4294967296 =
      (((sS1 x2 + x7 + sS0 x15 + x16) % 4294967296 : Nat) : Int) := by
  have a1 := rotr_lt x15 7 d15 (by omega)
  have a2 := rotr_lt x15 18 d15 (by omega)
  have a3 := rotr_lt x2 17 d2 (by omega)
  have a4 := rotr_lt x2 19 d2 (by omega)
  have e1 : bits BinOp.xor .u64 (bits BinOp.xor .u64 ((rotr x15 7 : Nat) : Int) ((rotr x15 18 : Nat) : Int)) ((x15 : Int) / 8) = ((sS0 x15 : Nat) : Int) := by
    rw [show (x15 : Int) / 8 = ((x15 / 8 : Nat) : Int) by omega, u64_xor_nat _ _ (lt64 a1) (lt64 a2), u64_xor_nat _ _ (lt64 (xor_lt a1 a2)) (by omega)]; rfl
  have e2 : bits BinOp.xor .u64 (bits BinOp.xor .u64 ((rotr x2 17 : Nat) : Int) ((rotr x2 19 : Nat) : Int)) ((x2 : Int) / 1024) = ((sS1 x2 : Nat) : Int) := by
    rw [show (x2 : Int) / 1024 = ((x2 / 1024 : Nat) : Int) by omega, u64_xor_nat _ _ (lt64 a3) (lt64 a4), u64_xor_nat _ _ (lt64 (xor_lt a3 a4)) (by omega)]; rfl
  have b1 := sS0_lt x15 d15
  have b2 := sS1_lt x2 d2
  rw [e1, e2, IntKind.wrap_u64, IntKind.wrap_u64, Int.tmod_eq_emod_of_nonneg (by omega)]
  omega
theorem rt2 (x : Nat) (hx : x < 4294967296) (w : World) : Calls Try.prog 53 #[.int .u64 x, .int .u64 2] w fun e w' => e = .returned (.int .u64 (rotr x 2 : Nat)) ∧ w = w' := rotr_any x 2 hx (by omega) w
theorem rt6 (x : Nat) (hx : x < 4294967296) (w : World) : Calls Try.prog 53 #[.int .u64 x, .int .u64 6] w fun e w' => e = .returned (.int .u64 (rotr x 6 : Nat)) ∧ w = w' := rotr_any x 6 hx (by omega) w
theorem rt11 (x : Nat) (hx : x < 4294967296) (w : World) : Calls Try.prog 53 #[.int .u64 x, .int .u64 11] w fun e w' => e = .returned (.int .u64 (rotr x 11 : Nat)) ∧ w = w' := rotr_any x 11 hx (by omega) w
theorem rt13 (x : Nat) (hx : x < 4294967296) (w : World) : Calls Try.prog 53 #[.int .u64 x, .int .u64 13] w fun e w' => e = .returned (.int .u64 (rotr x 13 : Nat)) ∧ w = w' := rotr_any x 13 hx (by omega) w
theorem rt22 (x : Nat) (hx : x < 4294967296) (w : World) : Calls Try.prog 53 #[.int .u64 x, .int .u64 22] w fun e w' => e = .returned (.int .u64 (rotr x 22 : Nat)) ∧ w = w' := rotr_any x 22 hx (by omega) w
theorem rt25 (x : Nat) (hx : x < 4294967296) (w : World) : Calls Try.prog 53 #[.int .u64 x, .int .u64 25] w fun e w' => e = .returned (.int .u64 (rotr x 25 : Nat)) ∧ w = w' := rotr_any x 25 hx (by omega) w
theorem cho64 (x y z : Nat) (hx : x < 4294967296) (hy : y < 4294967296) (hz : z < 4294967296) : bits BinOp.xor .u64 (bits BinOp.and .u64 (x : Int) (y : Int)) (bits BinOp.and .u64 (4294967295 - (x : Int)) (z : Int)) = ((cho x y z : Nat) : Int) := by
  rw [show (4294967295 - (x : Int)) = ((4294967295 - x : Nat) : Int) by omega, u64_and_nat _ _ (lt64 hx) (lt64 hy), u64_and_nat _ _ (by omega) (lt64 hz), u64_xor_nat _ _ (lt64 (and_lt _ hx)) (lt64 (and_lt _ (by omega)))]
  rfl
theorem or_lt32 {a b : Nat} (ha : a < 4294967296) (hb : b < 4294967296) : a ||| b < 4294967296 := Nat.or_lt_two_pow (n := 32) ha hb
theorem mjr64 (x y z : Nat) (hx : x < 4294967296) (hy : y < 4294967296) (hz : z < 4294967296) : bits BinOp.or .u64 (bits BinOp.or .u64 (bits BinOp.and .u64 (x : Int) (y : Int)) (bits BinOp.and .u64 (x : Int) (z : Int))) (bits BinOp.and .u64 (y : Int) (z : Int)) = ((mjr x y z : Nat) : Int) := by
  rw [u64_and_nat _ _ (lt64 hx) (lt64 hy), u64_and_nat _ _ (lt64 hx) (lt64 hz), u64_and_nat _ _ (lt64 hy) (lt64 hz), u64_or_nat _ _ (lt64 (and_lt _ hx)) (lt64 (and_lt _ hx)), u64_or_nat _ _ (lt64 (or_lt32 (and_lt _ hx) (and_lt _ hx))) (lt64 (and_lt _ hy)), mjr_or]
theorem t1_spell (h e c k w : Nat) (he : e < 4294967296) (hh : h < 4294967296) (hc : c < 4294967296) (hk : k < 4294967296) (hw : w < 4294967296) :
    IntKind.u64.wrap (IntKind.u64.wrap (IntKind.u64.wrap (IntKind.u64.wrap ((h : Int) + bits BinOp.xor .u64 (bits BinOp.xor .u64 ((rotr e 6 : Nat) : Int) ((rotr e 11 : Nat) : Int)) ((rotr e 25 : Nat) : Int)) + (c : Int)) + (k : Int)) + (w : Int)) = ((h + bS1 e + c + k + w : Nat) : Int) := by
  have a1 := rotr_lt e 6 he (by omega)
  have a2 := rotr_lt e 11 he (by omega)
  have a3 := rotr_lt e 25 he (by omega)
  have e1 : bits BinOp.xor .u64 (bits BinOp.xor .u64 ((rotr e 6 : Nat) : Int) ((rotr e 11 : Nat) : Int)) ((rotr e 25 : Nat) : Int) = ((bS1 e : Nat) : Int) := by
    rw [u64_xor_nat _ _ (lt64 a1) (lt64 a2), u64_xor_nat _ _ (lt64 (xor_lt a1 a2)) (lt64 a3)]; rfl
  have b1 := bS1_lt e he
  rw [e1, IntKind.wrap_u64, IntKind.wrap_u64, IntKind.wrap_u64, IntKind.wrap_u64]
  omega
theorem t2_spell (a j : Nat) (ha : a < 4294967296) (hj : j < 4294967296) :
    IntKind.u64.wrap (bits BinOp.xor .u64 (bits BinOp.xor .u64 ((rotr a 2 : Nat) : Int) ((rotr a 13 : Nat) : Int)) ((rotr a 22 : Nat) : Int) + (j : Int)) = ((bS0 a + j : Nat) : Int) := by
  have a1 := rotr_lt a 2 ha (by omega)
  have a2 := rotr_lt a 13 ha (by omega)
  have a3 := rotr_lt a 22 ha (by omega)
  have e1 : bits BinOp.xor .u64 (bits BinOp.xor .u64 ((rotr a 2 : Nat) : Int) ((rotr a 13 : Nat) : Int)) ((rotr a 22 : Nat) : Int) = ((bS0 a : Nat) : Int) := by
    rw [u64_xor_nat _ _ (lt64 a1) (lt64 a2), u64_xor_nat _ _ (lt64 (xor_lt a1 a2)) (lt64 a3)]; rfl
  have b1 := bS0_lt a ha
  rw [e1, IntKind.wrap_u64]
  omega
theorem byte_spell (p b : Nat) (hp : p < 4294967296) (hb : b < 256) : IntKind.u64.wrap (IntKind.u64.wrap ((p : Int) * 256) + IntKind.u64.wrap (b : Int)) = ((p * 256 + b : Nat) : Int) := by
  rw [IntKind.wrap_u64, IntKind.wrap_u64, IntKind.wrap_u64]; omega
set_option maxRecDepth 100000 in
set_option maxHeartbeats 2000000 in
theorem block_any (hl : List Nat) (h8 : hl.length = 8) (hlt : ∀ x ∈ hl, x < 4294967296) (bb o c : Nat) (B : Nat → Nat) (hB8 : ∀ i, B i < 256) (w : World) (bl : bb < w.heap.size)
    (cb : ∀ i, i < 64 → w.cell? ⟨bb, o + i, none⟩ = some (.int .u8 (B i : Nat))) :
    Calls Try.prog 42 #[.agg refKV, .agg (uA hl), .slice (some ⟨bb, o, none⟩) 64 c] w fun e w' => e = .returned (.agg (uA (mixed hl B))) ∧ Below w.heap.size w w' := by
  have hz := zero64_run
  have hz8 := zero8_run
  have CB := Lib.hid cb
  clear cb
  go_enter Try.func42, Try.ntmps42
  go_wp2
  obtain ⟨W0, hW0⟩ : ∃ W0, (((w.alloc (Obj.cells refKV 72)).alloc (Obj.cells (uA hl) 74)).alloc (Obj.cells zero8 74)).alloc (Obj.cells zero64 72) = W0 := ⟨_, rfl⟩
  rw [hW0]
  have hbase : Base hl w W0 := by
    rw [← hW0]
    exact ⟨(((Blk.new_at rfl).alloc _).alloc _).alloc _, ((Blk.new_at (by simp)).alloc _).alloc _, (Blk.new_at (by simp)).alloc _,
      ((((Below.refl _ w).alloc (Nat.le_refl _) _).alloc (by simp) _).alloc (by simp; omega) _).alloc (by simp; omega) _⟩
  have hw0 : Blk W0 (w.heap.size + 1 + 1 + 1) 72 (padded U64 64 (wl B 0)) := by
    rw [← hW0, show wl B 0 = [] from rfl, ← z64u]; exact Blk.new_at (by simp)
  clear hW0
  go_loopw [8] (fun i wr => ∃ n : Nat, n ≤ 64 ∧ i = .int .i64 n ∧ Base hl w wr ∧ Blk wr (w.heap.size + 1 + 1 + 1) 72 (padded U64 64 (wl B n))) (fun i _ => 64 - (intOf i).toNat)
  case atStart => exact ⟨0, by omega, rfl, hbase, hw0⟩
  case round =>
    clear hbase hw0
    obtain ⟨n, hn, rfl, hbase, hw⟩ := hrel
    by_cases hn64 : n < 64
    · have hn64' : (n : Int) < 64 := by omega
      by_cases hn16 : n < 16
      · have hn16' : (n : Int) < 16 := by omega
        obtain ⟨wo, rfl⟩ : ∃ wo : World, wo = wr := ⟨_, rfl⟩
        go_wp2
        go_loopw [9] (fun j wr => ∃ k : Nat, k ≤ 4 ∧ j = .int .i64 k ∧ Base hl w wr ∧ Blk wr (w.heap.size + 1 + 1 + 1) 72 ((padded U64 64 (wl B n)).setIfInBounds n (U64 (part B n k)))) (fun j _ => 4 - (intOf j).toNat)
        case atStart =>
          refine ⟨0, by omega, rfl, hbase, ?_⟩
          have e := padded_set_self U64 (m := 64) (l := wl B n) (by rw [wl_length]; omega)
          rw [wl_length] at e
          show Blk _ _ _ ((padded U64 64 (wl B n)).setIfInBounds n (U64 0))
          rw [e]
          exact hw
        case round =>
          clear hbase hw
          obtain ⟨k, hk, rfl, hb2, hw2⟩ := hrel
          by_cases hk4 : k < 4
          · have hk4' : (k : Int) < 4 := by omega
            have hlen := wl_length B n
            have hp := part_lt4 hB8 n k hk
            have hb := hB8 (4 * n + k)
            have c0 : wr.cell? ⟨w.heap.size + 1 + 1 + 1, n, none⟩ = some (.int .u64 (part B n k : Nat)) := by
              rw [hw2.cell, Array.getElem?_setIfInBounds_self_of_lt (by rw [padded_size U64 (by omega)]; exact hn64)]
              rfl
            have f0 := hw2.frozen n
            have c1 : wr.cell? ⟨bb, o + (4 * n + k), none⟩ = some (.int .u8 (B (4 * n + k) : Nat)) := (hb2.2.2.2.cell (p := ⟨bb, _, none⟩) bl).trans (CB.out (4 * n + k) (by omega))
            have e1 : IntKind.i64.wrap (4 * (n : Int)) = 4 * (n : Int) := by rw [IntKind.wrap_i64]; omega
            have e2 : IntKind.i64.wrap (4 * (n : Int) + (k : Int)) = 4 * (n : Int) + (k : Int) := by rw [IntKind.wrap_i64]; omega
            have e3 : 4 * (n : Int) + (k : Int) < 64 := by omega
            have e4 : 0 ≤ 4 * (n : Int) + (k : Int) := by omega
            have e5 : (4 * (n : Int) + (k : Int)).toNat = 4 * n + k := by omega
            have HP := Lib.hid (show part B n (k + 1) = part B n k * 256 + B (4 * n + k) from rfl)
            have HS := Lib.hid (byte_spell (part B n k) (B (4 * n + k)) hp hb)
            have HL := Lib.hid hlen
            clear hlen
            generalize hpk : part B n k = pk at *
            generalize B (4 * n + k) = bk at *
            clear hpk
            go_wp2
            go_still_tail 15, (by kernel_rfl)
            change wpList _ _ _ _ _ wr.drew
            clear e1 e2 e5
            obtain ⟨w5, hw5⟩ : ∃ w5, wr.drew = w5 := ⟨_, rfl⟩
            rw [hw5]
            have hb5 : Base hl w w5 := by rw [← hw5]; exact hb2.drew
            have hw5b : Blk w5 (w.heap.size + 1 + 1 + 1) 72 ((padded U64 64 (wl B n)).setIfInBounds n (U64 pk)) := by rw [← hw5]; exact hw2.drew
            have c5 : w5.cell? ⟨w.heap.size + 1 + 1 + 1, n, none⟩ = some (.int .u64 (pk : Nat)) := by rw [← hw5]; exact c0
            have f5 : w5.frozen? ⟨w.heap.size + 1 + 1 + 1, n, none⟩ = false := by rw [← hw5]; exact f0
            clear hw5 c0 f0 c1
            rw [HS.out]
            obtain ⟨y, hy⟩ : ∃ y, pk * 256 + bk = y := ⟨_, rfl⟩
            rw [hy]
            have HY := Lib.hid hy
            clear hy
            go_wp2
            go_roundw
            case rel =>
              refine ⟨k + 1, by omega, by go_num, hb5.set _ _, ?_⟩
              rw [HP.out, HY.out]
              have := hw5b.set_ n (U64 y)
              rw [Array.setIfInBounds_setIfInBounds] at this
              exact this
            case measure => simp [intOf]; omega
          · obtain rfl : k = 4 := by omega
            have HW := Lib.hid (show wl B (n + 1) = wl B n ++ [wd B n] by show wl B n ++ [wnext B (wl B n) n] = _; unfold wnext; rw [if_pos hn16])
            have HE := Lib.hid (padded_set U64 (m := 64) (l := wl B n) (by rw [wl_length]; omega) (wd B n))
            have HP := Lib.hid (part_four B n)
            have HL := Lib.hid (wl_length B n)
            clear hk4
            go_wp2
            go_roundw
            case rel =>
              refine ⟨n + 1, by omega, by go_num, hb2, ?_⟩
              rw [HW.out]
              have e := HE.out
              rw [HL.out] at e
              rw [← e, ← HP.out]
              exact hw2
            case measure => simp [intOf]; omega
      · obtain ⟨m, rfl⟩ : ∃ m, n = 16 + m := ⟨n - 16, by omega⟩
        clear hn64'
        have t64 : 16 + (m : Int) < 64 := by omega
        have t16 : ¬ 16 + (m : Int) < 16 := by omega
        clear hn16 hn
        have ecast : ((16 + m : Nat) : Int) = 16 + (m : Int) := by omega
        rw [ecast]
        clear ecast
        have hl' := wl_length B (16 + m)
        have hlt' := wl_lt hB8 (16 + m)
        have c2 := (hw.cell (14 + m)).trans (padded_at U64 (by omega))
        have c7 := (hw.cell (9 + m)).trans (padded_at U64 (by omega))
        have c15 := (hw.cell (1 + m)).trans (padded_at U64 (by omega))
        have c16 := (hw.cell m).trans (padded_at U64 (by omega))
        have d2 := getD_lt hlt' (by decide) (14 + m)
        have d7 := getD_lt hlt' (by decide) (9 + m)
        have d15 := getD_lt hlt' (by decide) (1 + m)
        have d16 := getD_lt hlt' (by decide) m
        have HW := Lib.hid (show wl B (16 + m + 1) = wl B (16 + m) ++ [(sS1 ((wl B (16 + m)).getD (14 + m) 0) + (wl B (16 + m)).getD (9 + m) 0 + sS0 ((wl B (16 + m)).getD (1 + m) 0) + (wl B (16 + m)).getD m 0) % 4294967296] by
          show wl B (16 + m) ++ [wnext B (wl B (16 + m)) (16 + m)] = _
          unfold wnext
          rw [if_neg (by omega), show 16 + m - 2 = 14 + m by omega, show 16 + m - 7 = 9 + m by omega, show 16 + m - 15 = 1 + m by omega, show 16 + m - 16 = m by omega])
        obtain ⟨ov, hov⟩ := padded_there U64 (m := 64) (l := wl B (16 + m)) (by omega) (show 16 + m < 64 by omega)
        have q1 : wr.cell? ⟨w.heap.size + 1 + 1 + 1, 16 + m, none⟩ = some ov := (hw.cell (16 + m)).trans hov
        have q2 := hw.frozen (16 + m)
        have HL := Lib.hid hl'
        clear hl' hov hlt'
        generalize (wl B (16 + m)).getD (14 + m) 0 = x2 at *
        generalize (wl B (16 + m)).getD (9 + m) 0 = x7 at *
        generalize (wl B (16 + m)).getD (1 + m) 0 = x15 at *
        generalize (wl B (16 + m)).getD m 0 = x16 at *
        unfold U64 at c2 c7 c15 c16
        have k2 : IntKind.i64.wrap (16 + (m : Int) - 2) = 14 + (m : Int) := by rw [IntKind.wrap_i64]; omega
        have k7 : IntKind.i64.wrap (16 + (m : Int) - 7) = 9 + (m : Int) := by rw [IntKind.wrap_i64]; omega
        have k15 : IntKind.i64.wrap (16 + (m : Int) - 15) = 1 + (m : Int) := by rw [IntKind.wrap_i64]; omega
        have k16 : IntKind.i64.wrap (16 + (m : Int) - 16) = (m : Int) := by rw [IntKind.wrap_i64]; omega
        have l2 : 14 + (m : Int) < 64 := by omega
        have l7 : 9 + (m : Int) < 64 := by omega
        have l15 : 1 + (m : Int) < 64 := by omega
        have l16 : (m : Int) < 64 := by omega
        have p2 : 0 ≤ 14 + (m : Int) := by omega
        have p7 : 0 ≤ 9 + (m : Int) := by omega
        have p15 : 0 ≤ 1 + (m : Int) := by omega
        have p0 : 0 ≤ 16 + (m : Int) := by omega
        have t2 : (14 + (m : Int)).toNat = 14 + m := by omega
        have t7 : (9 + (m : Int)).toNat = 9 + m := by omega
        have t15 : (1 + (m : Int)).toNat = 1 + m := by omega
        have t0 : (16 + (m : Int)).toNat = 16 + m := by omega
        go_wp2
        go_quiet (fail)
        go_wp2
        refine wp_region_still_tail 30 (by kernel_rfl) (by kernel_rfl) ?_
        simp only [List.take_succ_cons, List.take_zero, List.drop_succ_cons, List.drop_zero]
        change wpStill _ _ (wr.drewN nq).drew (fun a' => wpList _ _ _ _ a' (wr.drewN nq).drew) _ _
        obtain ⟨w4, hw4⟩ : ∃ w4, (wr.drewN nq).drew = w4 := ⟨_, rfl⟩
        rw [hw4]
        have hb4 : Base hl w w4 := by rw [← hw4]; exact (hbase.drewN _).drew
        have hw4b : Blk w4 (w.heap.size + 1 + 1 + 1) 72 (padded U64 64 (wl B (16 + m))) := by rw [← hw4]; exact hw
        have r7 : w4.cell? ⟨w.heap.size + 1 + 1 + 1, 9 + m, none⟩ = some (.int .u64 (x7 : Nat)) := by rw [← hw4]; exact c7
        have r16 : w4.cell? ⟨w.heap.size + 1 + 1 + 1, m, none⟩ = some (.int .u64 (x16 : Nat)) := by rw [← hw4]; exact c16
        have s1 : w4.cell? ⟨w.heap.size + 1 + 1 + 1, 16 + m, none⟩ = some ov := by rw [← hw4]; exact q1
        have s2 : w4.frozen? ⟨w.heap.size + 1 + 1 + 1, 16 + m, none⟩ = false := by rw [← hw4]; exact q2
        clear hw4 c2 c7 c15 c16 q1 q2 hbase hw
        repeat still_step
        still_call (flip_same (rotr_any x15 7 d15 (by omega) _))
        repeat still_step
        still_call (flip_same (rotr_any x15 18 d15 (by omega) _))
        repeat still_step
        still_call (flip_same (rotr_any x2 17 d2 (by omega) _))
        repeat still_step
        still_call (flip_same (rotr_any x2 19 d2 (by omega) _))
        repeat still_step
        refine wpStill_nil ?_
        clear k2 k7 k15 k16 t2 t7 t15
        go_wp2
        go_roundw
        case rel =>
          refine ⟨16 + m + 1, by omega, by go_num, hb4.set _ _, ?_⟩
          rw [sch_spell x2 x7 x15 x16 d2 d7 d15 d16, HW.out]
          have e := padded_set U64 (m := 64) (l := wl B (16 + m)) (by rw [HL.out]; omega) ((sS1 x2 + x7 + sS0 x15 + x16) % 4294967296)
          rw [HL.out] at e
          rw [← e]
          exact hw4b.set_ (16 + m) _
        case measure => simp [intOf]; omega
    · obtain rfl : n = 64 := by omega
      clear hn64 hn
      have hsz : (padded U64 64 (wl B 64)).size = 64 := padded_size U64 (by rw [wl_length]; omega)
      have hW : ∀ j, j < 64 → (padded U64 64 (wl B 64))[j]? = some (U64 ((wl B 64).getD j 0)) := fun j hj => padded_at U64 (by rw [wl_length]; exact hj)
      have HM := Lib.hid (show mixed hl B = addTo hl (rnds (fun i => stdK.getD i 0) (fun i => (wl B 64).getD i 0) (S8.of hl) 64).list 8 from rfl)
      have hwlt := wl_lt hB8 64
      generalize wl B 64 = ws at *
      generalize padded U64 64 ws = T at *
      have HI8 := Lib.hid (show (Try.prog.info? 74).map (·.size) = some (uA hl).size by rw [uA_size h8]; exact info8)
      have HO8 := Lib.hid (show zero8.size = (uA hl).size by rw [uA_size h8]; rfl)
      have H18 := Lib.hid (uA_one hl)
      have hsr := hbase.size_ge hw
      rw [show ((64 : Nat) : Int) = 64 from rfl]
      go_wp2_with (first
        | (refine wpList_load_row rfl 74 _ rfl (w.heap.size + 1) rfl 74 (uA hl) (0, 0) _ hbase.2.1 Try.underlying74 rfl HI8.out ?_)
        | (refine wpList_store_row rfl 74 _ _ rfl wr.heap.size (uA hl) rfl rfl 74 zero8 (Blk.new _ _ _) HI8.out HO8.out H18.out ?_; rw [World.setRow_alloc_new]))
      obtain ⟨w1, hw1⟩ : ∃ w1, wr.alloc (Obj.cells (uA hl) 74) = w1 := ⟨_, rfl⟩
      rw [hw1]
      have hb1 : Base hl w w1 := by rw [← hw1]; exact hbase.alloc _
      have ht1 : Blk w1 (w.heap.size + 1 + 1 + 1) 72 T := by rw [← hw1]; exact hw.alloc _
      have hv1 : Blk w1 wr.heap.size 74 (uA hl) := by rw [← hw1]; exact Blk.new _ _ _
      clear hw1 hbase hw hz hz8
      generalize wr.heap.size = gv at *
      have hs0 : (S8.of hl).ok := S8.of_ok hlt
      obtain ⟨s, hs⟩ : ∃ s, S8.of hl = s := ⟨_, rfl⟩
      have HS := Lib.hid (show s.list = hl by rw [← hs]; exact S8.of_list h8)
      rw [hs] at HM hs0
      clear hs
      have HT := Lib.hid hW
      have H8 := Lib.hid h8
      have HLT := Lib.hid hlt
      have HWL := Lib.hid hwlt
      clear hW hsz h8 hlt hwlt CB bl
      rw [show uA hl = uA s.list by rw [HS.out]] at hv1
      go_loopw [13] (fun i wr => ∃ n : Nat, n ≤ 64 ∧ i = .int .i64 n ∧ Base hl w wr ∧ Blk wr (w.heap.size + 1 + 1 + 1) 72 T ∧ Blk wr gv 74 (uA (rnds (fun i => stdK.getD i 0) (fun i => ws.getD i 0) s n).list)) (fun i _ => 64 - (intOf i).toNat)
      case atStart => exact ⟨0, by omega, rfl, hb1, ht1, hv1⟩
      case round =>
        clear hb1 ht1 hv1
        obtain ⟨n, hn, rfl, hb1, ht1, hv1⟩ := hrel
        by_cases hn64 : n < 64
        · have hn64' : (n : Int) < 64 := by omega
          have hok := rnds_ok (K := fun i => stdK.getD i 0) (W := fun i => ws.getD i 0) hs0 n
          have HR := Lib.hid (show rnds (fun i => stdK.getD i 0) (fun i => ws.getD i 0) s (n + 1) = rnd (rnds (fun i => stdK.getD i 0) (fun i => ws.getD i 0) s n) (stdK.getD n 0) (ws.getD n 0) from rfl)
          generalize rnds (fun i => stdK.getD i 0) (fun i => ws.getD i 0) s n = S at *
          obtain ⟨h1, h2, h3, h4, h5, h6, h7, h8⟩ := hok
          have ck : wr.cell? ⟨w.heap.size, n, none⟩ = some (.int .u64 (stdK.getD n 0 : Nat)) := (hb1.1.cell n).trans (map_at (f := U64) hn64)
          have cw : wr.cell? ⟨w.heap.size + 1 + 1 + 1, n, none⟩ = some (.int .u64 (ws.getD n 0 : Nat)) := (ht1.cell n).trans (HT.out n hn64)
          have bk := stdK_lt n
          have bw := getD_lt HWL.out (by decide) n
          generalize stdK.getD n 0 = kn at *
          generalize ws.getD n 0 = wn at *
          have c0 : wr.cell? ⟨gv, 0, none⟩ = some (.int .u64 (S.a : Nat)) := (hv1.cell 0).trans rfl
          have c1 : wr.cell? ⟨gv, 1, none⟩ = some (.int .u64 (S.b : Nat)) := (hv1.cell 1).trans rfl
          have c2 : wr.cell? ⟨gv, 2, none⟩ = some (.int .u64 (S.c : Nat)) := (hv1.cell 2).trans rfl
          have c4 : wr.cell? ⟨gv, 4, none⟩ = some (.int .u64 (S.e : Nat)) := (hv1.cell 4).trans rfl
          have c5 : wr.cell? ⟨gv, 5, none⟩ = some (.int .u64 (S.f : Nat)) := (hv1.cell 5).trans rfl
          have c6 : wr.cell? ⟨gv, 6, none⟩ = some (.int .u64 (S.g : Nat)) := (hv1.cell 6).trans rfl
          have c7 : wr.cell? ⟨gv, 7, none⟩ = some (.int .u64 (S.h : Nat)) := (hv1.cell 7).trans rfl
          have HC := Lib.hid (cho64 S.e S.f S.g h5 h6 h7)
          have HJ := Lib.hid (mjr64 S.a S.b S.c h1 h2 h3)
          go_wp2_with fail
          rw [HC.out, HJ.out]
          have bc := cho_lt S.e S.f S.g h5
          have bm := mjr_lt S.a S.b S.c h1 h2
          go_quiet ((first
            | (go_at_call_of 53 (Value.int IntKind.u64 6); exact quiet_left (rt6 _ h5 _))
            | (go_at_call_of 53 (Value.int IntKind.u64 11); exact quiet_left (rt11 _ h5 _))
            | (go_at_call_of 53 (Value.int IntKind.u64 25); exact quiet_left (rt25 _ h5 _))))
          rw [t1_spell S.h S.e (cho S.e S.f S.g) kn wn h5 h8 bc bk bw]
          obtain ⟨T1, hT1⟩ : ∃ T1, S.h + bS1 S.e + cho S.e S.f S.g + kn + wn = T1 := ⟨_, rfl⟩
          have bT1 : T1 < 21474836480 := by rw [← hT1]; have := bS1_lt S.e h5; omega
          rw [hT1]
          have HT1 := Lib.hid hT1
          clear hT1 c4 c5 c6 c7 ck cw
          obtain ⟨w2, hw2⟩ : ∃ w2, wr.drewN nq = w2 := ⟨_, rfl⟩
          rw [hw2]
          have hb2 : Base hl w w2 := by rw [← hw2]; exact hb1.drewN _
          have ht2 : Blk w2 (w.heap.size + 1 + 1 + 1) 72 T := by rw [← hw2]; exact ht1
          have hv2 : Blk w2 gv 74 (uA S.list) := by rw [← hw2]; exact hv1
          have c0 : w2.cell? ⟨gv, 0, none⟩ = some (.int .u64 (S.a : Nat)) := by rw [← hw2]; exact c0
          clear hw2 hb1 ht1 hv1 c1 c2
          go_wp2_with fail
          go_quiet ((first
            | (go_at_call_of 53 (Value.int IntKind.u64 2); exact quiet_left (rt2 _ h1 _))
            | (go_at_call_of 53 (Value.int IntKind.u64 13); exact quiet_left (rt13 _ h1 _))
            | (go_at_call_of 53 (Value.int IntKind.u64 22); exact quiet_left (rt22 _ h1 _))))
          rw [t2_spell S.a (mjr S.a S.b S.c) h1 bm]
          obtain ⟨T2, hT2⟩ : ∃ T2, bS0 S.a + mjr S.a S.b S.c = T2 := ⟨_, rfl⟩
          have bT2 : T2 < 8589934592 := by rw [← hT2]; have := bS0_lt S.a h1; omega
          rw [hT2]
          have HT2 := Lib.hid hT2
          clear hT2 c0
          obtain ⟨w3, hw3⟩ : ∃ w3, w2.drewN nq = w3 := ⟨_, rfl⟩
          rw [hw3]
          have hb3 : Base hl w w3 := by rw [← hw3]; exact hb2.drewN _
          have ht3 : Blk w3 (w.heap.size + 1 + 1 + 1) 72 T := by rw [← hw3]; exact ht2
          have hv3 : Blk w3 gv 74 (uA S.list) := by rw [← hw3]; exact hv2
          clear hw3 hb2 ht2 hv2
          go_wp2_with fail
          obtain ⟨wo, rfl⟩ : ∃ wo : World, wo = wr := ⟨_, rfl⟩
          go_loopw [18] (fun j wr => ∃ k : Nat, k ≤ 7 ∧ j = .int .i64 k ∧ Base hl w wr ∧ Blk wr (w.heap.size + 1 + 1 + 1) 72 T ∧ Blk wr gv 74 (uA (shf S.list k))) (fun j _ => (intOf j).toNat)
          case atStart => exact ⟨7, by omega, rfl, hb3, ht3, by rw [shf_seven S.list_length]; exact hv3⟩
          case round =>
            clear hb3 ht3 hv3
            obtain ⟨k, hk, rfl, hb3, ht3, hv3⟩ := hrel
            by_cases hk0 : 0 < k
            · obtain ⟨p, rfl⟩ : ∃ p, k = p + 1 := ⟨k - 1, by omega⟩
              have hp7 : (p : Int) < 7 := by omega
              have g0 : wr.cell? ⟨gv, p, none⟩ = some (.int .u64 (S.list.getD p 0 : Nat)) := by
                rw [hv3.cell, uA_at (by rw [shf_length]; omega)]
                have := shf_at S.list (p + 1) (by omega) (by omega)
                rw [Nat.add_sub_cancel] at this
                rw [this]
              obtain ⟨ov, hov⟩ : ∃ ov, wr.cell? ⟨gv, p + 1, none⟩ = some ov := ⟨_, by rw [hv3.cell, uA_at (by rw [shf_length]; omega)]⟩
              have g2 := hv3.frozen (p + 1)
              have hsh := shf_set S.list (p + 1) (by omega) (by omega)
              rw [Nat.add_sub_cancel] at hsh
              have HSH := Lib.hid hsh
              clear hsh
              generalize S.list.getD p 0 = x at *
              go_wp2
              go_roundw
              case rel =>
                refine ⟨p, by omega, rfl, hb3.far hsr _ _, ht3.far (by show w.heap.size + 1 + 1 + 1 ≠ gv; omega) _, ?_⟩
                have := hv3.set_ (p + 1) (U64 x)
                rw [uA_set] at this
                rw [HSH.out] at this
                exact this
              case measure => simp [intOf]
            · obtain rfl : k = 0 := by omega
              rw [shf_zero] at hv3
              have g4 : wr.cell? ⟨gv, 4, none⟩ = some (.int .u64 (S.d : Nat)) := (hv3.cell 4).trans rfl
              have f4 := hv3.frozen 4
              have x4 : ((S.d : Int) + (T1 : Int)).tmod 4294967296 = (((S.d + T1) % 4294967296 : Nat) : Int) := by rw [Int.tmod_eq_emod_of_nonneg (by omega)]; omega
              have x0 : ((T1 : Int) + (T2 : Int)).tmod 4294967296 = (((T1 + T2) % 4294967296 : Nat) : Int) := by rw [Int.tmod_eq_emod_of_nonneg (by omega)]; omega
              obtain ⟨y4, hy4⟩ : ∃ y4, (S.d + T1) % 4294967296 = y4 := ⟨_, rfl⟩
              obtain ⟨y0, hy0⟩ : ∃ y0, (T1 + T2) % 4294967296 = y0 := ⟨_, rfl⟩
              rw [hy4] at x4
              rw [hy0] at x0
              have v4 := hv3.set_ 4 (U64 y4)
              rw [uA_set] at v4
              have v0 := v4.set_ 0 (U64 y0)
              rw [uA_set] at v0
              have g0 : (wr.setCell ⟨gv, 4, none⟩ (.int .u64 (y4 : Nat))).cell? ⟨gv, 0, none⟩ = some (.int .u64 (S.a : Nat)) := (v4.cell 0).trans rfl
              have f0 : (wr.setCell ⟨gv, 4, none⟩ (.int .u64 (y4 : Nat))).frozen? ⟨gv, 0, none⟩ = false := v4.frozen 0
              have HY4 := Lib.hid hy4
              have HY0 := Lib.hid hy0
              clear hy4 hy0 hk hk0
              go_wp2
              go_roundw
              case rel =>
                refine ⟨n + 1, by omega, by go_num, (hb3.far hsr _ _).far hsr _ _, (ht3.far (by show w.heap.size + 1 + 1 + 1 ≠ gv; omega) _).far (by show w.heap.size + 1 + 1 + 1 ≠ gv; omega) _, ?_⟩
                rw [HR.out]
                have e := rnd_list S kn wn y4 y0 (by rw [← HY4.out]; unfold tOne; rw [HT1.out]; omega) (by rw [← HY0.out]; unfold tOne tTwo; rw [HT1.out, HT2.out]; omega)
                rw [shf_zero] at e
                rw [← e]
                exact v0
              case measure => simp [intOf]; omega
        · obtain rfl : n = 64 := by omega
          clear hn64 hn
          have hSok := rnds_ok (K := fun i => stdK.getD i 0) (W := fun i => ws.getD i 0) hs0 64
          generalize rnds (fun i => stdK.getD i 0) (fun i => ws.getD i 0) s 64 = S at *
          rw [show ((64 : Nat) : Int) = 64 from rfl]
          go_wp2
          go_loopw [19] (fun i wr => ∃ k : Nat, k ≤ 8 ∧ i = .int .i64 k ∧ Blk wr (w.heap.size + 1) 74 (uA (addTo hl S.list k)) ∧ Blk wr (w.heap.size + 1 + 1) 74 zero8 ∧ Blk wr gv 74 (uA S.list) ∧ Below w.heap.size w wr) (fun i _ => 8 - (intOf i).toNat)
          case atStart => exact ⟨0, by omega, rfl, by rw [addTo_zero _ H8.out]; exact hb1.2.1, hb1.2.2.1, hv1, hb1.2.2.2⟩
          case round =>
            clear hb1 ht1 hv1
            obtain ⟨k, hk, rfl, k1, k2, k3, k4⟩ := hrel
            by_cases hk8 : k < 8
            · have hk8' : (k : Int) < 8 := by omega
              have c0 : wr.cell? ⟨w.heap.size + 1, k, none⟩ = some (.int .u64 (hl.getD k 0 : Nat)) := by
                rw [k1.cell, uA_at (by rw [addTo_length]; exact hk8), addTo_at _ _ _ hk8]
              have c1 : wr.cell? ⟨gv, k, none⟩ = some (.int .u64 (S.list.getD k 0 : Nat)) := (k3.cell k).trans (uA_at hk8)
              have f0 := k1.frozen k
              have b0 := getD_lt HLT.out (by decide) k
              have b1 := getD_lt (S8.list_lt hSok) (by decide) k
              have HA := Lib.hid (addTo_succ hl S.list k hk8)
              generalize hl.getD k 0 = x at *
              generalize S.list.getD k 0 = y at *
              go_wp2
              go_still_tail 10, (by kernel_rfl)
              change wpList _ _ _ _ _ wr.drew
              obtain ⟨w5, hw5⟩ : ∃ w5, wr.drew = w5 := ⟨_, rfl⟩
              rw [hw5]
              have k1' : Blk w5 (w.heap.size + 1) 74 (uA (addTo hl S.list k)) := by rw [← hw5]; exact k1
              have k2' : Blk w5 (w.heap.size + 1 + 1) 74 zero8 := by rw [← hw5]; exact k2
              have k3' : Blk w5 gv 74 (uA S.list) := by rw [← hw5]; exact k3
              have k4' : Below w.heap.size w w5 := by rw [← hw5]; exact k4.drew
              have c0' : w5.cell? ⟨w.heap.size + 1, k, none⟩ = some (.int .u64 (x : Nat)) := by rw [← hw5]; exact c0
              have f0' : w5.frozen? ⟨w.heap.size + 1, k, none⟩ = false := by rw [← hw5]; exact f0
              clear hw5 c0 c1 f0
              go_wp2
              go_roundw
              case rel =>
                refine ⟨k + 1, by omega, by go_num, ?_, k2'.far (by show w.heap.size + 1 + 1 ≠ w.heap.size + 1; omega) _, k3'.far (by show gv ≠ w.heap.size + 1; omega) _, k4'.setCell (p := ⟨w.heap.size + 1, k, none⟩) (by show w.heap.size ≤ w.heap.size + 1; omega) _⟩
                have := k1'.set_ k (U64 ((x + y) % 4294967296))
                rw [uA_set, HA.out] at this
                simpa [U64] using this
              case measure => simp [intOf]; omega
            · obtain rfl : k = 8 := by omega
              rw [← HM.out] at k1
              have hm8 := mixed_length hl B
              have hone := uA_one (mixed hl B)
              obtain ⟨M, hM⟩ : ∃ M, uA (mixed hl B) = M := ⟨_, rfl⟩
              have hms : M.size = 8 := by rw [← hM]; exact uA_size hm8
              rw [hM] at k1 hone
              have HMM := Lib.hid hM
              have HIM := Lib.hid (show (Try.prog.info? 74).map (·.size) = some M.size by rw [hms]; exact info8)
              have HOM := Lib.hid (show zero8.size = M.size by rw [hms]; rfl)
              have H1M := Lib.hid hone
              clear hM hms hone hm8 hk8 hk
              go_wp2_with (first
                | (refine wpList_load_row rfl 74 _ rfl (w.heap.size + 1) rfl 74 M (0, 0) _ k1 Try.underlying74 rfl HIM.out ?_)
                | (refine wpList_store_row rfl 74 _ _ rfl (w.heap.size + 1 + 1) M rfl rfl 74 zero8 k2 HIM.out HOM.out H1M.out ?_))
              refine bodyPost_ret (v := .agg M) ?_ rfl ?_
              · exact results_cell_row rfl _ _ (w.heap.size + 1 + 1) 74 M (0, 0) _ rfl (setRow_heap _ _ zero8 _ _ _ k2) Try.underlying74 rfl HIM.out
              · exact ⟨by rw [HMM.out], below_setRow k4 (by omega) _⟩
theorem be8_next (n k : Nat) (h : k < 8) : (be8 n).take (k + 1) = (be8 n).take k ++ [n / 256 ^ (7 - k) % 256] := by
  rw [List.take_succ_eq_append_getElem (by rw [be8_length]; exact h)]
  simp [be8]
theorem pad_lt {m : List Nat} (h : ∀ x ∈ m, x < 256) : ∀ x ∈ padMsg m, x < 256 := by
  intro x hx
  unfold padMsg at hx
  simp only [List.mem_append, List.mem_singleton, List.mem_replicate] at hx
  rcases hx with ((hx | rfl) | ⟨_, rfl⟩) | hx
  · exact h x hx
  · omega
  · omega
  · exact be8_lt _ x hx
theorem wpStill_load_row {P : Program} {ops : Array Oper} {rest : List Oper} {op : Oper} {a : Act} {w : World} {Q : Act → Prop} (hgd : op.guard = none) (ty : TypeId) (x : Operand) (ho : op.op = .load ty x)
    (g : Nat) (hx : a.eval x = .pointer (some ⟨g, 0, none⟩)) (t : TypeId) (cs : Array Value) (d : TypeDesc) (hg : Blk w g t cs)
    (hu : P.underlying ty = some d) (hd : (match d with | .struct _ | .array _ _ => true | _ => false) = true) (hi : (P.info? ty).map (·.size) = some cs.size)
    (h : wpStill P ops w Q rest (a.put op.dst (.agg cs))) : wpStill P ops w Q (op :: rest) a := by
  unfold wpStill
  rw [if_pos (by simp [Region.wanted, hgd])]
  unfold Oper.still execOp
  simp only [ho, hx, Instr.loadAt, Instr.sureAddr, Sem.run_bind, Sem.run_pure, Result.andThen_ok, run_loadVar_row w g t ty cs (0, 0) d hg hu hd hi, Oper.stillUpon_value]
  exact h
set_option maxRecDepth 100000 in
theorem slice_b (g M cap I : Nat) (h : I + 64 ≤ cap) (W : World) : (Instr.slice 70 (.slice (some ⟨g, 0, none⟩) M cap) (some (.int .i64 (I : Int))) (some (.int .i64 ((I : Int) + 64))) none).run Try.prog W = .ok (.slice (some ⟨g, I, none⟩) 64 (cap - I)) W := by
  rw [run_slice_lh W _ _ M cap Try.underlying70 .i64 .i64 (I : Int) ((I : Int) + 64) (by omega) (by omega) (by omega)]
  have hs : (sizeOf (Try.prog.elem 70)).run Try.prog W = .ok 1 W := by kernel_rfl
  rw [hs]
  have e : (⟨g, 0, none⟩ : Addr).add I = ⟨g, I, none⟩ := by unfold Addr.add; split <;> simp_all
  simp only [Result.andThen_ok, sliced, Int.toNat_natCast, if_neg (show ¬ cap = I by omega), Nat.mul_one, show ((I : Int) + 64).toNat = I + 64 by omega, Option.map_some, e, show I + 64 - I = 64 by omega]
theorem conv_four (x : Nat) (hx : x < 4294967296) (w : World) :
    (convert 70 9 (.slice (some ⟨w.heap.size, 0, none⟩) 4 4)).run Try.prog (w.alloc (.cells #[.int .u8 (IntKind.u8.wrap (IntKind.u64.wrap ((x : Int) / 16777216))), .int .u8 (IntKind.u8.wrap ((IntKind.u64.wrap ((x : Int) / 65536)).tmod 256)), .int .u8 (IntKind.u8.wrap ((IntKind.u64.wrap ((x : Int) / 256)).tmod 256)), .int .u8 (IntKind.u8.wrap ((x : Int).tmod 256))] 5)).drew =
      .ok (.string (strN (by4 x))) (w.alloc (.cells #[.int .u8 (IntKind.u8.wrap (IntKind.u64.wrap ((x : Int) / 16777216))), .int .u8 (IntKind.u8.wrap ((IntKind.u64.wrap ((x : Int) / 65536)).tmod 256)), .int .u8 (IntKind.u8.wrap ((IntKind.u64.wrap ((x : Int) / 256)).tmod 256)), .int .u8 (IntKind.u8.wrap ((x : Int).tmod 256))] 5)).drew := by
  have e1 : IntKind.u8.wrap (IntKind.u64.wrap ((x : Int) / 16777216)) = ((x / 16777216 % 256 : Nat) : Int) := by
    rw [IntKind.wrap_u64, IntKind.wrap_u8']; omega
  have e2 : IntKind.u8.wrap ((IntKind.u64.wrap ((x : Int) / 65536)).tmod 256) = ((x / 65536 % 256 : Nat) : Int) := by
    rw [IntKind.wrap_u64, IntKind.wrap_u8', Int.tmod_eq_emod_of_nonneg (by omega)]; omega
  have e3 : IntKind.u8.wrap ((IntKind.u64.wrap ((x : Int) / 256)).tmod 256) = ((x / 256 % 256 : Nat) : Int) := by
    rw [IntKind.wrap_u64, IntKind.wrap_u8', Int.tmod_eq_emod_of_nonneg (by omega)]; omega
  have e4 : IntKind.u8.wrap ((x : Int).tmod 256) = ((x % 256 : Nat) : Int) := by
    rw [IntKind.wrap_u8', Int.tmod_eq_emod_of_nonneg (by omega)]; omega
  rw [e1, e2, e3, e4]
  refine conv_cells _ 70 5 9 Try.underlying70 Try.underlying5 Try.underlying9 w.heap.size 4 (by4 x) (fun i hi => ?_)
  rw [(Blk.new w 5 _).drew.cell]
  have h4 : i < 4 := hi
  rcases i with _ | _ | _ | _ | i
  · rfl
  · rfl
  · rfl
  · rfl
  · omega
set_option maxRecDepth 100000 in
set_option maxHeartbeats 2000000 in
theorem refsum_any (s : ByteArray) (hn : s.size ≤ 1099511627776) (w : World) :
    Calls Try.prog 29 #[.string s] w fun e w' => e = .returned (.string (SHA (nums s))) ∧ Below w.heap.size w w' := by
  obtain ⟨w1, cap1, hrun, hrow1, hB1⟩ := run_bytes_brow (P := Try.prog) w 9 70 5 s Try.underlying9 Try.underlying70 Try.underlying5
  have HN := Lib.hid (nums_length s)
  have hL0 := HN.out
  obtain ⟨m, hm⟩ : ∃ m, nums s = m := ⟨_, rfl⟩
  rw [hm] at hrow1 hL0 HN ⊢
  have HMM := Lib.hid hm
  clear hm
  obtain ⟨n, hn'⟩ : ∃ n, s.size = n := ⟨_, rfl⟩
  have hns := hn
  rw [hn'] at hL0 hn hrun hrow1
  have HNN := Lib.hid hn'
  clear hn'
  go_enter Try.func29, Try.ntmps29
  go_wp2_with (at_builtin; refine wpList_append_brow _ rfl (.tmp 14) (.tmp 15) 70 rfl w.heap.size 5 Try.underlying70 byteInfo rfl (hrow1.alloc _) ⟨w1.heap.size, 0, none⟩ 1 1 [128] rfl rfl (one_new _ 128 _) (by rw [hL0]; omega) (by have := hB1.size; simp; omega) ?_; intro v2 w2 g2 cap2 hrow2 hg2 hge2)
  have hB2 := below_append hB1 hg2 (Nat.le_refl _)
  have hv2 := hrow2.at (n := n + 1) (by rw [List.length_append, hL0]; rfl)
  subst hv2
  clear hrow1 hB1 hg2 hge2 hrun
  have hzl := zs_lt n
  go_wp2
  go_loopg [3] (zs n) (fun k v wr => ∃ z g cap L : Nat, Hid (z + k = zs n) ∧ z ≤ 64 ∧ Hid (n + 1 + z = L) ∧ v = .slice (some ⟨g, 0, none⟩) L cap ∧ BRow wr w.heap.size (.slice (some ⟨g, 0, none⟩) L cap) (m ++ [128] ++ List.replicate z 0) g cap ∧ Below w.heap.size w wr)
  case atStart => exact ⟨0, g2, cap2, n + 1, Lib.hid (by omega), by omega, Lib.hid rfl, rfl, by simpa using hrow2, hB2⟩
  case round =>
    clear hrow2 hB2
    obtain ⟨z, g, cap, L, HZ, hz64, HL, rfl, hrow, hB⟩ := hrel
    have hgB := hrow.base
    have hlz : (m ++ [128] ++ List.replicate z 0).length = L := by rw [← HL.out]; simp [hL0]; omega
    have HLZ := Lib.hid hlz
    clear hlz
    have hLb : L ≤ n + 65 := by have := HL.out; omega
    by_cases hk : z < zs n
    · have hne : ((L : Int) % 64 != 56) = true := by
        rw [bne_iff_ne]
        have := zs_least n z hk
        rw [HL.out] at this
        omega
      go_wp2_with (at_builtin; refine wpList_append_brow _ rfl (.tmp 21) (.tmp 22) 70 rfl w.heap.size 5 Try.underlying70 byteInfo rfl (hrow.alloc _) ⟨wr.heap.size, 0, none⟩ 1 1 [0] rfl rfl (one_new _ 0 _) (by rw [HLZ.out]; omega) (by have := hB.size; simp; omega) ?_; intro v3 w3 g3 cap3 hrow3 hg3 hge3)
      have hB3 := below_append hB hg3 hgB
      have hv3 := hrow3.at (n := L + 1) (by rw [List.length_append, HLZ.out]; rfl)
      subst hv3
      go_roundg (zs n - (z + 1))
      case measure => have := HZ.out; omega
      case rel =>
        refine ⟨z + 1, g3, cap3, L + 1, Lib.hid (by omega), by omega, Lib.hid (by have := HL.out; omega), rfl, ?_, hB3⟩
        rw [List.replicate_succ', ← List.append_assoc]
        exact hrow3
    · have hz : z = zs n := by have := HZ.out; omega
      have hne : ((L : Int) % 64 != 56) = false := by
        have := zs_mod n
        rw [← hz, HL.out] at this
        rw [show (L : Int) % 64 = 56 by omega]; rfl
      have HE := Lib.hid hz
      clear hk hz
      go_wp2
      rw [HNN.out]
      obtain ⟨N, hN⟩ : ∃ N : Nat, n * 8 = N := ⟨_, rfl⟩
      rw [show (n : Int) * 8 = (N : Int) by omega]
      have hNb : N ≤ 8796093022208 := by omega
      have HP := Lib.hid (show m ++ [128] ++ List.replicate z 0 ++ be8 N = padMsg m by rw [HE.out, ← hN, ← hL0]; rfl)
      have HN8 := Lib.hid hN
      have HZM := Lib.hid (show L % 64 = 56 by have := zs_mod n; rw [← HE.out, HL.out] at this; exact this)
      clear hN hne
      generalize m ++ [128] ++ List.replicate z 0 = l0 at *
      go_loopw [3, 5] (fun v i wr => ∃ k g cap : Nat, k ≤ 8 ∧ i = .int .i64 k ∧ v = .slice (some ⟨g, 0, none⟩) (L + k) cap ∧ BRow wr w.heap.size (.slice (some ⟨g, 0, none⟩) (L + k) cap) (l0 ++ (be8 N).take k) g cap ∧ Below w.heap.size w wr)
        (fun _ i _ => 8 - (intOf i).toNat)
      case atStart => exact ⟨0, g, cap, by omega, rfl, rfl, by simpa using hrow, hB⟩
      case round =>
        clear hrow hB hgB
        obtain ⟨k, g, cap, hk, rfl, rfl, hrow, hB⟩ := hrel
        have hgB := hrow.base
        have hlk : (l0 ++ (be8 N).take k).length = L + k := by rw [List.length_append, HLZ.out, List.length_take, be8_length]; omega
        by_cases hlt : k < 8
        · have hlt' : (k : Int) < 8 := by omega
          have HT := Lib.hid (be8_next N k hlt)
          have HLK := Lib.hid hlk
          clear hlk
          obtain ⟨wo, rfl⟩ : ∃ wo : World, wo = wr := ⟨_, rfl⟩
          go_wp2
          go_loopw [6, 7] (fun x j wr => ∃ q : Nat, k + q ≤ 7 ∧ j = .int .i64 ((k + q : Nat) : Int) ∧ x = .int .u64 ((N / 256 ^ q : Nat) : Int) ∧ wo = wr) (fun _ j _ => 8 - (intOf j).toNat)
          case atStart => exact ⟨0, by omega, by simp, by simp, rfl⟩
          case round =>
            obtain ⟨q, hq, rfl, rfl, rfl⟩ := hrel
            obtain ⟨J, hJ⟩ : ∃ J, k + q = J := ⟨_, rfl⟩
            rw [hJ] at hq ⊢
            obtain ⟨x, hx⟩ : ∃ x, N / 256 ^ q = x := ⟨_, rfl⟩
            have hxN : x ≤ N := by rw [← hx]; exact Nat.div_le_self _ _
            rw [hx]
            have HX := Lib.hid hx
            have HJ := Lib.hid hJ
            clear hx hJ
            by_cases hj7 : J < 7
            · have hj7' : (J : Int) < 7 := by omega
              go_wp2
              go_roundw
              case rel =>
                refine ⟨q + 1, by have := HJ.out; omega, ?_, ?_, trivial⟩
                · rw [← Nat.add_assoc, HJ.out]; go_num
                · rw [Nat.pow_succ, ← Nat.div_div_eq_div_mul, HX.out]; go_num
              case measure => simp [intOf]; omega
            · have hj7' : ¬ (J : Int) < 7 := by omega
              obtain ⟨y, hy⟩ : ∃ y, x % 256 = y := ⟨_, rfl⟩
              have HY := Lib.hid (show N / 256 ^ (7 - k) % 256 = y by rw [show 7 - k = q by have := HJ.out; omega, HX.out, hy])
              rw [HY.out] at HT
              have hxy : (x : Int) % 256 = (y : Int) := by omega
              clear hy
              go_wp2_with (at_builtin; refine wpList_append_brow _ rfl (.tmp 40) (.tmp 44) 70 rfl w.heap.size 5 Try.underlying70 byteInfo rfl (hrow.alloc _) ⟨wo.heap.size, 0, none⟩ 1 1 [y] rfl rfl (one_new _ y _) (by rw [HLK.out]; omega) (by have := hB.size; simp; omega) ?_; intro v4 w4 g4 cap4 hrow4 hg4 hge4)
              have hB4 := below_append hB hg4 hgB
              have hv4 := hrow4.at (n := L + (k + 1)) (by rw [List.length_append, HLK.out]; show L + k + 1 = _; omega)
              subst hv4
              rw [List.append_assoc, ← HT.out] at hrow4
              go_roundw
              case rel => exact ⟨k + 1, g4, cap4, by omega, by go_num, rfl, hrow4, hB4⟩
              case measure => simp [intOf]; omega
        · obtain rfl : k = 8 := by omega
          rw [List.take_of_length_le (by rw [be8_length]; omega), HP.out] at hrow
          rw [List.take_of_length_le (by rw [be8_length]; omega), HP.out] at hlk
          obtain ⟨M, hM⟩ : ∃ M, L + 8 = M := ⟨_, rfl⟩
          rw [hM] at hrow hlk ⊢
          have HM64 := Lib.hid (show M % 64 = 0 by have := HZM.out; omega)
          have HML := Lib.hid hlk
          have hMb : M ≤ 1099511627849 := by omega
          have HPB := Lib.hid (show ∀ i, (padMsg m).getD i 0 < 256 from fun i => getD_lt (pad_lt (by rw [← HMM.out]; exact nums_lt s)) (by decide) i)
          have HD := Lib.hid (show SHA m = strN ((hstN (padMsg m) (M / 64)).flatMap by4) by unfold SHA dgst; rw [hlk])
          generalize padMsg m = p at *
          have hz := zero64_run
          have hz8 := zero8_run
          clear hlk hM HP HZM HLZ hLb hlt
          go_wp2_with fail
          refine (refK_any _).mono ?_
          rintro e w5 ⟨rfl, hw5⟩
          have hB5 : Below w.heap.size w w5 := by rw [← hw5]; exact hB.alloc hB.size _
          have hrow5 : BRow w5 w.heap.size (.slice (some ⟨g, 0, none⟩) M cap) p g cap := by rw [← hw5]; exact hrow.alloc _
          clear hw5 hB hrow
          go_wp2_with (refine wpList_store_row rfl 72 _ _ rfl w5.heap.size refKV rfl rfl 72 zero64 (Blk.new _ _ _) info64 (by kernel_rfl) (by kernel_rfl) ?_; rw [World.setRow_alloc_new])
          have hb5 : Blk (w5.alloc (.cells refKV 72)) w5.heap.size 72 refKV := Blk.new _ _ _
          have hr5 := hrow5.alloc (.cells refKV 72)
          have hB5' := hB5.alloc hB5.size (.cells refKV 72)
          generalize hw6 : w5.alloc (.cells refKV 72) = w6 at *
          have hgk := hB5.size
          have hgne : g ≠ w5.heap.size := Nat.ne_of_lt hrow5.lt
          generalize w5.heap.size = gk at *
          clear hw6 hrow5 hB5
          refine (refH_any _).mono ?_
          rintro e w7 ⟨rfl, hw7⟩
          have hB7 : Below w.heap.size w w7 := by rw [← hw7]; exact hB5'.alloc hB5'.size _
          have hrow7 : BRow w7 w.heap.size (.slice (some ⟨g, 0, none⟩) M cap) p g cap := by rw [← hw7]; exact hr5.alloc _
          have hb7 : Blk w7 gk 72 refKV := by rw [← hw7]; exact hb5.alloc _
          clear hw7 hB5' hr5 hb5
          go_wp2_with (refine wpList_store_row rfl 74 _ _ rfl w7.heap.size refHV rfl rfl 74 zero8 (Blk.new _ _ _) info8 (by kernel_rfl) (by kernel_rfl) ?_; rw [World.setRow_alloc_new])
          have hh8 : Blk (w7.alloc (.cells refHV 74)) w7.heap.size 74 (uA (hstN p 0)) := Blk.new _ _ _
          have hr8 := hrow7.alloc (.cells refHV 74)
          have hb8 := hb7.alloc (.cells refHV 74)
          have hB8 := hB7.alloc hB7.size (.cells refHV 74)
          generalize hw8 : w7.alloc (.cells refHV 74) = w8 at *
          have hgh := hB7.size
          have hne1 : g ≠ w7.heap.size := Nat.ne_of_lt hrow7.lt
          have hne2 : gk ≠ w7.heap.size := Nat.ne_of_lt hb7.lt
          generalize w7.heap.size = gh at *
          clear hw8 hrow7 hB7 hb7 hz hz8
          go_loopw [10] (fun i wr => ∃ k : Nat, 64 * k ≤ M ∧ i = .int .i64 ((64 * k : Nat) : Int) ∧ Blk wr gk 72 refKV ∧ Blk wr gh 74 (uA (hstN p k)) ∧ BRow wr w.heap.size (.slice (some ⟨g, 0, none⟩) M cap) p g cap ∧ Below w.heap.size w wr)
            (fun i _ => M - (intOf i).toNat)
          case atStart => exact ⟨0, by omega, rfl, hb8, hh8, hr8, hB8⟩
          case round =>
            clear hb8 hh8 hr8 hB8
            obtain ⟨k, hk, rfl, hb, hh, hrow, hB⟩ := hrel
            obtain ⟨I, hI⟩ : ∃ I, 64 * k = I := ⟨_, rfl⟩
            rw [hI] at hk ⊢
            have HI := Lib.hid hI
            clear hI
            by_cases hlt : I < M
            · have hlt' : (I : Int) < (M : Int) := by omega
              have hI64 : I + 64 ≤ M := by have := HI.out; have := HM64.out; omega
              go_wp2
              refine wp_region_still_tail 7 (by kernel_rfl) (by kernel_rfl) ?_
              simp only [List.take_succ_cons, List.take_zero, List.drop_succ_cons, List.drop_zero]
              change wpStill _ _ wr.drew (fun a' => wpList _ _ _ _ a' wr.drew) _ _
              obtain ⟨w9, hw9⟩ : ∃ w9, wr.drew = w9 := ⟨_, rfl⟩
              rw [hw9]
              have hb9 : Blk w9 gk 72 refKV := by rw [← hw9]; exact hb
              have hh9 : Blk w9 gh 74 (uA (hstN p k)) := by rw [← hw9]; exact hh
              have hr9 : BRow w9 w.heap.size (.slice (some ⟨g, 0, none⟩) M cap) p g cap := by rw [← hw9]; exact hrow.drew
              have hB9 : Below w.heap.size w w9 := by rw [← hw9]; exact hB.drew
              clear hw9 hb hh hrow hB
              refine wpStill_load_row rfl 72 _ rfl gk rfl 72 refKV _ hb9 Try.underlying72 rfl info64 ?_
              refine wpStill_load_row rfl 74 _ rfl gh rfl 74 (uA (hstN p k)) _ hh9 Try.underlying74 rfl (by rw [uA_size (hstN_length _ _)]; exact info8) ?_
              have e1 : IntKind.i64.wrap ((I : Int) + 64) = (I : Int) + 64 := by rw [IntKind.wrap_i64]; omega
              have hsl := slice_b g M cap I (by have := hr9.le; rw [HML.out] at this; omega) w9
              repeat still_step
              refine wpStill_nil ?_
              clear e1 hsl
              have hblk := block_any (hstN p k) (hstN_length _ _) (hstN_lt _ _) g I (cap - I) (fun i => p.getD (64 * k + i) 0) (fun i => HPB.out _) w9 hr9.lt (fun i hi => by rw [hr9.cells (I + i) (by rw [HML.out]; omega), HI.out]; rfl)
              obtain ⟨hl, hhl⟩ : ∃ hl, hstN p k = hl := ⟨_, rfl⟩
              have HS := Lib.hid (show hstN p (k + 1) = mixed (hstN p k) fun i => p.getD (64 * k + i) 0 from rfl)
              have h8 := mixed_length (hstN p k) fun i => p.getD (64 * k + i) 0
              have h8' := hstN_length p k
              obtain ⟨hx, hhx⟩ : ∃ hx, mixed (hstN p k) (fun i => p.getD (64 * k + i) 0) = hx := ⟨_, rfl⟩
              rw [hhx] at HS hblk h8
              rw [hhl] at hblk hh9 h8' ⊢
              have H8 := Lib.hid h8
              have H8' := Lib.hid h8'
              have HBK := Lib.hid hblk
              clear hhl hhx hblk h8 h8'
              go_wp2_with fail
              refine HBK.out.mono ?_
              rintro e w10 ⟨rfl, hB10⟩
              have hb10 := hb9.below hB10 hb9.lt
              have hh10 := hh9.below hB10 hh9.lt
              have hr10 := hr9.below hB10 hr9.lt
              have hB10' : Below w.heap.size w w10 := hB9.trans (hB10.mono hB9.size)
              clear hb9 hh9 hr9 hB9 hB10 HBK
              go_wp2_with (refine wpList_store_row rfl 74 _ _ rfl gh (uA hx) rfl rfl 74 (uA hl) hh10 (by rw [uA_size H8.out]; exact info8) (by rw [uA_size H8.out, uA_size H8'.out]) (uA_one _) ?_)
              go_roundw
              case rel =>
                refine ⟨k + 1, by have := HI.out; omega, ?_, hb10.setRow hne2 _, ?_, hr10.keep (by simp) (setRow_other _ _ _ _ hne1), ?_⟩
                · rw [Nat.mul_add, HI.out]; go_num
                · rw [HS.out]; exact blk_setRow hh10 _
                · exact below_setRow hB10' hgh _
              case measure => simp [intOf]; omega
            · have hIM : I = M := by omega
              have HK : Hid (M / 64 = k) := Lib.hid (by have := HI.out; omega)
              rw [HK.out] at HD
              have h8 := hstN_length p k
              have hlt8 := hstN_lt p k
              obtain ⟨hl, hhl⟩ : ∃ hl, hstN p k = hl := ⟨_, rfl⟩
              rw [hhl] at HD h8 hlt8 hh
              have H8 := Lib.hid h8
              have HL8 := Lib.hid hlt8
              subst hIM
              clear hlt hb hrow h8 hlt8 hhl
              go_wp2
              go_loopw [11, 12] (fun o i wr => ∃ k : Nat, k ≤ 8 ∧ i = .int .i64 k ∧ o = .string (strN ((hl.take k).flatMap by4)) ∧ Blk wr gh 74 (uA hl) ∧ Below w.heap.size w wr)
                (fun _ i _ => 8 - (intOf i).toNat)
              case atStart => exact ⟨0, by omega, rfl, rfl, hh, hB⟩
              case round =>
                clear hh hB
                obtain ⟨k, hk, rfl, rfl, hh, hB⟩ := hrel
                by_cases hlt : k < 8
                · have hlt' : (k : Int) < 8 := by omega
                  have hc : wr.cell? ⟨gh, k, none⟩ = some (.int .u64 ((hl.getD k 0 : Nat) : Int)) := (hh.cell k).trans (uA_at (by rw [H8.out]; exact hlt))
                  have hx := getD_lt HL8.out (by decide) k
                  have HF := Lib.hid (flat_take hl k (by rw [H8.out]; exact hlt))
                  generalize hl.getD k 0 = x at *
                  obtain ⟨pre, hpre⟩ : ∃ pre, strN ((hl.take k).flatMap by4) = pre := ⟨_, rfl⟩
                  rw [hpre]
                  have HPRE := Lib.hid hpre
                  clear hpre
                  go_wp2
                  have keepS : ∀ W, Below wr.heap.size wr W → W.cell? ⟨gh, k, none⟩ = some (.int .u64 (x : Nat)) ∧ Below wr.heap.size wr W := fun W hW => ⟨(hW.cell (p := ⟨gh, k, none⟩) hh.lt).trans hc, hW⟩
                  have HKP := Lib.hid keepS
                  clear keepS
                  have hcv := conv_four x hx wr
                  obtain ⟨s4, hs4⟩ : ∃ s4, strN (by4 x) = s4 := ⟨_, rfl⟩
                  rw [hs4] at hcv
                  have HS4 := Lib.hid hs4
                  have hsz : ¬ pre.size + s4.size > 9223372036854775807 := by
                    rw [← HPRE.out, ← hs4, strN_size, strN_size, flat_len, List.length_take, H8.out]
                    simp only [by4, List.length_cons, List.length_nil]
                    omega
                  clear hs4
                  go_region_held (fun w' => w'.cell? ⟨gh, k, none⟩ = some (.int .u64 (x : Nat)) ∧ Below wr.heap.size wr w')
                    ((refine HKP.out _ ?_; repeat (first | with_reducible exact Below.refl _ _ | with_reducible refine Below.drew ?_ | ((with_reducible refine Below.alloc ?_ ?_ _); rotate_left; exact Nat.le_refl _))))
                    (fail)
                  clear hcv
                  have hh2 : Blk (wr.alloc (.cells #[.int .u8 (IntKind.u8.wrap (IntKind.u64.wrap ((x : Int) / 16777216))), .int .u8 (IntKind.u8.wrap ((IntKind.u64.wrap ((x : Int) / 65536)).tmod 256)), .int .u8 (IntKind.u8.wrap ((IntKind.u64.wrap ((x : Int) / 256)).tmod 256)), .int .u8 (IntKind.u8.wrap ((x : Int).tmod 256))] 5)).drew gh 74 (uA hl) := (hh.alloc _).drew
                  have hB2 : Below w.heap.size w (wr.alloc (.cells #[.int .u8 (IntKind.u8.wrap (IntKind.u64.wrap ((x : Int) / 16777216))), .int .u8 (IntKind.u8.wrap ((IntKind.u64.wrap ((x : Int) / 65536)).tmod 256)), .int .u8 (IntKind.u8.wrap ((IntKind.u64.wrap ((x : Int) / 256)).tmod 256)), .int .u8 (IntKind.u8.wrap ((x : Int).tmod 256))] 5)).drew := (hB.alloc hB.size _).drew
                  generalize (wr.alloc (.cells #[.int .u8 (IntKind.u8.wrap (IntKind.u64.wrap ((x : Int) / 16777216))), .int .u8 (IntKind.u8.wrap ((IntKind.u64.wrap ((x : Int) / 65536)).tmod 256)), .int .u8 (IntKind.u8.wrap ((IntKind.u64.wrap ((x : Int) / 256)).tmod 256)), .int .u8 (IntKind.u8.wrap ((x : Int).tmod 256))] 5)).drew = w9 at *
                  go_wp2
                  go_roundw
                  case rel =>
                    refine ⟨k + 1, by omega, by go_num, ?_, hh2, hB2⟩
                    rw [HF.out, strN_append, HPRE.out, HS4.out]
                  case measure => simp [intOf]; omega
                · obtain rfl : k = 8 := by omega
                  rw [List.take_of_length_le (by rw [H8.out]; omega), ← HD.out]
                  clear hlt
                  go_wp2
                  go_ret
                  exact ⟨rfl, hB⟩
end Go.Proofs.Ytfhfmfcmkiobdaa

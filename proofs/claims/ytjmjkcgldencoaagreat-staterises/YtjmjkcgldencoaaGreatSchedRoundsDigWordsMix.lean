/-
  The sixty-four words of a block, in numbers. sha's rounds: eight words go through the rounds, each for every world. A digest's cells: the table, eight words, a block's bytes, how many bytes were written. sha's words: the sixty-four words of a block of sixty-four bytes. A digest's filled and mix.
-/
import Derived.Test.YtjmjkcgldencoaaGreatPrimBits
import Derived.Test.YtjmjkcgldencoaaGreatFracMakeTableStd
import Derived.BigQuiet
import Derived.Deep.QuietTactic
import Derived.Deep.WholeRow
import Derived.Deep.MidRow
import Derived.StillTailTactics
import Derived.Deep.RegionHeld3
import Derived.Deep.DeepCutAuto
namespace Go.Proofs.YtjmjkcgldencoaaGreat

/-- four bytes as a word, the greatest first -/
def wd (B : Nat → Nat) (t : Nat) : Nat := B (4 * t) * 16777216 + B (4 * t + 1) * 65536 + B (4 * t + 2) * 256 + B (4 * t + 3)
/-- the word behind the words l -/
def wnext (B : Nat → Nat) (l : List Nat) (n : Nat) : Nat :=
  if n < 16 then wd B n else (sS1 (l.getD (n - 2) 0) + l.getD (n - 7) 0 + sS0 (l.getD (n - 15) 0) + l.getD (n - 16) 0) % 4294967296
/-- the first n words -/
def wl (B : Nat → Nat) : Nat → List Nat
  | 0 => []
  | n + 1 => wl B n ++ [wnext B (wl B n) n]
theorem wl_length (B : Nat → Nat) : ∀ n, (wl B n).length = n
  | 0 => rfl
  | n + 1 => by simp [wl, wl_length B n]
theorem wd_lt {B : Nat → Nat} (h : ∀ i, B i < 256) (t : Nat) : wd B t < 4294967296 := by
  have h0 := h (4 * t)
  have h1 := h (4 * t + 1)
  have h2 := h (4 * t + 2)
  have h3 := h (4 * t + 3)
  unfold wd
  omega
theorem wl_lt {B : Nat → Nat} (h : ∀ i, B i < 256) : ∀ n, ∀ x ∈ wl B n, x < 4294967296
  | 0 => by simp [wl]
  | n + 1 => by
    intro x hx
    simp only [wl, List.mem_append, List.mem_singleton] at hx
    rcases hx with hx | rfl
    · exact wl_lt h n x hx
    · unfold wnext
      split
      · exact wd_lt h n
      · exact Nat.mod_lt _ (by decide)
theorem getD_lt {l : List Nat} {M : Nat} (h : ∀ x ∈ l, x < M) (hM : 0 < M) (i : Nat) : l.getD i 0 < M := by
  rw [List.getD_eq_getElem?_getD]
  rcases hj : l[i]? with _ | x
  · simpa using hM
  · simpa using h x (List.mem_of_getElem? hj)

/-- n numbers as an array of m values, noughts behind them -/
def padded (f : Nat → Value) (m : Nat) (l : List Nat) : Array Value := ((l ++ List.replicate (m - l.length) 0).map f).toArray
theorem padded_size (f : Nat → Value) {m : Nat} {l : List Nat} (h : l.length ≤ m) : (padded f m l).size = m := by
  simp [padded]; omega
theorem padded_nil (f : Nat → Value) (m : Nat) : padded f m [] = Array.replicate m (f 0) := by
  simp [padded, List.map_replicate]
theorem padded_full (f : Nat → Value) {m : Nat} {l : List Nat} (h : l.length = m) : padded f m l = (l.map f).toArray := by
  simp [padded, h]
theorem padded_at (f : Nat → Value) {m i : Nat} {l : List Nat} (hi : i < l.length) : (padded f m l)[i]? = some (f (l.getD i 0)) := by
  simp [padded, List.getElem?_append, hi]
theorem padded_there (f : Nat → Value) {m i : Nat} {l : List Nat} (h : l.length ≤ m) (hi : i < m) : ∃ v, (padded f m l)[i]? = some v :=
  ⟨_, Array.getElem?_eq_getElem (by rw [padded_size f h]; exact hi)⟩
theorem padded_set (f : Nat → Value) {m : Nat} {l : List Nat} (h : l.length < m) (x : Nat) : (padded f m l).setIfInBounds l.length (f x) = padded f m (l ++ [x]) := by
  unfold padded
  rw [List.setIfInBounds_toArray]
  congr 1
  apply List.ext_getElem?
  intro i
  rw [List.getElem?_set]
  simp only [List.getElem?_map, List.length_map, List.length_append, List.length_replicate, List.getElem?_append, List.length_cons, List.length_nil, List.getElem?_replicate]
  by_cases h1 : i < l.length
  · simp [h1, show ¬ l.length = i by omega, show i < l.length + 1 by omega]
  · by_cases h2 : l.length = i
    · subst h2; simp; omega
    · simp only [h1, h2, if_false, show ¬ i < l.length + (0 + 1) by omega]
      by_cases h3 : i < m
      · simp [show i - l.length < m - l.length by omega, show i - (l.length + 1) < m - (l.length + 1) by omega]
      · simp [show ¬ i - l.length < m - l.length by omega, show ¬ i - (l.length + 1) < m - (l.length + 1) by omega]
end Go.Proofs.YtjmjkcgldencoaaGreat
namespace Go.Proofs.YtjmjkcgldencoaaGreat
open Go.RowKit

/-- eight words -/
structure S8 where
  a : Nat
  b : Nat
  c : Nat
  d : Nat
  e : Nat
  f : Nat
  g : Nat
  h : Nat
def S8.ok (s : S8) : Prop := s.a < 4294967296 ∧ s.b < 4294967296 ∧ s.c < 4294967296 ∧ s.d < 4294967296 ∧ s.e < 4294967296 ∧ s.f < 4294967296 ∧ s.g < 4294967296 ∧ s.h < 4294967296
def tOne (s : S8) (k w : Nat) : Nat := (s.h + bS1 s.e + cho s.e s.f s.g + k + w) % 4294967296
def tTwo (s : S8) : Nat := (bS0 s.a + mjr s.a s.b s.c) % 4294967296
/-- one round -/
def rnd (s : S8) (k w : Nat) : S8 := ⟨(tOne s k w + tTwo s) % 4294967296, s.a, s.b, s.c, (s.d + tOne s k w) % 4294967296, s.e, s.f, s.g⟩
/-- the first n rounds -/
def rnds (K W : Nat → Nat) (s : S8) : Nat → S8
  | 0 => s
  | n + 1 => rnd (rnds K W s n) (K n) (W n)
theorem rnd_ok {s : S8} (h : s.ok) (k w : Nat) : (rnd s k w).ok := by
  obtain ⟨h1, h2, h3, h4, h5, h6, h7, h8⟩ := h
  exact ⟨Nat.mod_lt _ (by decide), h1, h2, h3, Nat.mod_lt _ (by decide), h5, h6, h7⟩
theorem rnds_ok {K W : Nat → Nat} {s : S8} (h : s.ok) : ∀ n, (rnds K W s n).ok
  | 0 => h
  | n + 1 => rnd_ok (rnds_ok h n) _ _
def S8.vals (s : S8) : Array Value := #[U32 s.a, U32 s.b, U32 s.c, U32 s.d, U32 s.e, U32 s.f, U32 s.g, U32 s.h]

theorem vals_size (s : S8) : s.vals.size = 8 := rfl
theorem info8w : (Tryz.prog.info? 45).map (·.size) = some 8 := by kernel_rfl
theorem vals_one (s : S8) : s.vals.all (·.oneCell') = true := by kernel_rfl
theorem quiet_left {P : Program} {f : FuncId} {args : Array Value} {w : World} {n : Nat} {v : Value}
    (h : Calls P f args (w.drewN n) fun e w' => e = .returned v ∧ w.drewN n = w') : Calls P f args (w.drewN n) fun e w'' => e = .returned v ∧ ∃ m, w'' = w.drewN m :=
  h.mono fun _ _ ⟨he, hm⟩ => ⟨he, n, hm.symm⟩

def z8 : Array Value := Array.replicate 8 (U32 0)
theorem z8_size : z8.size = 8 := by simp [z8]
theorem z8_run (w : World) : (zeroValue 45).run Tryz.prog w = .ok (.agg z8) w := by kernel_rfl

set_option maxRecDepth 100000 in
set_option maxHeartbeats 1000000 in
theorem rounds_any (s : S8) (hs : s.ok) (kb wb : Nat) (K W : Nat → Nat) (hK : ∀ n, K n < 4294967296) (hW : ∀ n, W n < 4294967296) (w : World)
    (kl : kb < w.heap.size) (wl : wb < w.heap.size) (ck : ∀ n, n < 64 → w.cell? ⟨kb, n, none⟩ = some (.int .u32 (K n : Nat))) (cw : ∀ n, n < 64 → w.cell? ⟨wb, n, none⟩ = some (.int .u32 (W n : Nat))) :
    Calls Tryz.prog 94 #[.agg s.vals, .pointer (some ⟨kb, 0, none⟩), .pointer (some ⟨wb, 0, none⟩)] w fun e w' => e = .returned (.agg (rnds K W s 64).vals) ∧ Below w.heap.size w w' := by
  have hz := z8_run
  have CK := Lib.hid ck
  have CW := Lib.hid cw
  clear ck cw
  go_enter Tryz.func94, Tryz.ntmps94
  go_wp2
  obtain ⟨W0, hW0⟩ : ∃ W0, (w.alloc (Obj.cells s.vals 45)).alloc (Obj.cells z8 45) = W0 := ⟨_, rfl⟩
  rw [hW0]
  have b0 : Blk W0 w.heap.size 45 s.vals := by rw [← hW0]; exact (Blk.new _ _ _).alloc _
  have b1 : Blk W0 (w.heap.size + 1) 45 z8 := by rw [← hW0]; exact Blk.new_at (by simp)
  have hB : Below w.heap.size w W0 := by rw [← hW0]; exact ((Below.refl _ w).alloc (Nat.le_refl _) _).alloc (by simp) _
  clear hW0 hz
  have c0 := b0.cell 0
  have c1 := b0.cell 1
  have c2 := b0.cell 2
  have c3 := b0.cell 3
  have c4 := b0.cell 4
  have c5 := b0.cell 5
  have c6 := b0.cell 6
  have c7 := b0.cell 7
  simp only [S8.vals, U32, List.getElem?_toArray, List.getElem?_cons_zero, List.getElem?_cons_succ] at c0 c1 c2 c3 c4 c5 c6 c7
  go_quiet (fail)
  clear c0 c1 c2 c3 c4 c5 c6 c7
  go_wp2
  go_loopw [7, 8, 9, 10, 11, 12, 13, 14, 34] (fun a b c d e f g h i wr => ∃ n : Nat, n ≤ 64 ∧ i = .int .i64 n ∧ a = .int .u32 ((rnds K W s n).a : Nat) ∧ b = .int .u32 ((rnds K W s n).b : Nat) ∧ c = .int .u32 ((rnds K W s n).c : Nat) ∧
      d = .int .u32 ((rnds K W s n).d : Nat) ∧ e = .int .u32 ((rnds K W s n).e : Nat) ∧ f = .int .u32 ((rnds K W s n).f : Nat) ∧ g = .int .u32 ((rnds K W s n).g : Nat) ∧ h = .int .u32 ((rnds K W s n).h : Nat) ∧ Blk wr (w.heap.size + 1) 45 z8 ∧ Below w.heap.size w wr)
    (fun _ _ _ _ _ _ _ _ i _ => 64 - (intOf i).toNat)
  case atStart => exact ⟨0, by omega, rfl, rfl, rfl, rfl, rfl, rfl, rfl, rfl, rfl, b1, below_drewN hB _⟩
  case round =>
    obtain ⟨n, hn, rfl, rfl, rfl, rfl, rfl, rfl, rfl, rfl, rfl, hb1, hBr⟩ := hrel
    clear b0 b1 hB
    by_cases hlt : n < 64
    · have q1 : wr.cell? ⟨kb, n, none⟩ = some (.int .u32 (K n : Nat)) := (hBr.cell (p := ⟨kb, n, none⟩) kl).trans (CK.out n hlt)
      have q2 : wr.cell? ⟨wb, n, none⟩ = some (.int .u32 (W n : Nat)) := (hBr.cell (p := ⟨wb, n, none⟩) wl).trans (CW.out n hlt)
      have hk := hK n
      have hw := hW n
      have hlt' : (n : Int) < 64 := by omega
      obtain ⟨h1, h2, h3, h4, h5, h6, h7, h8⟩ := rnds_ok (K := K) (W := W) hs n
      have HR := Lib.hid (show rnds K W s (n + 1) = rnd (rnds K W s n) (K n) (W n) from rfl)
      generalize rnds K W s n = S at *
      generalize K n = kn at *
      generalize W n = wn at *
      go_wp2_with fail
      go_quiet ((first | (go_at_call 106; exact quiet_left (bS1_any _ h5 _)) | (go_at_call 107; exact quiet_left (cho_any _ _ _ h5 h6 h7 _))))
      go_wp2_with fail
      refine (bS0_any _ h1 _).mono ?_
      rintro e w' ⟨rfl, rfl⟩
      go_wp2_with fail
      refine (mjr_any _ _ _ h1 h2 h3 _).mono ?_
      rintro e w' ⟨rfl, rfl⟩
      go_wp2
      go_roundw
      case rel =>
        refine ⟨n + 1, by omega, by go_num, ?_, by rw [HR.out]; rfl, by rw [HR.out]; rfl, by rw [HR.out]; rfl, ?_, by rw [HR.out]; rfl, by rw [HR.out]; rfl, by rw [HR.out]; rfl, hb1, below_drewN hBr _⟩
        · rw [HR.out]; exact congrArg (Value.int .u32) (by simp [rnd, tOne, tTwo])
        · rw [HR.out]; exact congrArg (Value.int .u32) (by simp [rnd, tOne])
      case measure => simp [intOf]; omega
    · obtain rfl : n = 64 := by omega
      have ho : z8.size = (rnds K W s 64).vals.size := by rw [vals_size, z8_size]
      have HI := Lib.hid (show (Tryz.prog.info? 45).map (·.size) = some (rnds K W s 64).vals.size by rw [vals_size]; exact info8w)
      have HO := Lib.hid ho
      clear ho
      generalize hS : rnds K W s 64 = S at *
      have HS := Lib.hid hS
      clear hS
      go_wp2_with (refine wpList_build_as rfl 45 _ rfl S.vals (by kernel_rfl) ?_; refine wpList_store_row rfl 45 _ _ rfl (w.heap.size + 1) S.vals rfl rfl 45 z8 hb1 HI.out HO.out (vals_one S) ?_)
      refine bodyPost_ret (v := .agg S.vals) ?_ rfl ?_
      · exact results_cell_row rfl _ _ (w.heap.size + 1) 45 S.vals (0, 0) _ rfl (setRow_heap _ _ z8 _ _ _ hb1) Tryz.underlying45 rfl HI.out
      · exact ⟨by rw [HS.out], below_setRow hBr (by omega) _⟩
end Go.Proofs.YtjmjkcgldencoaaGreat
namespace Go.Proofs.YtjmjkcgldencoaaGreat
open Go.RowKit

def U64' (n : Nat) : Value := .int .u64 (n : Int)
def S8.list (s : S8) : List Nat := [s.a, s.b, s.c, s.d, s.e, s.f, s.g, s.h]
theorem S8.vals_list (s : S8) : s.vals = (s.list.map U32).toArray := rfl
theorem S8.list_length (s : S8) : s.list.length = 8 := rfl
theorem S8.list_lt {s : S8} (h : s.ok) : ∀ x ∈ s.list, x < 4294967296 := by
  obtain ⟨h1, h2, h3, h4, h5, h6, h7, h8⟩ := h
  intro x hx
  simp only [S8.list, List.mem_cons, List.not_mem_nil, or_false] at hx
  rcases hx with rfl | rfl | rfl | rfl | rfl | rfl | rfl | rfl <;> assumption
/-- the cells as a list -/
def digL (hl bs : List Nat) (n : Nat) : List Value := stdK.map U32 ++ (hl.map U32 ++ (bs.map U8 ++ [U64' n]))
def digA (hl bs : List Nat) (n : Nat) : Array Value := (digL hl bs n).toArray
theorem stdK_length : stdK.length = 64 := rfl
theorem digA_size {hl bs : List Nat} {n : Nat} (h8 : hl.length = 8) (h64 : bs.length = 64) : (digA hl bs n).size = 137 := by simp [digA, digL, h8, h64, stdK_length]
theorem digA_k {hl bs : List Nat} {n : Nat} (i : Nat) (hi : i < 64) : (digA hl bs n)[i]? = some (U32 (stdK.getD i 0)) := by
  have := stdK_length
  simp only [digA, digL, List.getElem?_toArray]
  rw [List.getElem?_append_left (by simp; omega)]
  simp [List.getD_eq_getElem?_getD, List.getElem?_eq_getElem (show i < stdK.length by omega)]
theorem digA_h {hl bs : List Nat} {n : Nat} (h8 : hl.length = 8) (i : Nat) (hi : i < 8) : (digA hl bs n)[64 + i]? = some (U32 (hl.getD i 0)) := by
  have := stdK_length
  simp only [digA, digL, List.getElem?_toArray]
  rw [List.getElem?_append_right (by simp; omega), List.getElem?_append_left (by simp; omega)]
  simp [List.getD_eq_getElem?_getD, stdK_length, List.getElem?_eq_getElem (show i < hl.length by omega)]
theorem digA_b {hl bs : List Nat} {n : Nat} (h8 : hl.length = 8) (h64 : bs.length = 64) (i : Nat) (hi : i < 64) : (digA hl bs n)[72 + i]? = some (U8 (bs.getD i 0)) := by
  have := stdK_length
  simp only [digA, digL, List.getElem?_toArray]
  rw [List.getElem?_append_right (by simp; omega), List.getElem?_append_right (by simp; omega), List.getElem?_append_left (by simp; omega)]
  have e : 72 + i - (stdK.map U32).length - (hl.map U32).length = i := by simp; omega
  rw [e]
  simp [List.getD_eq_getElem?_getD, List.getElem?_eq_getElem (show i < bs.length by omega)]
theorem digA_n {hl bs : List Nat} {n : Nat} (h8 : hl.length = 8) (h64 : bs.length = 64) : (digA hl bs n)[136]? = some (U64' n) := by
  have := stdK_length
  simp only [digA, digL, List.getElem?_toArray]
  rw [List.getElem?_append_right (by simp; omega), List.getElem?_append_right (by simp; omega), List.getElem?_append_right (by simp; omega)]
  have e : 136 - (stdK.map U32).length - (hl.map U32).length - (bs.map U8).length = 0 := by simp; omega
  rw [e]
  rfl
theorem digA_setN {hl bs : List Nat} {n : Nat} (h8 : hl.length = 8) (h64 : bs.length = 64) (m : Nat) : (digA hl bs n).setIfInBounds 136 (U64' m) = digA hl bs m := by
  have := stdK_length
  simp only [digA, digL, List.setIfInBounds_toArray]
  congr 1
  rw [List.set_append_right _ _ (by simp; omega), List.set_append_right _ _ (by simp; omega), List.set_append_right _ _ (by simp; omega)]
  have e : 136 - (stdK.map U32).length - (hl.map U32).length - (bs.map U8).length = 0 := by simp; omega
  rw [e]
  rfl
theorem digA_setH {hl bs : List Nat} {n : Nat} (h8 : hl.length = 8) (i x : Nat) (hi : i < 8) : (digA hl bs n).setIfInBounds (64 + i) (U32 x) = digA (hl.set i x) bs n := by
  have := stdK_length
  simp only [digA, digL, List.setIfInBounds_toArray]
  congr 1
  rw [List.set_append_right _ _ (by simp; omega), List.set_append_left _ _ (by simp; omega)]
  have e : 64 + i - (stdK.map U32).length = i := by simp; omega
  rw [e, List.map_set]
theorem digL_len {hl bs : List Nat} {n : Nat} (h8 : hl.length = 8) (h64 : bs.length = 64) : (digL hl bs n).length = 137 := by simp [digL, h8, h64, stdK_length]
theorem digA_splice {hl bs : List Nat} {n : Nat} (h8 : hl.length = 8) (h64 : bs.length = 64) (o : Nat) (xs : List Nat) (hx : o + xs.length ≤ 64) :
    ((digA hl bs n).toList.take (72 + o) ++ xs.map U8 ++ (digA hl bs n).toList.drop (72 + o + xs.length)).toArray = digA hl (bs.take o ++ xs ++ bs.drop (o + xs.length)) n := by
  have hk := stdK_length
  simp only [digA]
  congr 1
  have hA : (stdK.map U32).length = 64 := by simp [hk]
  have hH : (hl.map U32).length = 8 := by simp [h8]
  have t1 : (digL hl bs n).take (72 + o) = stdK.map U32 ++ (hl.map U32 ++ (bs.take o).map U8) := by
    unfold digL
    rw [List.take_append, List.take_append, List.take_append, hA, hH, List.take_of_length_le (by rw [hA]; omega), List.take_of_length_le (by rw [hH]; omega)]
    simp only [List.length_map, h64, List.map_take]
    rw [show 72 + o - 64 - 8 = o by omega, show o - 64 = 0 by omega]
    simp
  have t2 : (digL hl bs n).drop (72 + o + xs.length) = (bs.drop (o + xs.length)).map U8 ++ [U64' n] := by
    unfold digL
    rw [List.drop_append, List.drop_append, List.drop_append, hA, hH, List.drop_of_length_le (by rw [hA]; omega), List.drop_of_length_le (by rw [hH]; omega)]
    simp only [List.length_map, h64, List.map_drop]
    rw [show 72 + o + xs.length - 64 - 8 = o + xs.length by omega, show o + xs.length - 64 = 0 by omega]
    simp
  rw [t1, t2]
  unfold digL
  simp [List.append_assoc]

/-- the first i of eight words added -/
def addTo (x y : List Nat) (i : Nat) : List Nat := (List.range 8).map fun j => if j < i then (x.getD j 0 + y.getD j 0) % 4294967296 else x.getD j 0
theorem addTo_length (x y : List Nat) (i : Nat) : (addTo x y i).length = 8 := by simp [addTo]
theorem addTo_zero {x : List Nat} (y : List Nat) (h : x.length = 8) : addTo x y 0 = x := by
  apply List.ext_getElem?
  intro j
  simp only [addTo, List.getElem?_map]
  by_cases hj : j < 8
  · simp [hj, List.getElem?_eq_getElem (show j < x.length by omega)]
  · simp [List.getElem?_eq_none (show (List.range 8).length ≤ j by simp; omega), List.getElem?_eq_none (show x.length ≤ j by omega)]
theorem addTo_at (x y : List Nat) (i : Nat) (h : i < 8) : (addTo x y i).getD i 0 = x.getD i 0 := by
  simp [addTo, List.getD_eq_getElem?_getD, h]
theorem addTo_succ (x y : List Nat) (i : Nat) (h : i < 8) : (addTo x y i).set i ((x.getD i 0 + y.getD i 0) % 4294967296) = addTo x y (i + 1) := by
  apply List.ext_getElem?
  intro j
  rw [List.getElem?_set]
  simp only [addTo, List.getElem?_map, List.length_map, List.length_range]
  by_cases hj : j < 8
  · by_cases e : i = j
    · subst e; simp [hj]
    · simp only [e, if_false, List.getElem?_range, hj]
      by_cases h2 : j < i
      · simp [h2, show j < i + 1 by omega]
      · simp [h2, show ¬ j < i + 1 by omega]
  · simp [List.getElem?_eq_none (show (List.range 8).length ≤ j by simp; omega)]
    omega
def S8.of (l : List Nat) : S8 := ⟨l.getD 0 0, l.getD 1 0, l.getD 2 0, l.getD 3 0, l.getD 4 0, l.getD 5 0, l.getD 6 0, l.getD 7 0⟩
theorem S8.of_list {l : List Nat} (h : l.length = 8) : (S8.of l).list = l := by
  match l, h with
  | [_, _, _, _, _, _, _, _], _ => rfl
theorem S8.of_ok {l : List Nat} (h : ∀ x ∈ l, x < 4294967296) : (S8.of l).ok :=
  ⟨getD_lt h (by decide) _, getD_lt h (by decide) _, getD_lt h (by decide) _, getD_lt h (by decide) _, getD_lt h (by decide) _, getD_lt h (by decide) _, getD_lt h (by decide) _, getD_lt h (by decide) _⟩
/-- a block mixed into eight words -/
def mixed (hl : List Nat) (B : Nat → Nat) : List Nat := addTo hl (rnds (fun i => stdK.getD i 0) (fun i => (wl B 64).getD i 0) (S8.of hl) 64).list 8
theorem mixed_length (hl : List Nat) (B : Nat → Nat) : (mixed hl B).length = 8 := addTo_length _ _ _
theorem addTo_lt {x : List Nat} (y : List Nat) : ∀ v ∈ addTo x y 8, v < 4294967296 := by
  intro v hv
  simp only [addTo, List.mem_map, List.mem_range] at hv
  obtain ⟨j, hj, rfl⟩ := hv
  rw [if_pos hj]
  exact Nat.mod_lt _ (by decide)
theorem mixed_lt (hl : List Nat) (B : Nat → Nat) : ∀ v ∈ mixed hl B, v < 4294967296 := addTo_lt _
end Go.Proofs.YtjmjkcgldencoaaGreat
namespace Go.Proofs.YtjmjkcgldencoaaGreat
open Go.RowKit

def z64w : Array Value := Array.replicate 64 (U32 0)
theorem z64w_run (w : World) : (zeroValue 44).run Tryz.prog w = .ok (.agg z64w) w := by kernel_rfl
theorem z64w_eq : z64w = padded U32 64 [] := by rw [padded_nil]; rfl

theorem len64b : Tryz.prog.arrayLen 141 = 64 := by kernel_rfl
theorem elem64b : Tryz.prog.elem 141 = 5 := by kernel_rfl
theorem under64b : Tryz.prog.underlying 141 = some (.array (Tryz.prog.arrayLen 141) (Tryz.prog.elem 141)) := by kernel_rfl
theorem size8 (w : World) : (sizeOf (Tryz.prog.elem 141)).run Tryz.prog w = .ok 1 w := by kernel_rfl
theorem slice64 (db o l : Nat) (hl : l < 64) (W : World) : (Instr.sliceAt 141 (.pointer (some ⟨db, o, none⟩)) (some (.int .i64 (l : Int))) none none).run Tryz.prog W = .ok (.slice (some ⟨db, o + l, none⟩) (64 - l) (64 - l)) W := by
  rw [run_sliceAt_array_l W _ _ under64b .i64 (l : Int) (by omega) (by rw [len64b]; omega), size8, len64b]
  simp only [Result.andThen_ok, slicedAt, Int.toNat_natCast, if_neg (show ¬ 64 = l by omega), Nat.mul_one]
  have : (⟨db, o, none⟩ : Addr).add l = ⟨db, o + l, none⟩ := by unfold Addr.add; split <;> simp_all
  rw [this]

theorem flip_same {P : Program} {f : FuncId} {args : Array Value} {w : World} {v : Value} (h : Calls P f args w fun e w' => e = .returned v ∧ w = w') : Calls P f args w fun e w'' => e = .returned v ∧ w'' = w :=
  h.mono fun _ _ ⟨he, hw⟩ => ⟨he, hw.symm⟩
theorem sum_spell (a b c d : Nat) : IntKind.u32.wrap (IntKind.u32.wrap (IntKind.u32.wrap ((a : Int) + (b : Int)) + (c : Int)) + (d : Int)) = (((a + b + c + d) % 4294967296 : Nat) : Int) := by
  rw [IntKind.wrap_u32', IntKind.wrap_u32', IntKind.wrap_u32']; omega
theorem padded_one (m : Nat) (l : List Nat) : (padded U32 m l).all (·.oneCell') = true := by
  rw [Array.all_eq_true_iff_forall_mem]
  intro v hv
  unfold padded at hv
  rw [List.mem_toArray, List.mem_map] at hv
  obtain ⟨x, _, rfl⟩ := hv
  rfl
theorem wd_spell (x0 x1 x2 x3 : Nat) (h0 : x0 < 256) (h1 : x1 < 256) (h2 : x2 < 256) (h3 : x3 < 256) :
    bits BinOp.or .u32 (bits BinOp.or .u32 (bits BinOp.or .u32 (IntKind.u32.wrap (IntKind.u32.wrap (x0 : Int) * 16777216)) (IntKind.u32.wrap (IntKind.u32.wrap (x1 : Int) * 65536))) (IntKind.u32.wrap (IntKind.u32.wrap (x2 : Int) * 256))) (IntKind.u32.wrap (x3 : Int)) =
      ((x0 * 16777216 + x1 * 65536 + x2 * 256 + x3 : Nat) : Int) := by
  have e0 : IntKind.u32.wrap (IntKind.u32.wrap (x0 : Int) * 16777216) = ((x0 * 16777216 : Nat) : Int) := by rw [IntKind.wrap_u32', IntKind.wrap_u32']; omega
  have e1 : IntKind.u32.wrap (IntKind.u32.wrap (x1 : Int) * 65536) = ((x1 * 65536 : Nat) : Int) := by rw [IntKind.wrap_u32', IntKind.wrap_u32']; omega
  have e2 : IntKind.u32.wrap (IntKind.u32.wrap (x2 : Int) * 256) = ((x2 * 256 : Nat) : Int) := by rw [IntKind.wrap_u32', IntKind.wrap_u32']; omega
  have e3 : IntKind.u32.wrap (x3 : Int) = (x3 : Int) := by rw [IntKind.wrap_u32']; omega
  rw [e0, e1, e2, e3, u32_or_nat _ _ (by omega) (by omega), nat_join 24 _ _ (by omega) (by omega), u32_or_nat _ _ (by omega) (by omega), nat_join 16 _ _ (by omega) (by omega), u32_or_nat _ _ (by omega) (by omega), nat_join 8 _ _ (by omega) (by omega)]

set_option maxRecDepth 100000 in
set_option maxHeartbeats 1000000 in
theorem words_any (db o : Nat) (B : Nat → Nat) (hB8 : ∀ i, B i < 256) (w : World) (dl : db < w.heap.size) (cb : ∀ i, i < 64 → w.cell? ⟨db, o + i, none⟩ = some (.int .u8 (B i : Nat))) :
    Calls Tryz.prog 93 #[.pointer (some ⟨db, o, none⟩)] w fun e w' => e = .returned (.agg (padded U32 64 (wl B 64))) ∧ Below w.heap.size w w' := by
  have hz := z64w_run
  have CB := Lib.hid cb
  clear cb
  go_enter Tryz.func93, Tryz.ntmps93
  go_wp2
  obtain ⟨W0, hW0⟩ : ∃ W0, (w.alloc (Obj.cells z64w 44)).alloc (Obj.cells z64w 44) = W0 := ⟨_, rfl⟩
  rw [hW0]
  have b0 : Blk W0 w.heap.size 44 z64w := by rw [← hW0]; exact (Blk.new _ _ _).alloc _
  have b1 : Blk W0 (w.heap.size + 1) 44 (padded U32 64 (wl B 0)) := by rw [← hW0, show wl B 0 = [] from rfl, ← z64w_eq]; exact Blk.new_at (by simp)
  have hBe : Below w.heap.size w W0 := by rw [← hW0]; exact ((Below.refl _ w).alloc (Nat.le_refl _) _).alloc (by simp) _
  clear hW0 hz
  go_loopw [7] (fun i wr => ∃ n : Nat, n ≤ 16 ∧ i = .int .i64 n ∧ Blk wr w.heap.size 44 z64w ∧ Blk wr (w.heap.size + 1) 44 (padded U32 64 (wl B n)) ∧ Below w.heap.size w wr)
    (fun i _ => 16 - (intOf i).toNat)
  case atStart => exact ⟨0, by omega, rfl, b0, b1, hBe⟩
  case round =>
    obtain ⟨n, hn, rfl, a0, a1, hBr⟩ := hrel
    clear b0 b1 hBe
    by_cases hlt : n < 16
    · have hlt' : (n : Int) < 16 := by omega
      have hsl := fun W => slice64 db o (4 * n) (by omega) W
      simp only [Int.natCast_mul, Int.cast_ofNat_Int] at hsl
      have c0 : wr.cell? ⟨db, o + 4 * n, none⟩ = some (.int .u8 (B (4 * n) : Nat)) := (hBr.cell (p := ⟨db, _, none⟩) dl).trans (CB.out (4 * n) (by omega))
      have c1 : wr.cell? ⟨db, o + 4 * n + 1, none⟩ = some (.int .u8 (B (4 * n + 1) : Nat)) := (hBr.cell (p := ⟨db, _, none⟩) dl).trans (CB.out (4 * n + 1) (by omega))
      have c2 : wr.cell? ⟨db, o + 4 * n + 2, none⟩ = some (.int .u8 (B (4 * n + 2) : Nat)) := (hBr.cell (p := ⟨db, _, none⟩) dl).trans (CB.out (4 * n + 2) (by omega))
      have c3 : wr.cell? ⟨db, o + 4 * n + 3, none⟩ = some (.int .u8 (B (4 * n + 3) : Nat)) := (hBr.cell (p := ⟨db, _, none⟩) dl).trans (CB.out (4 * n + 3) (by omega))
      have d0 := hB8 (4 * n)
      have d1 := hB8 (4 * n + 1)
      have d2 := hB8 (4 * n + 2)
      have d3 := hB8 (4 * n + 3)
      have hlen := wl_length B n
      obtain ⟨ov, hov⟩ := padded_there U32 (m := 64) (l := wl B n) (by omega) (show n < 64 by omega)
      have q1 : wr.cell? ⟨w.heap.size + 1, n, none⟩ = some ov := (a1.cell n).trans hov
      have q2 := a1.frozen n
      obtain ⟨L, hL⟩ : ∃ L, 64 - 4 * n = L := ⟨_, rfl⟩
      rw [hL] at hsl
      have hl0 : 0 < L := by omega
      have h64 : (n : Int) < 64 := by omega
      have hl1 : (1 : Int) < (L : Int) := by omega
      have hl2 : (2 : Int) < (L : Int) := by omega
      have hl3 : (3 : Int) < (L : Int) := by omega
      clear hL
      have HW := Lib.hid (show wl B (n + 1) = wl B n ++ [wd B n] by show wl B n ++ [wnext B (wl B n) n] = _; unfold wnext; rw [if_pos hlt])
      have HL := Lib.hid hlen
      have HO := Lib.hid hov
      clear hlen hov
      have HD := Lib.hid (show wd B n = B (4 * n) * 16777216 + B (4 * n + 1) * 65536 + B (4 * n + 2) * 256 + B (4 * n + 3) from rfl)
      generalize B (4 * n) = x0 at *
      generalize B (4 * n + 1) = x1 at *
      generalize B (4 * n + 2) = x2 at *
      generalize B (4 * n + 3) = x3 at *
      go_wp2
      go_still_tail 24, (by kernel_rfl)
      change wpList _ _ _ _ _ wr.drew
      generalize hw2 : wr.drew = w2
      have q3 : w2.cell? ⟨w.heap.size + 1, n, none⟩ = some ov := by rw [← hw2]; exact q1
      have q4 : w2.frozen? ⟨w.heap.size + 1, n, none⟩ = false := by rw [← hw2]; exact q2
      have a0' : Blk w2 w.heap.size 44 z64w := by rw [← hw2]; exact a0
      have a1' : Blk w2 (w.heap.size + 1) 44 (padded U32 64 (wl B n)) := by rw [← hw2]; exact a1
      have hB2 : Below w.heap.size w w2 := by rw [← hw2]; exact hBr.drew
      have HS := Lib.hid (wd_spell x0 x1 x2 x3 d0 d1 d2 d3)
      clear hw2
      rw [HS.out]
      go_wp2
      go_roundw
      case rel =>
        refine ⟨n + 1, by omega, by go_num, a0'.far (by simp) _, ?_, hB2.setCell (p := ⟨w.heap.size + 1, n, none⟩) (by simp) _⟩
        rw [HW.out, HD.out]
        have := a1'.set_ n (U32 (x0 * 16777216 + x1 * 65536 + x2 * 256 + x3))
        have e := padded_set U32 (m := 64) (l := wl B n) (by rw [HL.out]; omega) (x0 * 16777216 + x1 * 65536 + x2 * 256 + x3)
        rw [HL.out] at e
        rw [e] at this
        simpa [U32] using this
      case measure => simp [intOf]; omega
    · obtain rfl : n = 16 := by omega
      clear hlt
      rw [show ((16 : Nat) : Int) = 16 from rfl]
      go_wp2
      go_loopw [6] (fun i wr => ∃ n : Nat, 16 ≤ n ∧ n ≤ 64 ∧ i = .int .i64 n ∧ Blk wr w.heap.size 44 z64w ∧ Blk wr (w.heap.size + 1) 44 (padded U32 64 (wl B n)) ∧ Below w.heap.size w wr)
        (fun i _ => 64 - (intOf i).toNat)
      case atStart => exact ⟨16, by omega, by omega, rfl, a0, a1, hBr⟩
      case round =>
        clear a0 a1 hBr
        obtain ⟨n, h16, hn, rfl, a0, a1, hBr⟩ := hrel
        by_cases hlt : n < 64
        · have h64 : (n : Int) < 64 := by omega
          have g16 : (16 : Int) ≤ (n : Int) := by omega
          obtain ⟨m, rfl⟩ : ∃ m, n = 16 + m := ⟨n - 16, by omega⟩
          have hl := wl_length B (16 + m)
          have hlt' := wl_lt hB8 (16 + m)
          have c2 := (a1.cell (14 + m)).trans (padded_at U32 (by omega))
          have c7 := (a1.cell (9 + m)).trans (padded_at U32 (by omega))
          have c15 := (a1.cell (1 + m)).trans (padded_at U32 (by omega))
          have c16 := (a1.cell m).trans (padded_at U32 (by omega))
          have d2 := getD_lt hlt' (by decide) (14 + m)
          have d7 := getD_lt hlt' (by decide) (9 + m)
          have d15 := getD_lt hlt' (by decide) (1 + m)
          have d16 := getD_lt hlt' (by decide) m
          have HW := Lib.hid (show wl B (16 + m + 1) = wl B (16 + m) ++ [(sS1 ((wl B (16 + m)).getD (14 + m) 0) + (wl B (16 + m)).getD (9 + m) 0 + sS0 ((wl B (16 + m)).getD (1 + m) 0) + (wl B (16 + m)).getD m 0) % 4294967296] by
            show wl B (16 + m) ++ [wnext B (wl B (16 + m)) (16 + m)] = _
            unfold wnext
            rw [if_neg (by omega), show 16 + m - 2 = 14 + m by omega, show 16 + m - 7 = 9 + m by omega, show 16 + m - 15 = 1 + m by omega, show 16 + m - 16 = m by omega])
          obtain ⟨ov, hov⟩ := padded_there U32 (m := 64) (l := wl B (16 + m)) (by omega) (show 16 + m < 64 by omega)
          have q1 : wr.cell? ⟨w.heap.size + 1, 16 + m, none⟩ = some ov := (a1.cell (16 + m)).trans hov
          have q2 := a1.frozen (16 + m)
          have HL := Lib.hid hl
          clear hl hov hlt'
          generalize (wl B (16 + m)).getD (14 + m) 0 = x2 at *
          generalize (wl B (16 + m)).getD (9 + m) 0 = x7 at *
          generalize (wl B (16 + m)).getD (1 + m) 0 = x15 at *
          generalize (wl B (16 + m)).getD m 0 = x16 at *
          unfold U32 at c2 c7 c15 c16
          have k2 : IntKind.i64.wrap (16 + (m : Int) - 2) = 14 + (m : Int) := by rw [IntKind.wrap_i64]; omega
          have k7 : IntKind.i64.wrap (16 + (m : Int) - 7) = 9 + (m : Int) := by rw [IntKind.wrap_i64]; omega
          have k15 : IntKind.i64.wrap (16 + (m : Int) - 15) = 1 + (m : Int) := by rw [IntKind.wrap_i64]; omega
          have k16 : IntKind.i64.wrap (16 + (m : Int) - 16) = (m : Int) := by rw [IntKind.wrap_i64]; omega
          have l2 : 14 + (m : Int) < 64 := by omega
          have l7 : 9 + (m : Int) < 64 := by omega
          have l15 : 1 + (m : Int) < 64 := by omega
          have l16 : (m : Int) < 64 := by omega
          have l0 : 16 + (m : Int) < 64 := by omega
          have p2 : 0 ≤ 14 + (m : Int) := by omega
          have p7 : 0 ≤ 9 + (m : Int) := by omega
          have p15 : 0 ≤ 1 + (m : Int) := by omega
          have p0 : 0 ≤ 16 + (m : Int) := by omega
          have t2 : (14 + (m : Int)).toNat = 14 + m := by omega
          have t7 : (9 + (m : Int)).toNat = 9 + m := by omega
          have t15 : (1 + (m : Int)).toNat = 1 + m := by omega
          have t0 : (16 + (m : Int)).toNat = 16 + m := by omega
          go_wp2
          refine wp_region_still_tail 23 (by kernel_rfl) (by kernel_rfl) ?_
          simp only [List.take_succ_cons, List.take_zero, List.drop_succ_cons, List.drop_zero]
          repeat still_step
          still_call (flip_same (sS1_any x2 d2 _))
          repeat still_step
          still_call (flip_same (sS0_any x15 d15 _))
          repeat still_step
          refine wpStill_nil ?_
          change wpList _ _ _ _ _ wr.drew
          clear k2 k7 k15 k16 t2 t7 t15
          generalize hw2 : wr.drew = w2
          have q3 : w2.cell? ⟨w.heap.size + 1, 16 + m, none⟩ = some ov := by rw [← hw2]; exact q1
          have q4 : w2.frozen? ⟨w.heap.size + 1, 16 + m, none⟩ = false := by rw [← hw2]; exact q2
          have a0' : Blk w2 w.heap.size 44 z64w := by rw [← hw2]; exact a0
          have a1' : Blk w2 (w.heap.size + 1) 44 (padded U32 64 (wl B (16 + m))) := by rw [← hw2]; exact a1
          have hB2 : Below w.heap.size w w2 := by rw [← hw2]; exact hBr.drew
          clear hw2
          rw [sum_spell (sS1 x2) x7 (sS0 x15) x16]
          obtain ⟨y, hy⟩ : ∃ y, (sS1 x2 + x7 + sS0 x15 + x16) % 4294967296 = y := ⟨_, rfl⟩
          rw [hy]
          have HY := Lib.hid hy
          clear hy
          go_wp2
          go_roundw
          case rel =>
            refine ⟨16 + m + 1, by omega, by omega, by go_num, a0'.far (by simp) _, ?_, hB2.setCell (p := ⟨w.heap.size + 1, 16 + m, none⟩) (by simp) _⟩
            rw [HW.out, HY.out]
            have := a1'.set_ (16 + m) (U32 y)
            have e := padded_set U32 (m := 64) (l := wl B (16 + m)) (by rw [HL.out]; omega) y
            rw [HL.out] at e
            rw [e] at this
            simpa [U32] using this
          case measure => simp [intOf]; omega
        · obtain rfl : n = 64 := by omega
          have hsz : (padded U32 64 (wl B 64)).size = 64 := padded_size U32 (by rw [wl_length]; omega)
          have hone : (padded U32 64 (wl B 64)).all (·.oneCell') = true := padded_one _ _
          obtain ⟨T, hT⟩ : ∃ T, padded U32 64 (wl B 64) = T := ⟨_, rfl⟩
          rw [hT] at hsz hone a1
          have HT := Lib.hid hT
          clear hT
          have HI := Lib.hid (show (Tryz.prog.info? 44).map (·.size) = some T.size by rw [hsz]; kernel_rfl)
          have HO := Lib.hid (show z64w.size = T.size by rw [hsz]; simp [z64w])
          have H1 := Lib.hid hone
          clear hsz hone
          go_wp2_with (first
            | (refine wpList_load_row rfl 44 _ rfl (w.heap.size + 1) rfl 44 T (0, 0) _ a1 Tryz.underlying44 rfl HI.out ?_)
            | (refine wpList_store_row rfl 44 _ _ rfl w.heap.size T rfl rfl 44 z64w a0 HI.out HO.out H1.out ?_))
          refine bodyPost_ret (v := .agg T) ?_ rfl ?_
          · exact results_cell_row rfl _ _ w.heap.size 44 T (0, 0) _ rfl (setRow_heap _ _ z64w _ _ _ a0) Tryz.underlying44 rfl HI.out
          · exact ⟨by rw [HT.out], below_setRow hBr (Nat.le_refl _) _⟩
end Go.Proofs.YtjmjkcgldencoaaGreat
namespace Go.Proofs.YtjmjkcgldencoaaGreat
open Go.RowKit

theorem filled_any (g n : Nat) (hn : n < 9223372036854775808) (w : World) (hc : w.cell? ⟨g, 136, none⟩ = some (.int .u64 (n : Nat))) :
    Calls Tryz.prog 80 #[.pointer (some ⟨g, 0, none⟩)] w fun e w' => e = .returned (.int .i64 ((n % 64 : Nat) : Int)) ∧ w = w' := by
  go_enter Tryz.func80, Tryz.ntmps80
  go_wp2
  go_ret
  exact ⟨rfl, rfl⟩

theorem wpStill_load_mid {P : Program} {ops : Array Oper} {rest : List Oper} {op : Oper} {a : Act} {w : World} {Q : Act → Prop} (hgd : op.guard = none) (ty : TypeId) (x : Operand) (ho : op.op = .load ty x)
    (b o : Nat) (hx : a.eval x = .pointer (some ⟨b, o, none⟩)) (cs : List Value) (d : TypeDesc) (hc : w.rangeAt b o cs)
    (hu : P.underlying ty = some d) (hd : d.isRow = true) (hi : (P.info? ty).map (·.size) = some cs.length)
    (h : wpStill P ops w Q rest (a.put op.dst (.agg cs.toArray))) : wpStill P ops w Q (op :: rest) a := by
  unfold wpStill
  rw [if_pos (by simp [Region.wanted, hgd])]
  unfold Oper.still execOp
  simp only [ho, hx, Instr.loadAt, Instr.sureAddr, Sem.run_bind, Sem.run_pure, Result.andThen_ok, run_loadVar_mid w b o ty cs d hc hu hd hi, Oper.stillUpon_value]
  exact h

theorem range_h {w : World} {g : Nat} {hl bs : List Nat} {n : Nat} (h8 : hl.length = 8) (hb : Blk w g 143 (digA hl bs n)) : w.rangeAt g 64 (hl.map U32) := by
  intro j v hv
  rw [hb.cell]
  have hj : j < 8 := by
    have := (List.getElem?_eq_some_iff.1 hv).1
    simpa [h8] using this
  rw [digA_h h8 j hj, ← hv]
  simp [List.getD_eq_getElem?_getD, List.getElem?_eq_getElem (show j < hl.length by omega)]

theorem below_reads {W w1 : World} (hb : Below W.heap.size W w1) : (∀ b o, b < W.heap.size → w1.cell? ⟨b, o, none⟩ = W.cell? ⟨b, o, none⟩) ∧ (∀ b o, b < W.heap.size → w1.frozen? ⟨b, o, none⟩ = W.frozen? ⟨b, o, none⟩) :=
  ⟨fun b o h => hb.cell (p := ⟨b, o, none⟩) h, fun b o h => hb.frozen (p := ⟨b, o, none⟩) h⟩
theorem add_spell (x y : Nat) : IntKind.u32.wrap ((x : Int) + (y : Int)) = (((x + y) % 4294967296 : Nat) : Int) := by rw [IntKind.wrap_u32']; omega
theorem only_set {a w : World} {g : Nat} (h : a.grownBy w (some g)) (i : Nat) (u : Value) : a.grownBy (w.setCell ⟨g, i, none⟩ u) (some g) :=
  ⟨h.os, h.tape, h.output, by simpa [World.setCell] using h.size, fun k hk hne => (Below.heap_setCell w _ u k (by rintro rfl; exact hne rfl)).trans (h.block k hk hne)⟩
theorem z8lit_run (w : World) : (zeroValue 45).run Tryz.prog w = .ok (.agg #[.int .u32 0, .int .u32 0, .int .u32 0, .int .u32 0, .int .u32 0, .int .u32 0, .int .u32 0, .int .u32 0]) w := by kernel_rfl

set_option maxRecDepth 100000 in
set_option maxHeartbeats 1000000 in
theorem mix_s (g : Nat) (s : S8) (bs : List Nat) (n : Nat) (h64 : bs.length = 64) (hs : s.ok) (hbt : ∀ x ∈ bs, x < 256) (w : World) (hb : Blk w g 143 (digA s.list bs n)) :
    Calls Tryz.prog 81 #[.pointer (some ⟨g, 0, none⟩)] w fun e w' => e = .returned (.tuple #[]) ∧ Blk w' g 143 (digA (mixed s.list fun i => bs.getD i 0) bs n) ∧ w.grownBy w' (some g) := by
  have h8 := s.list_length
  have hz := z64w_run
  have hz8 := z8lit_run
  go_enter Tryz.func81, Tryz.ntmps81
  go_wp2_with fail
  refine (words_any g 72 (fun i => bs.getD i 0) (fun i => getD_lt hbt (by decide) i) w hb.lt (fun i hi => by rw [hb.cell, digA_b h8 h64 i hi]; rfl)).mono ?_
  rintro e w1 ⟨rfl, hB1⟩
  have hsz : (padded U32 64 (wl (fun i => bs.getD i 0) 64)).size = 64 := padded_size U32 (by rw [wl_length]; omega)
  have hone := padded_one 64 (wl (fun i => bs.getD i 0) 64)
  have hW : ∀ j, j < 64 → (padded U32 64 (wl (fun i => bs.getD i 0) 64))[j]? = some (U32 ((wl (fun i => bs.getD i 0) 64).getD j 0)) := fun j hj => padded_at U32 (by rw [wl_length]; exact hj)
  have HM := Lib.hid (show mixed s.list (fun i => bs.getD i 0) = addTo s.list (rnds (fun i => stdK.getD i 0) (fun i => (wl (fun i => bs.getD i 0) 64).getD i 0) s 64).list 8 from rfl)
  have hwlt := wl_lt (fun i => getD_lt hbt (by decide) i) 64
  generalize hwl : wl (fun i => bs.getD i 0) 64 = ws at *
  clear hwl
  obtain ⟨T, hT⟩ : ∃ T, padded U32 64 ws = T := ⟨_, rfl⟩
  rw [hT] at hsz hone hW ⊢
  clear hT
  have HI := Lib.hid (show (Tryz.prog.info? 44).map (·.size) = some T.size by rw [hsz]; kernel_rfl)
  have HO := Lib.hid (show z64w.size = T.size by rw [hsz]; simp [z64w])
  have H1 := Lib.hid hone
  have HW := Lib.hid hW
  clear hsz hone hW
  go_wp2_with (refine wpList_store_row rfl 44 _ _ rfl w1.heap.size T rfl rfl 44 z64w (Blk.new _ _ _) HI.out HO.out H1.out ?_)
  rw [World.setRow_alloc_new]
  obtain ⟨w2, hw2⟩ : ∃ w2, w1.alloc (Obj.cells T 44) = w2 := ⟨_, rfl⟩
  rw [hw2]
  have b1 : Blk w2 w1.heap.size 44 T := by rw [← hw2]; exact Blk.new _ _ _
  have hB2 : Below w.heap.size w w2 := by rw [← hw2]; exact hB1.alloc hB1.size _
  have hs2 : w1.heap.size < w2.heap.size := b1.lt
  have b0 := hb.below hB2 hb.lt
  clear hw2
  have keepS : ∀ x, Below w2.heap.size w2 x → x.cell? ⟨g, 64, none⟩ = some (.int .u32 (s.a : Nat)) ∧ x.cell? ⟨g, 65, none⟩ = some (.int .u32 (s.b : Nat)) ∧ x.cell? ⟨g, 66, none⟩ = some (.int .u32 (s.c : Nat)) ∧ x.cell? ⟨g, 67, none⟩ = some (.int .u32 (s.d : Nat)) ∧ x.cell? ⟨g, 68, none⟩ = some (.int .u32 (s.e : Nat)) ∧ x.cell? ⟨g, 69, none⟩ = some (.int .u32 (s.f : Nat)) ∧ x.cell? ⟨g, 70, none⟩ = some (.int .u32 (s.g : Nat)) ∧ x.cell? ⟨g, 71, none⟩ = some (.int .u32 (s.h : Nat)) ∧ Below w2.heap.size w2 x := fun x hx => by
    have c := b0.below hx b0.lt
    exact ⟨(c.cell 64).trans (digA_h h8 0 (by omega)), (c.cell 65).trans (digA_h h8 1 (by omega)), (c.cell 66).trans (digA_h h8 2 (by omega)), (c.cell 67).trans (digA_h h8 3 (by omega)), (c.cell 68).trans (digA_h h8 4 (by omega)), (c.cell 69).trans (digA_h h8 5 (by omega)), (c.cell 70).trans (digA_h h8 6 (by omega)), (c.cell 71).trans (digA_h h8 7 (by omega)), hx⟩
  obtain ⟨S, hS⟩ : ∃ S, rnds (fun i => stdK.getD i 0) (fun i => ws.getD i 0) s 64 = S := ⟨_, rfl⟩
  have rc : ∀ x, Below w2.heap.size w2 x → Calls Tryz.prog 94 #[.agg #[.int .u32 (s.a : Nat), .int .u32 (s.b : Nat), .int .u32 (s.c : Nat), .int .u32 (s.d : Nat), .int .u32 (s.e : Nat), .int .u32 (s.f : Nat), .int .u32 (s.g : Nat), .int .u32 (s.h : Nat)], .pointer (some ⟨g, 0, none⟩), .pointer (some ⟨w1.heap.size, 0, none⟩)] x fun e w' =>
      e = .returned (.agg #[.int .u32 (S.a : Nat), .int .u32 (S.b : Nat), .int .u32 (S.c : Nat), .int .u32 (S.d : Nat), .int .u32 (S.e : Nat), .int .u32 (S.f : Nat), .int .u32 (S.g : Nat), .int .u32 (S.h : Nat)]) ∧ Below x.heap.size x w' := by
    intro x hx
    have c0 := b0.below hx b0.lt
    have c1 := b1.below hx hs2
    have := rounds_any s hs g w1.heap.size (fun i => stdK.getD i 0) (fun i => ws.getD i 0) (fun i => stdK_lt i) (fun i => getD_lt hwlt (by decide) i) x c0.lt c1.lt
      (fun j hj => by rw [c0.cell, digA_k j hj]; rfl) (fun j hj => by rw [c1.cell, HW.out j hj]; rfl)
    rw [hS] at this
    exact this
  rw [hS] at HM
  have HR := Lib.hid rc
  have HK := Lib.hid keepS
  clear hS rc keepS
  go_simp
  go_upto_region 1 with fail
  go_cut [3] (fun s3 wx => ∃ ga : Nat, s3 = .pointer (some ⟨ga, 0, none⟩) ∧ w2.heap.size ≤ ga ∧ Blk wx ga 45 S.vals ∧ Below w2.heap.size w2 wx)
  case first =>
    go_region_held3 (fun w' => w'.cell? ⟨g, 64, none⟩ = some (.int .u32 (s.a : Nat)) ∧ w'.cell? ⟨g, 65, none⟩ = some (.int .u32 (s.b : Nat)) ∧ w'.cell? ⟨g, 66, none⟩ = some (.int .u32 (s.c : Nat)) ∧ w'.cell? ⟨g, 67, none⟩ = some (.int .u32 (s.d : Nat)) ∧ w'.cell? ⟨g, 68, none⟩ = some (.int .u32 (s.e : Nat)) ∧ w'.cell? ⟨g, 69, none⟩ = some (.int .u32 (s.f : Nat)) ∧ w'.cell? ⟨g, 70, none⟩ = some (.int .u32 (s.g : Nat)) ∧ w'.cell? ⟨g, 71, none⟩ = some (.int .u32 (s.h : Nat)) ∧ Below w2.heap.size w2 w')
      ((refine HK.out _ ?_; repeat (first | with_reducible exact Below.refl _ _ | with_reducible exact hB4' | with_reducible refine Below.drew ?_ | ((with_reducible refine Below.setCell ?_ ?_ _); rotate_left; simp) | ((with_reducible refine Below.alloc ?_ ?_ _); rotate_left; (first | exact Nat.le_refl _ | exact hB4'.size | simp)))))
      (first | (go_at_call 94; refine (HR.out _ (by first | exact (Below.refl _ _).drew | exact ((Below.refl _ _).drew).alloc (Nat.le_refl _) _)).mono ?_; rintro e w4 ⟨rfl, hB4⟩; obtain ⟨hc4, hf4⟩ := below_reads hB4; have hB4' : Below w2.heap.size w2 w4 := (by first | exact (Below.refl _ _).drew.trans hB4 | exact (((Below.refl _ _).drew).alloc (Nat.le_refl _) _).trans (hB4.mono (by simp)))))
    · go_wp2_with fail
      go_meet
      exact ⟨w4.heap.size, rfl, hB4'.size, Blk.new _ _ _, hB4'.alloc hB4'.size _⟩
    · go_wp2_with fail
      go_meet
      have k : Blk w4 w2.heap.size 45 #[.int .u32 0, .int .u32 0, .int .u32 0, .int .u32 0, .int .u32 0, .int .u32 0, .int .u32 0, .int .u32 0] := Blk.below (Blk.new _ _ _).drew hB4 (by simp [World.drew])
      refine ⟨w2.heap.size, rfl, Nat.le_refl _, ?_, ?_⟩
      · exact (((((((k.set_ 0 _).set_ 1 _).set_ 2 _).set_ 3 _).set_ 4 _).set_ 5 _).set_ 6 _).set_ 7 _
      · exact (((((((hB4'.setCell (Nat.le_refl _) _).setCell (Nat.le_refl _) _).setCell (Nat.le_refl _) _).setCell (Nat.le_refl _) _).setCell (Nat.le_refl _) _).setCell (Nat.le_refl _) _).setCell (Nat.le_refl _) _).setCell (Nat.le_refl _) _
  case rest =>
    obtain ⟨ga, rfl, hga, b2, hBc⟩ := hcut
    have b0 := b0.below hBc b0.lt
    have hBw : Below w.heap.size w wc := hB2.trans (hBc.mono hB2.size)
    have hgl := hb.lt
    have hne : g ≠ ga := by have := hB2.size; omega
    have hgw : w.grownBy wc (some g) := ⟨hBw.os, hBw.tape, hBw.output, hBw.size, fun i hi _ => hBw.block i hi⟩
    clear b1 hBc hB1 hz hz8 HR HK
    go_wp2
    go_loopw [17] (fun i wr => ∃ k : Nat, k ≤ 8 ∧ i = .int .i64 k ∧ Blk wr g 143 (digA (addTo s.list S.list k) bs n) ∧ Blk wr ga 45 S.vals ∧ w.grownBy wr (some g))
      (fun i _ => 8 - (intOf i).toNat)
    case atStart => exact ⟨0, by omega, rfl, by rw [addTo_zero _ h8]; exact b0, b2, hgw⟩
    case round =>
      clear b0 b2 hgw hBw
      obtain ⟨k, hk, rfl, b0, b2, hgw⟩ := hrel
      by_cases hlt : k < 8
      · have hlt' : (k : Int) < 8 := by omega
        have c0 : wr.cell? ⟨g, 64 + k, none⟩ = some (.int .u32 (s.list.getD k 0 : Nat)) := (b0.cell (64 + k)).trans (by rw [digA_h (addTo_length _ _ _) k hlt, addTo_at _ _ _ hlt]; rfl)
        have c1 : wr.cell? ⟨ga, k, none⟩ = some (.int .u32 (S.list.getD k 0 : Nat)) := (b2.cell k).trans (by rw [S8.vals_list, map_at (show k < S.list.length from hlt)]; rfl)
        have f0 := b0.frozen (64 + k)
        have HA := Lib.hid (addTo_succ s.list S.list k hlt)
        generalize s.list.getD k 0 = x at *
        generalize S.list.getD k 0 = y at *
        go_wp2
        go_still_tail 13, (by kernel_rfl)
        change wpList _ _ _ _ _ wr.drew
        obtain ⟨w5, hw5⟩ : ∃ w5, wr.drew = w5 := ⟨_, rfl⟩
        rw [hw5]
        have b0' : Blk w5 g 143 (digA (addTo s.list S.list k) bs n) := by rw [← hw5]; exact b0
        have b2' : Blk w5 ga 45 S.vals := by rw [← hw5]; exact b2
        have hgw' : w.grownBy w5 (some g) := by rw [← hw5]; exact ⟨hgw.os, hgw.tape, hgw.output, hgw.size, hgw.block⟩
        have c0' : w5.cell? ⟨g, 64 + k, none⟩ = some (.int .u32 (x : Nat)) := by rw [← hw5]; exact c0
        have f0' : w5.frozen? ⟨g, 64 + k, none⟩ = false := by rw [← hw5]; exact f0
        clear hw5
        rw [add_spell x y]
        obtain ⟨z, hz⟩ : ∃ z, (x + y) % 4294967296 = z := ⟨_, rfl⟩
        rw [hz] at HA ⊢
        clear hz
        go_wp2
        go_roundw
        case rel =>
          refine ⟨k + 1, by omega, by go_num, ?_, b2'.far (by simpa using Ne.symm hne) _, only_set hgw' _ _⟩
          rw [← HA.out, ← digA_setH (addTo_length _ _ _) k z hlt]
          exact b0'.set_ (64 + k) (U32 z)
        case measure => simp [intOf]; omega
      · obtain rfl : k = 8 := by omega
        go_wp2
        go_end0
        exact ⟨rfl, by rw [HM.out]; exact b0, hgw⟩

theorem mix_any (g : Nat) (hl bs : List Nat) (n : Nat) (h8 : hl.length = 8) (h64 : bs.length = 64) (hlt : ∀ x ∈ hl, x < 4294967296) (hbt : ∀ x ∈ bs, x < 256) (w : World) (hb : Blk w g 143 (digA hl bs n)) :
    Calls Tryz.prog 81 #[.pointer (some ⟨g, 0, none⟩)] w fun e w' => e = .returned (.tuple #[]) ∧ Blk w' g 143 (digA (mixed hl fun i => bs.getD i 0) bs n) ∧ w.grownBy w' (some g) := by
  have := mix_s g (S8.of hl) bs n h64 (S8.of_ok hlt) hbt w
  rw [S8.of_list h8] at this
  exact this hb
end Go.Proofs.YtjmjkcgldencoaaGreat

/-
  sha's rounds: eight words go through the rounds, each for every world. A digest's cells: the table, eight words, a block's bytes, how many bytes were written.
-/
import Derived.Test.YtakgolbgeeoioaaGreatPrimBitsFrac
import Derived.Test.YtakgolbgeeoioaaGreatMakeTableStdSched
import Derived.BigQuiet
import Derived.Deep.QuietTactic
import Derived.Deep.WholeRow
import Derived.Deep.MidRow
namespace Go.Proofs.YtakgolbgeeoioaaGreat
open Go.RowKit

/-- eight words -/
structure S8 where
 a : Nat
 b : Nat
 c : Nat
 d : Nat
 e : Nat
 f : Nat
 g : Nat
 h : Nat
def S8.ok (s : S8) : Prop := s.a < 4294967296 ∧ s.b < 4294967296 ∧ s.c < 4294967296 ∧ s.d < 4294967296 ∧ s.e < 4294967296 ∧ s.f < 4294967296 ∧ s.g < 4294967296 ∧ s.h < 4294967296
def tOne (s : S8) (k w : Nat) : Nat := (s.h + bS1 s.e + cho s.e s.f s.g + k + w) % 4294967296
def tTwo (s : S8) : Nat := (bS0 s.a + mjr s.a s.b s.c) % 4294967296
/-- one round -/
def rnd (s : S8) (k w : Nat) : S8 := ⟨(tOne s k w + tTwo s) % 4294967296, s.a, s.b, s.c, (s.d + tOne s k w) % 4294967296, s.e, s.f, s.g⟩
/-- the first n rounds -/
def rnds (K W : Nat → Nat) (s : S8) : Nat → S8
 | 0 => s
 | n + 1 => rnd (rnds K W s n) (K n) (W n)
theorem rnd_ok {s : S8} (h : s.ok) (k w : Nat) : (rnd s k w).ok := by
 obtain ⟨h1, h2, h3, h4, h5, h6, h7, h8⟩ := h
 exact ⟨Nat.mod_lt _ (by decide), h1, h2, h3, Nat.mod_lt _ (by decide), h5, h6, h7⟩
theorem rnds_ok {K W : Nat → Nat} {s : S8} (h : s.ok) : ∀ n, (rnds K W s n).ok
 | 0 => h
 | n + 1 => rnd_ok (rnds_ok h n) _ _
def S8.vals (s : S8) : Array Value := #[U32 s.a, U32 s.b, U32 s.c, U32 s.d, U32 s.e, U32 s.f, U32 s.g, U32 s.h]

theorem vals_size (s : S8) : s.vals.size = 8 := rfl
theorem info8w : (Tryz.prog.info? 27).map (·.size) = some 8 := by kernel_rfl
theorem vals_one (s : S8) : s.vals.all (·.oneCell') = true := by kernel_rfl
theorem quiet_left {P : Program} {f : FuncId} {args : Array Value} {w : World} {n : Nat} {v : Value}
 (h : Calls P f args (w.drewN n) fun e w' => e = .returned v ∧ w.drewN n = w') : Calls P f args (w.drewN n) fun e w'' => e = .returned v ∧ ∃ m, w'' = w.drewN m :=
 h.mono fun _ _ ⟨he, hm⟩ => ⟨he, n, hm.symm⟩

def z8 : Array Value := Array.replicate 8 (U32 0)
theorem z8_size : z8.size = 8 := by simp [z8]
theorem z8_run (w : World) : (zeroValue 27).run Tryz.prog w = .ok (.agg z8) w := by kernel_rfl

set_option maxRecDepth 100000 in
set_option maxHeartbeats 1000000 in
theorem rounds_any (s : S8) (hs : s.ok) (kb wb : Nat) (K W : Nat → Nat) (hK : ∀ n, K n < 4294967296) (hW : ∀ n, W n < 4294967296) (w : World)
 (kl : kb < w.heap.size) (wl : wb < w.heap.size) (ck : ∀ n, n < 64 → w.cell? ⟨kb, n, none⟩ = some (.int .u32 (K n : Nat))) (cw : ∀ n, n < 64 → w.cell? ⟨wb, n, none⟩ = some (.int .u32 (W n : Nat))) :
 Calls Tryz.prog 122 #[.agg s.vals, .pointer (some ⟨kb, 0, none⟩), .pointer (some ⟨wb, 0, none⟩)] w fun e w' => e = .returned (.agg (rnds K W s 64).vals) ∧ Below w.heap.size w w' := by
 have hz := z8_run
 have CK := Lib.hid ck
 have CW := Lib.hid cw
 clear ck cw
 go_enter Tryz.func122, Tryz.ntmps122
 go_wp2
 obtain ⟨W0, hW0⟩ : ∃ W0, (w.alloc (Obj.cells s.vals 27)).alloc (Obj.cells z8 27) = W0 := ⟨_, rfl⟩
 rw [hW0]
 have b0 : Blk W0 w.heap.size 27 s.vals := by rw [← hW0]; exact (Blk.new _ _ _).alloc _
 have b1 : Blk W0 (w.heap.size + 1) 27 z8 := by rw [← hW0]; exact Blk.new_at (by simp)
 have hB : Below w.heap.size w W0 := by rw [← hW0]; exact ((Below.refl _ w).alloc (Nat.le_refl _) _).alloc (by simp) _
 clear hW0 hz
 have c0 := b0.cell 0
 have c1 := b0.cell 1
 have c2 := b0.cell 2
 have c3 := b0.cell 3
 have c4 := b0.cell 4
 have c5 := b0.cell 5
 have c6 := b0.cell 6
 have c7 := b0.cell 7
 simp only [S8.vals, U32, List.getElem?_toArray, List.getElem?_cons_zero, List.getElem?_cons_succ] at c0 c1 c2 c3 c4 c5 c6 c7
 go_quiet (fail)
 clear c0 c1 c2 c3 c4 c5 c6 c7
 go_wp2
 go_loopw [7, 8, 9, 10, 11, 12, 13, 14, 34] (fun a b c d e f g h i wr => ∃ n : Nat, n ≤ 64 ∧ i = .int .i64 n ∧ a = .int .u32 ((rnds K W s n).a : Nat) ∧ b = .int .u32 ((rnds K W s n).b : Nat) ∧ c = .int .u32 ((rnds K W s n).c : Nat) ∧
  d = .int .u32 ((rnds K W s n).d : Nat) ∧ e = .int .u32 ((rnds K W s n).e : Nat) ∧ f = .int .u32 ((rnds K W s n).f : Nat) ∧ g = .int .u32 ((rnds K W s n).g : Nat) ∧ h = .int .u32 ((rnds K W s n).h : Nat) ∧ Blk wr (w.heap.size + 1) 27 z8 ∧ Below w.heap.size w wr)
  (fun _ _ _ _ _ _ _ _ i _ => 64 - (intOf i).toNat)
 case atStart => exact ⟨0, by omega, rfl, rfl, rfl, rfl, rfl, rfl, rfl, rfl, rfl, b1, below_drewN hB _⟩
 case round =>
  obtain ⟨n, hn, rfl, rfl, rfl, rfl, rfl, rfl, rfl, rfl, rfl, hb1, hBr⟩ := hrel
  clear b0 b1 hB
  by_cases hlt : n < 64
  · have q1 : wr.cell? ⟨kb, n, none⟩ = some (.int .u32 (K n : Nat)) := (hBr.cell (p := ⟨kb, n, none⟩) kl).trans (CK.out n hlt)
    have q2 : wr.cell? ⟨wb, n, none⟩ = some (.int .u32 (W n : Nat)) := (hBr.cell (p := ⟨wb, n, none⟩) wl).trans (CW.out n hlt)
    have hk := hK n
    have hw := hW n
    have hlt' : (n : Int) < 64 := by omega
    obtain ⟨h1, h2, h3, h4, h5, h6, h7, h8⟩ := rnds_ok (K := K) (W := W) hs n
    have HR := Lib.hid (show rnds K W s (n + 1) = rnd (rnds K W s n) (K n) (W n) from rfl)
    generalize rnds K W s n = S at *
    generalize K n = kn at *
    generalize W n = wn at *
    go_wp2_with fail
    go_quiet ((first | (go_at_call 134; exact quiet_left (bS1_any _ h5 _)) | (go_at_call 135; exact quiet_left (cho_any _ _ _ h5 h6 h7 _))))
    go_wp2_with fail
    refine (bS0_any _ h1 _).mono ?_
    rintro e w' ⟨rfl, rfl⟩
    go_wp2_with fail
    refine (mjr_any _ _ _ h1 h2 h3 _).mono ?_
    rintro e w' ⟨rfl, rfl⟩
    go_wp2
    go_roundw
    case rel =>
     refine ⟨n + 1, by omega, by go_num, ?_, by rw [HR.out]; rfl, by rw [HR.out]; rfl, by rw [HR.out]; rfl, ?_, by rw [HR.out]; rfl, by rw [HR.out]; rfl, by rw [HR.out]; rfl, hb1, below_drewN hBr _⟩
     · rw [HR.out]; exact congrArg (Value.int .u32) (by simp [rnd, tOne, tTwo])
     · rw [HR.out]; exact congrArg (Value.int .u32) (by simp [rnd, tOne])
    case measure => simp [intOf]; omega
  · obtain rfl : n = 64 := by omega
    have ho : z8.size = (rnds K W s 64).vals.size := by rw [vals_size, z8_size]
    have HI := Lib.hid (show (Tryz.prog.info? 27).map (·.size) = some (rnds K W s 64).vals.size by rw [vals_size]; exact info8w)
    have HO := Lib.hid ho
    clear ho
    generalize hS : rnds K W s 64 = S at *
    have HS := Lib.hid hS
    clear hS
    go_wp2_with (refine wpList_build_as rfl 27 _ rfl S.vals (by kernel_rfl) ?_; refine wpList_store_row rfl 27 _ _ rfl (w.heap.size + 1) S.vals rfl rfl 27 z8 hb1 HI.out HO.out (vals_one S) ?_)
    refine bodyPost_ret (v := .agg S.vals) ?_ rfl ?_
    · exact results_cell_row rfl _ _ (w.heap.size + 1) 27 S.vals (0, 0) _ rfl (setRow_heap _ _ z8 _ _ _ hb1) Tryz.underlying27 rfl HI.out
    · exact ⟨by rw [HS.out], below_setRow hBr (by omega) _⟩
end Go.Proofs.YtakgolbgeeoioaaGreat
namespace Go.Proofs.YtakgolbgeeoioaaGreat
open Go.RowKit

def U64' (n : Nat) : Value := .int .u64 (n : Int)
def S8.list (s : S8) : List Nat := [s.a, s.b, s.c, s.d, s.e, s.f, s.g, s.h]
theorem S8.vals_list (s : S8) : s.vals = (s.list.map U32).toArray := rfl
theorem S8.list_length (s : S8) : s.list.length = 8 := rfl
theorem S8.list_lt {s : S8} (h : s.ok) : ∀ x ∈ s.list, x < 4294967296 := by
 obtain ⟨h1, h2, h3, h4, h5, h6, h7, h8⟩ := h
 intro x hx
 simp only [S8.list, List.mem_cons, List.not_mem_nil, or_false] at hx
 rcases hx with rfl | rfl | rfl | rfl | rfl | rfl | rfl | rfl <;> assumption
/-- the cells as a list -/
def digL (hl bs : List Nat) (n : Nat) : List Value := stdK.map U32 ++ (hl.map U32 ++ (bs.map U8 ++ [U64' n]))
def digA (hl bs : List Nat) (n : Nat) : Array Value := (digL hl bs n).toArray
theorem stdK_length : stdK.length = 64 := rfl
theorem digA_size {hl bs : List Nat} {n : Nat} (h8 : hl.length = 8) (h64 : bs.length = 64) : (digA hl bs n).size = 137 := by simp [digA, digL, h8, h64, stdK_length]
theorem digA_k {hl bs : List Nat} {n : Nat} (i : Nat) (hi : i < 64) : (digA hl bs n)[i]? = some (U32 (stdK.getD i 0)) := by
 have := stdK_length
 simp only [digA, digL, List.getElem?_toArray]
 rw [List.getElem?_append_left (by simp; omega)]
 simp [List.getD_eq_getElem?_getD, List.getElem?_eq_getElem (show i < stdK.length by omega)]
theorem digA_h {hl bs : List Nat} {n : Nat} (h8 : hl.length = 8) (i : Nat) (hi : i < 8) : (digA hl bs n)[64 + i]? = some (U32 (hl.getD i 0)) := by
 have := stdK_length
 simp only [digA, digL, List.getElem?_toArray]
 rw [List.getElem?_append_right (by simp; omega), List.getElem?_append_left (by simp; omega)]
 simp [List.getD_eq_getElem?_getD, stdK_length, List.getElem?_eq_getElem (show i < hl.length by omega)]
theorem digA_b {hl bs : List Nat} {n : Nat} (h8 : hl.length = 8) (h64 : bs.length = 64) (i : Nat) (hi : i < 64) : (digA hl bs n)[72 + i]? = some (U8 (bs.getD i 0)) := by
 have := stdK_length
 simp only [digA, digL, List.getElem?_toArray]
 rw [List.getElem?_append_right (by simp; omega), List.getElem?_append_right (by simp; omega), List.getElem?_append_left (by simp; omega)]
 have e : 72 + i - (stdK.map U32).length - (hl.map U32).length = i := by simp; omega
 rw [e]
 simp [List.getD_eq_getElem?_getD, List.getElem?_eq_getElem (show i < bs.length by omega)]
theorem digA_n {hl bs : List Nat} {n : Nat} (h8 : hl.length = 8) (h64 : bs.length = 64) : (digA hl bs n)[136]? = some (U64' n) := by
 have := stdK_length
 simp only [digA, digL, List.getElem?_toArray]
 rw [List.getElem?_append_right (by simp; omega), List.getElem?_append_right (by simp; omega), List.getElem?_append_right (by simp; omega)]
 have e : 136 - (stdK.map U32).length - (hl.map U32).length - (bs.map U8).length = 0 := by simp; omega
 rw [e]
 rfl
theorem digA_setN {hl bs : List Nat} {n : Nat} (h8 : hl.length = 8) (h64 : bs.length = 64) (m : Nat) : (digA hl bs n).setIfInBounds 136 (U64' m) = digA hl bs m := by
 have := stdK_length
 simp only [digA, digL, List.setIfInBounds_toArray]
 congr 1
 rw [List.set_append_right _ _ (by simp; omega), List.set_append_right _ _ (by simp; omega), List.set_append_right _ _ (by simp; omega)]
 have e : 136 - (stdK.map U32).length - (hl.map U32).length - (bs.map U8).length = 0 := by simp; omega
 rw [e]
 rfl
theorem digA_setH {hl bs : List Nat} {n : Nat} (h8 : hl.length = 8) (i x : Nat) (hi : i < 8) : (digA hl bs n).setIfInBounds (64 + i) (U32 x) = digA (hl.set i x) bs n := by
 have := stdK_length
 simp only [digA, digL, List.setIfInBounds_toArray]
 congr 1
 rw [List.set_append_right _ _ (by simp; omega), List.set_append_left _ _ (by simp; omega)]
 have e : 64 + i - (stdK.map U32).length = i := by simp; omega
 rw [e, List.map_set]
theorem digL_len {hl bs : List Nat} {n : Nat} (h8 : hl.length = 8) (h64 : bs.length = 64) : (digL hl bs n).length = 137 := by simp [digL, h8, h64, stdK_length]
theorem digA_splice {hl bs : List Nat} {n : Nat} (h8 : hl.length = 8) (h64 : bs.length = 64) (o : Nat) (xs : List Nat) (hx : o + xs.length ≤ 64) :
 ((digA hl bs n).toList.take (72 + o) ++ xs.map U8 ++ (digA hl bs n).toList.drop (72 + o + xs.length)).toArray = digA hl (bs.take o ++ xs ++ bs.drop (o + xs.length)) n := by
 have hk := stdK_length
 simp only [digA]
 congr 1
 have hA : (stdK.map U32).length = 64 := by simp [hk]
 have hH : (hl.map U32).length = 8 := by simp [h8]
 have t1 : (digL hl bs n).take (72 + o) = stdK.map U32 ++ (hl.map U32 ++ (bs.take o).map U8) := by
  unfold digL
  rw [List.take_append, List.take_append, List.take_append, hA, hH, List.take_of_length_le (by rw [hA]; omega), List.take_of_length_le (by rw [hH]; omega)]
  simp only [List.length_map, h64, List.map_take]
  rw [show 72 + o - 64 - 8 = o by omega, show o - 64 = 0 by omega]
  simp
 have t2 : (digL hl bs n).drop (72 + o + xs.length) = (bs.drop (o + xs.length)).map U8 ++ [U64' n] := by
  unfold digL
  rw [List.drop_append, List.drop_append, List.drop_append, hA, hH, List.drop_of_length_le (by rw [hA]; omega), List.drop_of_length_le (by rw [hH]; omega)]
  simp only [List.length_map, h64, List.map_drop]
  rw [show 72 + o + xs.length - 64 - 8 = o + xs.length by omega, show o + xs.length - 64 = 0 by omega]
  simp
 rw [t1, t2]
 unfold digL
 simp [List.append_assoc]

/-- the first i of eight words added -/
def addTo (x y : List Nat) (i : Nat) : List Nat := (List.range 8).map fun j => if j < i then (x.getD j 0 + y.getD j 0) % 4294967296 else x.getD j 0
theorem addTo_length (x y : List Nat) (i : Nat) : (addTo x y i).length = 8 := by simp [addTo]
theorem addTo_zero {x : List Nat} (y : List Nat) (h : x.length = 8) : addTo x y 0 = x := by
 apply List.ext_getElem?
 intro j
 simp only [addTo, List.getElem?_map]
 by_cases hj : j < 8
 · simp [hj, List.getElem?_eq_getElem (show j < x.length by omega)]
 · simp [List.getElem?_eq_none (show (List.range 8).length ≤ j by simp; omega), List.getElem?_eq_none (show x.length ≤ j by omega)]
theorem addTo_at (x y : List Nat) (i : Nat) (h : i < 8) : (addTo x y i).getD i 0 = x.getD i 0 := by
 simp [addTo, List.getD_eq_getElem?_getD, h]
theorem addTo_succ (x y : List Nat) (i : Nat) (h : i < 8) : (addTo x y i).set i ((x.getD i 0 + y.getD i 0) % 4294967296) = addTo x y (i + 1) := by
 apply List.ext_getElem?
 intro j
 rw [List.getElem?_set]
 simp only [addTo, List.getElem?_map, List.length_map, List.length_range]
 by_cases hj : j < 8
 · by_cases e : i = j
   · subst e; simp [hj]
   · simp only [e, if_false, List.getElem?_range, hj]
     by_cases h2 : j < i
     · simp [h2, show j < i + 1 by omega]
     · simp [h2, show ¬ j < i + 1 by omega]
 · simp [List.getElem?_eq_none (show (List.range 8).length ≤ j by simp; omega)]
   omega
def S8.of (l : List Nat) : S8 := ⟨l.getD 0 0, l.getD 1 0, l.getD 2 0, l.getD 3 0, l.getD 4 0, l.getD 5 0, l.getD 6 0, l.getD 7 0⟩
theorem S8.of_list {l : List Nat} (h : l.length = 8) : (S8.of l).list = l := by
 match l, h with
 | [_, _, _, _, _, _, _, _], _ => rfl
theorem S8.of_ok {l : List Nat} (h : ∀ x ∈ l, x < 4294967296) : (S8.of l).ok :=
 ⟨getD_lt h (by decide) _, getD_lt h (by decide) _, getD_lt h (by decide) _, getD_lt h (by decide) _, getD_lt h (by decide) _, getD_lt h (by decide) _, getD_lt h (by decide) _, getD_lt h (by decide) _⟩
/-- a block mixed into eight words -/
def mixed (hl : List Nat) (B : Nat → Nat) : List Nat := addTo hl (rnds (fun i => stdK.getD i 0) (fun i => (wl B 64).getD i 0) (S8.of hl) 64).list 8
theorem mixed_length (hl : List Nat) (B : Nat → Nat) : (mixed hl B).length = 8 := addTo_length _ _ _
theorem addTo_lt {x : List Nat} (y : List Nat) : ∀ v ∈ addTo x y 8, v < 4294967296 := by
 intro v hv
 simp only [addTo, List.mem_map, List.mem_range] at hv
 obtain ⟨j, hj, rfl⟩ := hv
 rw [if_pos hj]
 exact Nat.mod_lt _ (by decide)
theorem mixed_lt (hl : List Nat) (B : Nat → Nat) : ∀ v ∈ mixed hl B, v < 4294967296 := addTo_lt _
end Go.Proofs.YtakgolbgeeoioaaGreat

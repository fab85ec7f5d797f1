/-
 The reference's block.
-/
import Derived.Test.YtakgolbgeeoioaaGreatPadSumDSumFAwakeRefA
namespace Go.Proofs.YtakgolbgeeoioaaGreat
open Go.RowKit

def uA (l : List Nat) : Array Value := (l.map U64).toArray
theorem z64u : zero64 = padded U64 64 [] := by rw [padded_nil]; rfl
theorem uA_size {l : List Nat} (h : l.length = 8) : (uA l).size = 8 := by simp [uA, h]
theorem uA_at {l : List Nat} {i : Nat} (h : i < l.length) : (uA l)[i]? = some (.int .u64 ((l.getD i 0 : Nat) : Int)) := map_at (f := U64) h
theorem uA_set (l : List Nat) (i x : Nat) : (uA l).setIfInBounds i (U64 x) = uA (l.set i x) := by
 unfold uA
 rw [List.setIfInBounds_toArray, List.map_set]

/-- the blocks that the words' loop leaves alone -/
def Base (hl : List Nat) (w wr : World) : Prop := Blk wr w.heap.size 150 refKV ∧ Blk wr (w.heap.size + 1) 152 (uA hl) ∧ Blk wr (w.heap.size + 1 + 1) 152 zero8 ∧ Below w.heap.size w wr
theorem Base.drew {hl : List Nat} {w wr : World} (h : Base hl w wr) : Base hl w wr.drew := ⟨h.1, h.2.1, h.2.2.1, h.2.2.2.drew⟩
theorem Base.drewN {hl : List Nat} {w wr : World} (h : Base hl w wr) (n : Nat) : Base hl w (wr.drewN n) := ⟨h.1, h.2.1, h.2.2.1, below_drewN h.2.2.2 n⟩
theorem Base.set {hl : List Nat} {w wr : World} (h : Base hl w wr) (i : Nat) (v : Value) : Base hl w (wr.setCell ⟨w.heap.size + 1 + 1 + 1, i, none⟩ v) :=
 ⟨h.1.far (by show w.heap.size ≠ w.heap.size + 1 + 1 + 1; omega) _, h.2.1.far (by show w.heap.size + 1 ≠ w.heap.size + 1 + 1 + 1; omega) _, h.2.2.1.far (by show w.heap.size + 1 + 1 ≠ w.heap.size + 1 + 1 + 1; omega) _, h.2.2.2.setCell (p := ⟨w.heap.size + 1 + 1 + 1, i, none⟩) (by show w.heap.size ≤ w.heap.size + 1 + 1 + 1; omega) _⟩
theorem Base.alloc {hl : List Nat} {w wr : World} (h : Base hl w wr) (o : Obj) : Base hl w (wr.alloc o) := ⟨h.1.alloc _, h.2.1.alloc _, h.2.2.1.alloc _, h.2.2.2.alloc h.2.2.2.size _⟩
theorem Base.size_ge {hl : List Nat} {w wr : World} (_ : Base hl w wr) {T : Array Value} {t : TypeId} (hw : Blk wr (w.heap.size + 1 + 1 + 1) t T) : w.heap.size + 1 + 1 + 1 + 1 ≤ wr.heap.size := hw.lt
theorem Base.far {hl : List Nat} {w wr : World} (h : Base hl w wr) {g : Nat} (hg : w.heap.size + 1 + 1 + 1 + 1 ≤ g) (i : Nat) (v : Value) : Base hl w (wr.setCell ⟨g, i, none⟩ v) :=
 ⟨h.1.far (by show w.heap.size ≠ g; omega) _, h.2.1.far (by show w.heap.size + 1 ≠ g; omega) _, h.2.2.1.far (by show w.heap.size + 1 + 1 ≠ g; omega) _, h.2.2.2.setCell (p := ⟨g, i, none⟩) (by show w.heap.size ≤ g; omega) _⟩
theorem uA_one (l : List Nat) : (uA l).all (·.oneCell') = true := by
 rw [Array.all_eq_true_iff_forall_mem]
 intro v hv
 unfold uA at hv
 rw [List.mem_toArray, List.mem_map] at hv
 obtain ⟨x, _, rfl⟩ := hv
 rfl
theorem lt64 {a : Nat} (h : a < 4294967296) : a < 18446744073709551616 := by omega
theorem sch_spell (x2 x7 x15 x16 : Nat) (d2 : x2 < 4294967296) (_ : x7 < 4294967296) (d15 : x15 < 4294967296) (_ : x16 < 4294967296) :
 (IntKind.u64.wrap (IntKind.u64.wrap ((x16 : Int) + (x7 : Int) + bits BinOp.xor .u64 (bits BinOp.xor .u64 ((rotr x15 7 : Nat) : Int) ((rotr x15 18 : Nat) : Int)) ((x15 : Int) / 8)) + bits BinOp.xor .u64 (bits BinOp.xor .u64 ((rotr x2 17 : Nat) : Int) ((rotr x2 19 : Nat) : Int)) ((x2 : Int) / 1024))).tmod 4294967296 =
  (((sS1 x2 + x7 + sS0 x15 + x16) % 4294967296 : Nat) : Int) := by
 have a1 := rotr_lt x15 7 d15 (by omega)
 have a2 := rotr_lt x15 18 d15 (by omega)
 have a3 := rotr_lt x2 17 d2 (by omega)
 have a4 := rotr_lt x2 19 d2 (by omega)
 have e1 : bits BinOp.xor .u64 (bits BinOp.xor .u64 ((rotr x15 7 : Nat) : Int) ((rotr x15 18 : Nat) : Int)) ((x15 : Int) / 8) = ((sS0 x15 : Nat) : Int) := by
  rw [show (x15 : Int) / 8 = ((x15 / 8 : Nat) : Int) by omega, u64_xor_nat _ _ (lt64 a1) (lt64 a2), u64_xor_nat _ _ (lt64 (xor_lt a1 a2)) (by omega)]; rfl
 have e2 : bits BinOp.xor .u64 (bits BinOp.xor .u64 ((rotr x2 17 : Nat) : Int) ((rotr x2 19 : Nat) : Int)) ((x2 : Int) / 1024) = ((sS1 x2 : Nat) : Int) := by
  rw [show (x2 : Int) / 1024 = ((x2 / 1024 : Nat) : Int) by omega, u64_xor_nat _ _ (lt64 a3) (lt64 a4), u64_xor_nat _ _ (lt64 (xor_lt a3 a4)) (by omega)]; rfl
 have b1 := sS0_lt x15 d15
 have b2 := sS1_lt x2 d2
 rw [e1, e2, IntKind.wrap_u64, IntKind.wrap_u64, Int.tmod_eq_emod_of_nonneg (by omega)]
 omega
theorem rt2 (x : Nat) (hx : x < 4294967296) (w : World) : Calls Tryz.prog 108 #[.int .u64 x, .int .u64 2] w fun e w' => e = .returned (.int .u64 (rotr x 2 : Nat)) ∧ w = w' := rotr_any x 2 hx (by omega) w
theorem rt6 (x : Nat) (hx : x < 4294967296) (w : World) : Calls Tryz.prog 108 #[.int .u64 x, .int .u64 6] w fun e w' => e = .returned (.int .u64 (rotr x 6 : Nat)) ∧ w = w' := rotr_any x 6 hx (by omega) w
theorem rt11 (x : Nat) (hx : x < 4294967296) (w : World) : Calls Tryz.prog 108 #[.int .u64 x, .int .u64 11] w fun e w' => e = .returned (.int .u64 (rotr x 11 : Nat)) ∧ w = w' := rotr_any x 11 hx (by omega) w
theorem rt13 (x : Nat) (hx : x < 4294967296) (w : World) : Calls Tryz.prog 108 #[.int .u64 x, .int .u64 13] w fun e w' => e = .returned (.int .u64 (rotr x 13 : Nat)) ∧ w = w' := rotr_any x 13 hx (by omega) w
theorem rt22 (x : Nat) (hx : x < 4294967296) (w : World) : Calls Tryz.prog 108 #[.int .u64 x, .int .u64 22] w fun e w' => e = .returned (.int .u64 (rotr x 22 : Nat)) ∧ w = w' := rotr_any x 22 hx (by omega) w
theorem rt25 (x : Nat) (hx : x < 4294967296) (w : World) : Calls Tryz.prog 108 #[.int .u64 x, .int .u64 25] w fun e w' => e = .returned (.int .u64 (rotr x 25 : Nat)) ∧ w = w' := rotr_any x 25 hx (by omega) w
theorem cho64 (x y z : Nat) (hx : x < 4294967296) (hy : y < 4294967296) (hz : z < 4294967296) : bits BinOp.xor .u64 (bits BinOp.and .u64 (x : Int) (y : Int)) (bits BinOp.and .u64 (4294967295 - (x : Int)) (z : Int)) = ((cho x y z : Nat) : Int) := by
 rw [show (4294967295 - (x : Int)) = ((4294967295 - x : Nat) : Int) by omega, u64_and_nat _ _ (lt64 hx) (lt64 hy), u64_and_nat _ _ (by omega) (lt64 hz), u64_xor_nat _ _ (lt64 (and_lt _ hx)) (lt64 (and_lt _ (by omega)))]
 rfl
theorem or_lt32 {a b : Nat} (ha : a < 4294967296) (hb : b < 4294967296) : a ||| b < 4294967296 := Nat.or_lt_two_pow (n := 32) ha hb
theorem mjr64 (x y z : Nat) (hx : x < 4294967296) (hy : y < 4294967296) (hz : z < 4294967296) : bits BinOp.or .u64 (bits BinOp.or .u64 (bits BinOp.and .u64 (x : Int) (y : Int)) (bits BinOp.and .u64 (x : Int) (z : Int))) (bits BinOp.and .u64 (y : Int) (z : Int)) = ((mjr x y z : Nat) : Int) := by
 rw [u64_and_nat _ _ (lt64 hx) (lt64 hy), u64_and_nat _ _ (lt64 hx) (lt64 hz), u64_and_nat _ _ (lt64 hy) (lt64 hz), u64_or_nat _ _ (lt64 (and_lt _ hx)) (lt64 (and_lt _ hx)), u64_or_nat _ _ (lt64 (or_lt32 (and_lt _ hx) (and_lt _ hx))) (lt64 (and_lt _ hy)), mjr_or]
theorem t1_spell (h e c k w : Nat) (he : e < 4294967296) (hh : h < 4294967296) (hc : c < 4294967296) (hk : k < 4294967296) (hw : w < 4294967296) :
 IntKind.u64.wrap (IntKind.u64.wrap (IntKind.u64.wrap (IntKind.u64.wrap ((h : Int) + bits BinOp.xor .u64 (bits BinOp.xor .u64 ((rotr e 6 : Nat) : Int) ((rotr e 11 : Nat) : Int)) ((rotr e 25 : Nat) : Int)) + (c : Int)) + (k : Int)) + (w : Int)) = ((h + bS1 e + c + k + w : Nat) : Int) := by
 have a1 := rotr_lt e 6 he (by omega)
 have a2 := rotr_lt e 11 he (by omega)
 have a3 := rotr_lt e 25 he (by omega)
 have e1 : bits BinOp.xor .u64 (bits BinOp.xor .u64 ((rotr e 6 : Nat) : Int) ((rotr e 11 : Nat) : Int)) ((rotr e 25 : Nat) : Int) = ((bS1 e : Nat) : Int) := by
  rw [u64_xor_nat _ _ (lt64 a1) (lt64 a2), u64_xor_nat _ _ (lt64 (xor_lt a1 a2)) (lt64 a3)]; rfl
 have b1 := bS1_lt e he
 rw [e1, IntKind.wrap_u64, IntKind.wrap_u64, IntKind.wrap_u64, IntKind.wrap_u64]
 omega
theorem t2_spell (a j : Nat) (ha : a < 4294967296) (hj : j < 4294967296) :
 IntKind.u64.wrap (bits BinOp.xor .u64 (bits BinOp.xor .u64 ((rotr a 2 : Nat) : Int) ((rotr a 13 : Nat) : Int)) ((rotr a 22 : Nat) : Int) + (j : Int)) = ((bS0 a + j : Nat) : Int) := by
 have a1 := rotr_lt a 2 ha (by omega)
 have a2 := rotr_lt a 13 ha (by omega)
 have a3 := rotr_lt a 22 ha (by omega)
 have e1 : bits BinOp.xor .u64 (bits BinOp.xor .u64 ((rotr a 2 : Nat) : Int) ((rotr a 13 : Nat) : Int)) ((rotr a 22 : Nat) : Int) = ((bS0 a : Nat) : Int) := by
  rw [u64_xor_nat _ _ (lt64 a1) (lt64 a2), u64_xor_nat _ _ (lt64 (xor_lt a1 a2)) (lt64 a3)]; rfl
 have b1 := bS0_lt a ha
 rw [e1, IntKind.wrap_u64]
 omega
theorem byte_spell (p b : Nat) (hp : p < 4294967296) (hb : b < 256) : IntKind.u64.wrap (IntKind.u64.wrap ((p : Int) * 256) + IntKind.u64.wrap (b : Int)) = ((p * 256 + b : Nat) : Int) := by
 rw [IntKind.wrap_u64, IntKind.wrap_u64, IntKind.wrap_u64]; omega

set_option maxRecDepth 100000 in
set_option maxHeartbeats 2000000 in
theorem block_any (hl : List Nat) (h8 : hl.length = 8) (hlt : ∀ x ∈ hl, x < 4294967296) (bb o c : Nat) (B : Nat → Nat) (hB8 : ∀ i, B i < 256) (w : World) (bl : bb < w.heap.size)
 (cb : ∀ i, i < 64 → w.cell? ⟨bb, o + i, none⟩ = some (.int .u8 (B i : Nat))) :
 Calls Tryz.prog 94 #[.agg refKV, .agg (uA hl), .slice (some ⟨bb, o, none⟩) 64 c] w fun e w' => e = .returned (.agg (uA (mixed hl B))) ∧ Below w.heap.size w w' := by
 have hz := zero64_run
 have hz8 := zero8_run
 have CB := Lib.hid cb
 clear cb
 go_enter Tryz.func94, Tryz.ntmps94
 go_wp2
 obtain ⟨W0, hW0⟩ : ∃ W0, (((w.alloc (Obj.cells refKV 150)).alloc (Obj.cells (uA hl) 152)).alloc (Obj.cells zero8 152)).alloc (Obj.cells zero64 150) = W0 := ⟨_, rfl⟩
 rw [hW0]
 have hbase : Base hl w W0 := by
  rw [← hW0]
  exact ⟨(((Blk.new_at rfl).alloc _).alloc _).alloc _, ((Blk.new_at (by simp)).alloc _).alloc _, (Blk.new_at (by simp)).alloc _,
   ((((Below.refl _ w).alloc (Nat.le_refl _) _).alloc (by simp) _).alloc (by simp; omega) _).alloc (by simp; omega) _⟩
 have hw0 : Blk W0 (w.heap.size + 1 + 1 + 1) 150 (padded U64 64 (wl B 0)) := by
  rw [← hW0, show wl B 0 = [] from rfl, ← z64u]; exact Blk.new_at (by simp)
 clear hW0
 go_loopw [8] (fun i wr => ∃ n : Nat, n ≤ 64 ∧ i = .int .i64 n ∧ Base hl w wr ∧ Blk wr (w.heap.size + 1 + 1 + 1) 150 (padded U64 64 (wl B n))) (fun i _ => 64 - (intOf i).toNat)
 case atStart => exact ⟨0, by omega, rfl, hbase, hw0⟩
 case round =>
  clear hbase hw0
  obtain ⟨n, hn, rfl, hbase, hw⟩ := hrel
  by_cases hn64 : n < 64
  · have hn64' : (n : Int) < 64 := by omega
    by_cases hn16 : n < 16
    · have hn16' : (n : Int) < 16 := by omega
      obtain ⟨wo, rfl⟩ : ∃ wo : World, wo = wr := ⟨_, rfl⟩
      go_wp2
      go_loopw [9] (fun j wr => ∃ k : Nat, k ≤ 4 ∧ j = .int .i64 k ∧ Base hl w wr ∧ Blk wr (w.heap.size + 1 + 1 + 1) 150 ((padded U64 64 (wl B n)).setIfInBounds n (U64 (part B n k)))) (fun j _ => 4 - (intOf j).toNat)
      case atStart =>
       refine ⟨0, by omega, rfl, hbase, ?_⟩
       have e := padded_set_self U64 (m := 64) (l := wl B n) (by rw [wl_length]; omega)
       rw [wl_length] at e
       show Blk _ _ _ ((padded U64 64 (wl B n)).setIfInBounds n (U64 0))
       rw [e]
       exact hw
      case round =>
       clear hbase hw
       obtain ⟨k, hk, rfl, hb2, hw2⟩ := hrel
       by_cases hk4 : k < 4
       · have hk4' : (k : Int) < 4 := by omega
         have hlen := wl_length B n
         have hp := part_lt4 hB8 n k hk
         have hb := hB8 (4 * n + k)
         have c0 : wr.cell? ⟨w.heap.size + 1 + 1 + 1, n, none⟩ = some (.int .u64 (part B n k : Nat)) := by
          rw [hw2.cell, Array.getElem?_setIfInBounds_self_of_lt (by rw [padded_size U64 (by omega)]; exact hn64)]
          rfl
         have f0 := hw2.frozen n
         have c1 : wr.cell? ⟨bb, o + (4 * n + k), none⟩ = some (.int .u8 (B (4 * n + k) : Nat)) := (hb2.2.2.2.cell (p := ⟨bb, _, none⟩) bl).trans (CB.out (4 * n + k) (by omega))
         have e1 : IntKind.i64.wrap (4 * (n : Int)) = 4 * (n : Int) := by rw [IntKind.wrap_i64]; omega
         have e2 : IntKind.i64.wrap (4 * (n : Int) + (k : Int)) = 4 * (n : Int) + (k : Int) := by rw [IntKind.wrap_i64]; omega
         have e3 : 4 * (n : Int) + (k : Int) < 64 := by omega
         have e4 : 0 ≤ 4 * (n : Int) + (k : Int) := by omega
         have e5 : (4 * (n : Int) + (k : Int)).toNat = 4 * n + k := by omega
         have HP := Lib.hid (show part B n (k + 1) = part B n k * 256 + B (4 * n + k) from rfl)
         have HS := Lib.hid (byte_spell (part B n k) (B (4 * n + k)) hp hb)
         have HL := Lib.hid hlen
         clear hlen
         generalize hpk : part B n k = pk at *
         generalize B (4 * n + k) = bk at *
         clear hpk
         go_wp2
         go_still_tail 15, (by kernel_rfl)
         change wpList _ _ _ _ _ wr.drew
         clear e1 e2 e5
         obtain ⟨w5, hw5⟩ : ∃ w5, wr.drew = w5 := ⟨_, rfl⟩
         rw [hw5]
         have hb5 : Base hl w w5 := by rw [← hw5]; exact hb2.drew
         have hw5b : Blk w5 (w.heap.size + 1 + 1 + 1) 150 ((padded U64 64 (wl B n)).setIfInBounds n (U64 pk)) := by rw [← hw5]; exact hw2.drew
         have c5 : w5.cell? ⟨w.heap.size + 1 + 1 + 1, n, none⟩ = some (.int .u64 (pk : Nat)) := by rw [← hw5]; exact c0
         have f5 : w5.frozen? ⟨w.heap.size + 1 + 1 + 1, n, none⟩ = false := by rw [← hw5]; exact f0
         clear hw5 c0 f0 c1
         rw [HS.out]
         obtain ⟨y, hy⟩ : ∃ y, pk * 256 + bk = y := ⟨_, rfl⟩
         rw [hy]
         have HY := Lib.hid hy
         clear hy
         go_wp2
         go_roundw
         case rel =>
          refine ⟨k + 1, by omega, by go_num, hb5.set _ _, ?_⟩
          rw [HP.out, HY.out]
          have := hw5b.set_ n (U64 y)
          rw [Array.setIfInBounds_setIfInBounds] at this
          exact this
         case measure => simp [intOf]; omega
       · obtain rfl : k = 4 := by omega
         have HW := Lib.hid (show wl B (n + 1) = wl B n ++ [wd B n] by show wl B n ++ [wnext B (wl B n) n] = _; unfold wnext; rw [if_pos hn16])
         have HE := Lib.hid (padded_set U64 (m := 64) (l := wl B n) (by rw [wl_length]; omega) (wd B n))
         have HP := Lib.hid (part_four B n)
         have HL := Lib.hid (wl_length B n)
         clear hk4
         go_wp2
         go_roundw
         case rel =>
          refine ⟨n + 1, by omega, by go_num, hb2, ?_⟩
          rw [HW.out]
          have e := HE.out
          rw [HL.out] at e
          rw [← e, ← HP.out]
          exact hw2
         case measure => simp [intOf]; omega
    · obtain ⟨m, rfl⟩ : ∃ m, n = 16 + m := ⟨n - 16, by omega⟩
      clear hn64'
      have t64 : 16 + (m : Int) < 64 := by omega
      have t16 : ¬ 16 + (m : Int) < 16 := by omega
      clear hn16 hn
      have ecast : ((16 + m : Nat) : Int) = 16 + (m : Int) := by omega
      rw [ecast]
      clear ecast
      have hl' := wl_length B (16 + m)
      have hlt' := wl_lt hB8 (16 + m)
      have c2 := (hw.cell (14 + m)).trans (padded_at U64 (by omega))
      have c7 := (hw.cell (9 + m)).trans (padded_at U64 (by omega))
      have c15 := (hw.cell (1 + m)).trans (padded_at U64 (by omega))
      have c16 := (hw.cell m).trans (padded_at U64 (by omega))
      have d2 := getD_lt hlt' (by decide) (14 + m)
      have d7 := getD_lt hlt' (by decide) (9 + m)
      have d15 := getD_lt hlt' (by decide) (1 + m)
      have d16 := getD_lt hlt' (by decide) m
      have HW := Lib.hid (show wl B (16 + m + 1) = wl B (16 + m) ++ [(sS1 ((wl B (16 + m)).getD (14 + m) 0) + (wl B (16 + m)).getD (9 + m) 0 + sS0 ((wl B (16 + m)).getD (1 + m) 0) + (wl B (16 + m)).getD m 0) % 4294967296] by
       show wl B (16 + m) ++ [wnext B (wl B (16 + m)) (16 + m)] = _
       unfold wnext
       rw [if_neg (by omega), show 16 + m - 2 = 14 + m by omega, show 16 + m - 7 = 9 + m by omega, show 16 + m - 15 = 1 + m by omega, show 16 + m - 16 = m by omega])
      obtain ⟨ov, hov⟩ := padded_there U64 (m := 64) (l := wl B (16 + m)) (by omega) (show 16 + m < 64 by omega)
      have q1 : wr.cell? ⟨w.heap.size + 1 + 1 + 1, 16 + m, none⟩ = some ov := (hw.cell (16 + m)).trans hov
      have q2 := hw.frozen (16 + m)
      have HL := Lib.hid hl'
      clear hl' hov hlt'
      generalize (wl B (16 + m)).getD (14 + m) 0 = x2 at *
      generalize (wl B (16 + m)).getD (9 + m) 0 = x7 at *
      generalize (wl B (16 + m)).getD (1 + m) 0 = x15 at *
      generalize (wl B (16 + m)).getD m 0 = x16 at *
      unfold U64 at c2 c7 c15 c16
      have k2 : IntKind.i64.wrap (16 + (m : Int) - 2) = 14 + (m : Int) := by rw [IntKind.wrap_i64]; omega
      have k7 : IntKind.i64.wrap (16 + (m : Int) - 7) = 9 + (m : Int) := by rw [IntKind.wrap_i64]; omega
      have k15 : IntKind.i64.wrap (16 + (m : Int) - 15) = 1 + (m : Int) := by rw [IntKind.wrap_i64]; omega
      have k16 : IntKind.i64.wrap (16 + (m : Int) - 16) = (m : Int) := by rw [IntKind.wrap_i64]; omega
      have l2 : 14 + (m : Int) < 64 := by omega
      have l7 : 9 + (m : Int) < 64 := by omega
      have l15 : 1 + (m : Int) < 64 := by omega
      have l16 : (m : Int) < 64 := by omega
      have p2 : 0 ≤ 14 + (m : Int) := by omega
      have p7 : 0 ≤ 9 + (m : Int) := by omega
      have p15 : 0 ≤ 1 + (m : Int) := by omega
      have p0 : 0 ≤ 16 + (m : Int) := by omega
      have t2 : (14 + (m : Int)).toNat = 14 + m := by omega
      have t7 : (9 + (m : Int)).toNat = 9 + m := by omega
      have t15 : (1 + (m : Int)).toNat = 1 + m := by omega
      have t0 : (16 + (m : Int)).toNat = 16 + m := by omega
      go_wp2
      go_quiet (fail)
      go_wp2
      refine wp_region_still_tail 30 (by kernel_rfl) (by kernel_rfl) ?_
      simp only [List.take_succ_cons, List.take_zero, List.drop_succ_cons, List.drop_zero]
      change wpStill _ _ (wr.drewN nq).drew (fun a' => wpList _ _ _ _ a' (wr.drewN nq).drew) _ _
      obtain ⟨w4, hw4⟩ : ∃ w4, (wr.drewN nq).drew = w4 := ⟨_, rfl⟩
      rw [hw4]
      have hb4 : Base hl w w4 := by rw [← hw4]; exact (hbase.drewN _).drew
      have hw4b : Blk w4 (w.heap.size + 1 + 1 + 1) 150 (padded U64 64 (wl B (16 + m))) := by rw [← hw4]; exact hw
      have r7 : w4.cell? ⟨w.heap.size + 1 + 1 + 1, 9 + m, none⟩ = some (.int .u64 (x7 : Nat)) := by rw [← hw4]; exact c7
      have r16 : w4.cell? ⟨w.heap.size + 1 + 1 + 1, m, none⟩ = some (.int .u64 (x16 : Nat)) := by rw [← hw4]; exact c16
      have s1 : w4.cell? ⟨w.heap.size + 1 + 1 + 1, 16 + m, none⟩ = some ov := by rw [← hw4]; exact q1
      have s2 : w4.frozen? ⟨w.heap.size + 1 + 1 + 1, 16 + m, none⟩ = false := by rw [← hw4]; exact q2
      clear hw4 c2 c7 c15 c16 q1 q2 hbase hw
      repeat still_step
      still_call (flip_same (rotr_any x15 7 d15 (by omega) _))
      repeat still_step
      still_call (flip_same (rotr_any x15 18 d15 (by omega) _))
      repeat still_step
      still_call (flip_same (rotr_any x2 17 d2 (by omega) _))
      repeat still_step
      still_call (flip_same (rotr_any x2 19 d2 (by omega) _))
      repeat still_step
      refine wpStill_nil ?_
      clear k2 k7 k15 k16 t2 t7 t15
      go_wp2
      go_roundw
      case rel =>
       refine ⟨16 + m + 1, by omega, by go_num, hb4.set _ _, ?_⟩
       rw [sch_spell x2 x7 x15 x16 d2 d7 d15 d16, HW.out]
       have e := padded_set U64 (m := 64) (l := wl B (16 + m)) (by rw [HL.out]; omega) ((sS1 x2 + x7 + sS0 x15 + x16) % 4294967296)
       rw [HL.out] at e
       rw [← e]
       exact hw4b.set_ (16 + m) _
      case measure => simp [intOf]; omega
  · obtain rfl : n = 64 := by omega
    clear hn64 hn
    have hsz : (padded U64 64 (wl B 64)).size = 64 := padded_size U64 (by rw [wl_length]; omega)
    have hW : ∀ j, j < 64 → (padded U64 64 (wl B 64))[j]? = some (U64 ((wl B 64).getD j 0)) := fun j hj => padded_at U64 (by rw [wl_length]; exact hj)
    have HM := Lib.hid (show mixed hl B = addTo hl (rnds (fun i => stdK.getD i 0) (fun i => (wl B 64).getD i 0) (S8.of hl) 64).list 8 from rfl)
    have hwlt := wl_lt hB8 64
    generalize wl B 64 = ws at *
    generalize padded U64 64 ws = T at *
    have HI8 := Lib.hid (show (Tryz.prog.info? 152).map (·.size) = some (uA hl).size by rw [uA_size h8]; exact info8)
    have HO8 := Lib.hid (show zero8.size = (uA hl).size by rw [uA_size h8]; rfl)
    have H18 := Lib.hid (uA_one hl)
    have hsr := hbase.size_ge hw
    rw [show ((64 : Nat) : Int) = 64 from rfl]
    go_wp2_with (first
     | (refine wpList_load_row rfl 152 _ rfl (w.heap.size + 1) rfl 152 (uA hl) (0, 0) _ hbase.2.1 Tryz.underlying152 rfl HI8.out ?_)
     | (refine wpList_store_row rfl 152 _ _ rfl wr.heap.size (uA hl) rfl rfl 152 zero8 (Blk.new _ _ _) HI8.out HO8.out H18.out ?_; rw [World.setRow_alloc_new]))
    obtain ⟨w1, hw1⟩ : ∃ w1, wr.alloc (Obj.cells (uA hl) 152) = w1 := ⟨_, rfl⟩
    rw [hw1]
    have hb1 : Base hl w w1 := by rw [← hw1]; exact hbase.alloc _
    have ht1 : Blk w1 (w.heap.size + 1 + 1 + 1) 150 T := by rw [← hw1]; exact hw.alloc _
    have hv1 : Blk w1 wr.heap.size 152 (uA hl) := by rw [← hw1]; exact Blk.new _ _ _
    clear hw1 hbase hw hz hz8
    generalize wr.heap.size = gv at *
    have hs0 : (S8.of hl).ok := S8.of_ok hlt
    obtain ⟨s, hs⟩ : ∃ s, S8.of hl = s := ⟨_, rfl⟩
    have HS := Lib.hid (show s.list = hl by rw [← hs]; exact S8.of_list h8)
    rw [hs] at HM hs0
    clear hs
    have HT := Lib.hid hW
    have H8 := Lib.hid h8
    have HLT := Lib.hid hlt
    have HWL := Lib.hid hwlt
    clear hW hsz h8 hlt hwlt CB bl
    rw [show uA hl = uA s.list by rw [HS.out]] at hv1
    go_loopw [13] (fun i wr => ∃ n : Nat, n ≤ 64 ∧ i = .int .i64 n ∧ Base hl w wr ∧ Blk wr (w.heap.size + 1 + 1 + 1) 150 T ∧ Blk wr gv 152 (uA (rnds (fun i => stdK.getD i 0) (fun i => ws.getD i 0) s n).list)) (fun i _ => 64 - (intOf i).toNat)
    case atStart => exact ⟨0, by omega, rfl, hb1, ht1, hv1⟩
    case round =>
     clear hb1 ht1 hv1
     obtain ⟨n, hn, rfl, hb1, ht1, hv1⟩ := hrel
     by_cases hn64 : n < 64
     · have hn64' : (n : Int) < 64 := by omega
       have hok := rnds_ok (K := fun i => stdK.getD i 0) (W := fun i => ws.getD i 0) hs0 n
       have HR := Lib.hid (show rnds (fun i => stdK.getD i 0) (fun i => ws.getD i 0) s (n + 1) = rnd (rnds (fun i => stdK.getD i 0) (fun i => ws.getD i 0) s n) (stdK.getD n 0) (ws.getD n 0) from rfl)
       generalize rnds (fun i => stdK.getD i 0) (fun i => ws.getD i 0) s n = S at *
       obtain ⟨h1, h2, h3, h4, h5, h6, h7, h8⟩ := hok
       have ck : wr.cell? ⟨w.heap.size, n, none⟩ = some (.int .u64 (stdK.getD n 0 : Nat)) := (hb1.1.cell n).trans (map_at (f := U64) hn64)
       have cw : wr.cell? ⟨w.heap.size + 1 + 1 + 1, n, none⟩ = some (.int .u64 (ws.getD n 0 : Nat)) := (ht1.cell n).trans (HT.out n hn64)
       have bk := stdK_lt n
       have bw := getD_lt HWL.out (by decide) n
       generalize stdK.getD n 0 = kn at *
       generalize ws.getD n 0 = wn at *
       have c0 : wr.cell? ⟨gv, 0, none⟩ = some (.int .u64 (S.a : Nat)) := (hv1.cell 0).trans rfl
       have c1 : wr.cell? ⟨gv, 1, none⟩ = some (.int .u64 (S.b : Nat)) := (hv1.cell 1).trans rfl
       have c2 : wr.cell? ⟨gv, 2, none⟩ = some (.int .u64 (S.c : Nat)) := (hv1.cell 2).trans rfl
       have c4 : wr.cell? ⟨gv, 4, none⟩ = some (.int .u64 (S.e : Nat)) := (hv1.cell 4).trans rfl
       have c5 : wr.cell? ⟨gv, 5, none⟩ = some (.int .u64 (S.f : Nat)) := (hv1.cell 5).trans rfl
       have c6 : wr.cell? ⟨gv, 6, none⟩ = some (.int .u64 (S.g : Nat)) := (hv1.cell 6).trans rfl
       have c7 : wr.cell? ⟨gv, 7, none⟩ = some (.int .u64 (S.h : Nat)) := (hv1.cell 7).trans rfl
       have HC := Lib.hid (cho64 S.e S.f S.g h5 h6 h7)
       have HJ := Lib.hid (mjr64 S.a S.b S.c h1 h2 h3)
       go_wp2_with fail
       rw [HC.out, HJ.out]
       have bc := cho_lt S.e S.f S.g h5
       have bm := mjr_lt S.a S.b S.c h1 h2
       go_quiet ((first
        | (go_at_call_of 108 (Value.int IntKind.u64 6); exact quiet_left (rt6 _ h5 _))
        | (go_at_call_of 108 (Value.int IntKind.u64 11); exact quiet_left (rt11 _ h5 _))
        | (go_at_call_of 108 (Value.int IntKind.u64 25); exact quiet_left (rt25 _ h5 _))))
       rw [t1_spell S.h S.e (cho S.e S.f S.g) kn wn h5 h8 bc bk bw]
       obtain ⟨T1, hT1⟩ : ∃ T1, S.h + bS1 S.e + cho S.e S.f S.g + kn + wn = T1 := ⟨_, rfl⟩
       have bT1 : T1 < 21474836480 := by rw [← hT1]; have := bS1_lt S.e h5; omega
       rw [hT1]
       have HT1 := Lib.hid hT1
       clear hT1 c4 c5 c6 c7 ck cw
       obtain ⟨w2, hw2⟩ : ∃ w2, wr.drewN nq = w2 := ⟨_, rfl⟩
       rw [hw2]
       have hb2 : Base hl w w2 := by rw [← hw2]; exact hb1.drewN _
       have ht2 : Blk w2 (w.heap.size + 1 + 1 + 1) 150 T := by rw [← hw2]; exact ht1
       have hv2 : Blk w2 gv 152 (uA S.list) := by rw [← hw2]; exact hv1
       have c0 : w2.cell? ⟨gv, 0, none⟩ = some (.int .u64 (S.a : Nat)) := by rw [← hw2]; exact c0
       clear hw2 hb1 ht1 hv1 c1 c2
       go_wp2_with fail
       go_quiet ((first
        | (go_at_call_of 108 (Value.int IntKind.u64 2); exact quiet_left (rt2 _ h1 _))
        | (go_at_call_of 108 (Value.int IntKind.u64 13); exact quiet_left (rt13 _ h1 _))
        | (go_at_call_of 108 (Value.int IntKind.u64 22); exact quiet_left (rt22 _ h1 _))))
       rw [t2_spell S.a (mjr S.a S.b S.c) h1 bm]
       obtain ⟨T2, hT2⟩ : ∃ T2, bS0 S.a + mjr S.a S.b S.c = T2 := ⟨_, rfl⟩
       have bT2 : T2 < 8589934592 := by rw [← hT2]; have := bS0_lt S.a h1; omega
       rw [hT2]
       have HT2 := Lib.hid hT2
       clear hT2 c0
       obtain ⟨w3, hw3⟩ : ∃ w3, w2.drewN nq = w3 := ⟨_, rfl⟩
       rw [hw3]
       have hb3 : Base hl w w3 := by rw [← hw3]; exact hb2.drewN _
       have ht3 : Blk w3 (w.heap.size + 1 + 1 + 1) 150 T := by rw [← hw3]; exact ht2
       have hv3 : Blk w3 gv 152 (uA S.list) := by rw [← hw3]; exact hv2
       clear hw3 hb2 ht2 hv2
       go_wp2_with fail
       obtain ⟨wo, rfl⟩ : ∃ wo : World, wo = wr := ⟨_, rfl⟩
       go_loopw [18] (fun j wr => ∃ k : Nat, k ≤ 7 ∧ j = .int .i64 k ∧ Base hl w wr ∧ Blk wr (w.heap.size + 1 + 1 + 1) 150 T ∧ Blk wr gv 152 (uA (shf S.list k))) (fun j _ => (intOf j).toNat)
       case atStart => exact ⟨7, by omega, rfl, hb3, ht3, by rw [shf_seven S.list_length]; exact hv3⟩
       case round =>
        clear hb3 ht3 hv3
        obtain ⟨k, hk, rfl, hb3, ht3, hv3⟩ := hrel
        by_cases hk0 : 0 < k
        · obtain ⟨p, rfl⟩ : ∃ p, k = p + 1 := ⟨k - 1, by omega⟩
          have hp7 : (p : Int) < 7 := by omega
          have g0 : wr.cell? ⟨gv, p, none⟩ = some (.int .u64 (S.list.getD p 0 : Nat)) := by
           rw [hv3.cell, uA_at (by rw [shf_length]; omega)]
           have := shf_at S.list (p + 1) (by omega) (by omega)
           rw [Nat.add_sub_cancel] at this
           rw [this]
          obtain ⟨ov, hov⟩ : ∃ ov, wr.cell? ⟨gv, p + 1, none⟩ = some ov := ⟨_, by rw [hv3.cell, uA_at (by rw [shf_length]; omega)]⟩
          have g2 := hv3.frozen (p + 1)
          have hsh := shf_set S.list (p + 1) (by omega) (by omega)
          rw [Nat.add_sub_cancel] at hsh
          have HSH := Lib.hid hsh
          clear hsh
          generalize S.list.getD p 0 = x at *
          go_wp2
          go_roundw
          case rel =>
           refine ⟨p, by omega, rfl, hb3.far hsr _ _, ht3.far (by show w.heap.size + 1 + 1 + 1 ≠ gv; omega) _, ?_⟩
           have := hv3.set_ (p + 1) (U64 x)
           rw [uA_set] at this
           rw [HSH.out] at this
           exact this
          case measure => simp [intOf]
        · obtain rfl : k = 0 := by omega
          rw [shf_zero] at hv3
          have g4 : wr.cell? ⟨gv, 4, none⟩ = some (.int .u64 (S.d : Nat)) := (hv3.cell 4).trans rfl
          have f4 := hv3.frozen 4
          have x4 : ((S.d : Int) + (T1 : Int)).tmod 4294967296 = (((S.d + T1) % 4294967296 : Nat) : Int) := by rw [Int.tmod_eq_emod_of_nonneg (by omega)]; omega
          have x0 : ((T1 : Int) + (T2 : Int)).tmod 4294967296 = (((T1 + T2) % 4294967296 : Nat) : Int) := by rw [Int.tmod_eq_emod_of_nonneg (by omega)]; omega
          obtain ⟨y4, hy4⟩ : ∃ y4, (S.d + T1) % 4294967296 = y4 := ⟨_, rfl⟩
          obtain ⟨y0, hy0⟩ : ∃ y0, (T1 + T2) % 4294967296 = y0 := ⟨_, rfl⟩
          rw [hy4] at x4
          rw [hy0] at x0
          have v4 := hv3.set_ 4 (U64 y4)
          rw [uA_set] at v4
          have v0 := v4.set_ 0 (U64 y0)
          rw [uA_set] at v0
          have g0 : (wr.setCell ⟨gv, 4, none⟩ (.int .u64 (y4 : Nat))).cell? ⟨gv, 0, none⟩ = some (.int .u64 (S.a : Nat)) := (v4.cell 0).trans rfl
          have f0 : (wr.setCell ⟨gv, 4, none⟩ (.int .u64 (y4 : Nat))).frozen? ⟨gv, 0, none⟩ = false := v4.frozen 0
          have HY4 := Lib.hid hy4
          have HY0 := Lib.hid hy0
          clear hy4 hy0 hk hk0
          go_wp2
          go_roundw
          case rel =>
           refine ⟨n + 1, by omega, by go_num, (hb3.far hsr _ _).far hsr _ _, (ht3.far (by show w.heap.size + 1 + 1 + 1 ≠ gv; omega) _).far (by show w.heap.size + 1 + 1 + 1 ≠ gv; omega) _, ?_⟩
           rw [HR.out]
           have e := rnd_list S kn wn y4 y0 (by rw [← HY4.out]; unfold tOne; rw [HT1.out]; omega) (by rw [← HY0.out]; unfold tOne tTwo; rw [HT1.out, HT2.out]; omega)
           rw [shf_zero] at e
           rw [← e]
           exact v0
          case measure => simp [intOf]; omega
     · obtain rfl : n = 64 := by omega
       clear hn64 hn
       have hSok := rnds_ok (K := fun i => stdK.getD i 0) (W := fun i => ws.getD i 0) hs0 64
       generalize rnds (fun i => stdK.getD i 0) (fun i => ws.getD i 0) s 64 = S at *
       rw [show ((64 : Nat) : Int) = 64 from rfl]
       go_wp2
       go_loopw [19] (fun i wr => ∃ k : Nat, k ≤ 8 ∧ i = .int .i64 k ∧ Blk wr (w.heap.size + 1) 152 (uA (addTo hl S.list k)) ∧ Blk wr (w.heap.size + 1 + 1) 152 zero8 ∧ Blk wr gv 152 (uA S.list) ∧ Below w.heap.size w wr) (fun i _ => 8 - (intOf i).toNat)
       case atStart => exact ⟨0, by omega, rfl, by rw [addTo_zero _ H8.out]; exact hb1.2.1, hb1.2.2.1, hv1, hb1.2.2.2⟩
       case round =>
        clear hb1 ht1 hv1
        obtain ⟨k, hk, rfl, k1, k2, k3, k4⟩ := hrel
        by_cases hk8 : k < 8
        · have hk8' : (k : Int) < 8 := by omega
          have c0 : wr.cell? ⟨w.heap.size + 1, k, none⟩ = some (.int .u64 (hl.getD k 0 : Nat)) := by
           rw [k1.cell, uA_at (by rw [addTo_length]; exact hk8), addTo_at _ _ _ hk8]
          have c1 : wr.cell? ⟨gv, k, none⟩ = some (.int .u64 (S.list.getD k 0 : Nat)) := (k3.cell k).trans (uA_at hk8)
          have f0 := k1.frozen k
          have b0 := getD_lt HLT.out (by decide) k
          have b1 := getD_lt (S8.list_lt hSok) (by decide) k
          have HA := Lib.hid (addTo_succ hl S.list k hk8)
          generalize hl.getD k 0 = x at *
          generalize S.list.getD k 0 = y at *
          go_wp2
          go_still_tail 10, (by kernel_rfl)
          change wpList _ _ _ _ _ wr.drew
          obtain ⟨w5, hw5⟩ : ∃ w5, wr.drew = w5 := ⟨_, rfl⟩
          rw [hw5]
          have k1' : Blk w5 (w.heap.size + 1) 152 (uA (addTo hl S.list k)) := by rw [← hw5]; exact k1
          have k2' : Blk w5 (w.heap.size + 1 + 1) 152 zero8 := by rw [← hw5]; exact k2
          have k3' : Blk w5 gv 152 (uA S.list) := by rw [← hw5]; exact k3
          have k4' : Below w.heap.size w w5 := by rw [← hw5]; exact k4.drew
          have c0' : w5.cell? ⟨w.heap.size + 1, k, none⟩ = some (.int .u64 (x : Nat)) := by rw [← hw5]; exact c0
          have f0' : w5.frozen? ⟨w.heap.size + 1, k, none⟩ = false := by rw [← hw5]; exact f0
          clear hw5 c0 c1 f0
          go_wp2
          go_roundw
          case rel =>
           refine ⟨k + 1, by omega, by go_num, ?_, k2'.far (by show w.heap.size + 1 + 1 ≠ w.heap.size + 1; omega) _, k3'.far (by show gv ≠ w.heap.size + 1; omega) _, k4'.setCell (p := ⟨w.heap.size + 1, k, none⟩) (by show w.heap.size ≤ w.heap.size + 1; omega) _⟩
           have := k1'.set_ k (U64 ((x + y) % 4294967296))
           rw [uA_set, HA.out] at this
           simpa [U64] using this
          case measure => simp [intOf]; omega
        · obtain rfl : k = 8 := by omega
          rw [← HM.out] at k1
          have hm8 := mixed_length hl B
          have hone := uA_one (mixed hl B)
          obtain ⟨M, hM⟩ : ∃ M, uA (mixed hl B) = M := ⟨_, rfl⟩
          have hms : M.size = 8 := by rw [← hM]; exact uA_size hm8
          rw [hM] at k1 hone
          have HMM := Lib.hid hM
          have HIM := Lib.hid (show (Tryz.prog.info? 152).map (·.size) = some M.size by rw [hms]; exact info8)
          have HOM := Lib.hid (show zero8.size = M.size by rw [hms]; rfl)
          have H1M := Lib.hid hone
          clear hM hms hone hm8 hk8 hk
          go_wp2_with (first
           | (refine wpList_load_row rfl 152 _ rfl (w.heap.size + 1) rfl 152 M (0, 0) _ k1 Tryz.underlying152 rfl HIM.out ?_)
           | (refine wpList_store_row rfl 152 _ _ rfl (w.heap.size + 1 + 1) M rfl rfl 152 zero8 k2 HIM.out HOM.out H1M.out ?_))
          refine bodyPost_ret (v := .agg M) ?_ rfl ?_
          · exact results_cell_row rfl _ _ (w.heap.size + 1 + 1) 152 M (0, 0) _ rfl (setRow_heap _ _ zero8 _ _ _ k2) Tryz.underlying152 rfl HIM.out
          · exact ⟨by rw [HMM.out], below_setRow k4 (by omega) _⟩
end Go.Proofs.YtakgolbgeeoioaaGreat

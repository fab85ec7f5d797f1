/-
  sha's words: the sixty-four words of a block of sixty-four bytes. A digest's filled and mix.
-/
import Derived.Test.YtakgolbgeeoioaaGreatMakeTableStdSched
import Derived.Test.YtakgolbgeeoioaaGreatRoundsDig
import Derived.StillTailTactics
import Derived.Deep.MidRow
import Derived.Deep.RegionHeld3
import Derived.Deep.DeepCutAuto
namespace Go.Proofs.YtakgolbgeeoioaaGreat
open Go.RowKit

def z64w : Array Value := Array.replicate 64 (U32 0)
theorem z64w_run (w : World) : (zeroValue 26).run Tryz.prog w = .ok (.agg z64w) w := by kernel_rfl
theorem z64w_eq : z64w = padded U32 64 [] := by rw [padded_nil]; rfl

theorem len64b : Tryz.prog.arrayLen 175 = 64 := by kernel_rfl
theorem elem64b : Tryz.prog.elem 175 = 5 := by kernel_rfl
theorem under64b : Tryz.prog.underlying 175 = some (.array (Tryz.prog.arrayLen 175) (Tryz.prog.elem 175)) := by kernel_rfl
theorem size8 (w : World) : (sizeOf (Tryz.prog.elem 175)).run Tryz.prog w = .ok 1 w := by kernel_rfl
theorem slice64 (db o l : Nat) (hl : l < 64) (W : World) : (Instr.sliceAt 175 (.pointer (some ⟨db, o, none⟩)) (some (.int .i64 (l : Int))) none none).run Tryz.prog W = .ok (.slice (some ⟨db, o + l, none⟩) (64 - l) (64 - l)) W := by
 rw [run_sliceAt_array_l W _ _ under64b .i64 (l : Int) (by omega) (by rw [len64b]; omega), size8, len64b]
 simp only [Result.andThen_ok, slicedAt, Int.toNat_natCast, if_neg (show ¬ 64 = l by omega), Nat.mul_one]
 have : (⟨db, o, none⟩ : Addr).add l = ⟨db, o + l, none⟩ := by unfold Addr.add; split <;> simp_all
 rw [this]

theorem flip_same {P : Program} {f : FuncId} {args : Array Value} {w : World} {v : Value} (h : Calls P f args w fun e w' => e = .returned v ∧ w = w') : Calls P f args w fun e w'' => e = .returned v ∧ w'' = w :=
 h.mono fun _ _ ⟨he, hw⟩ => ⟨he, hw.symm⟩
theorem sum_spell (a b c d : Nat) : IntKind.u32.wrap (IntKind.u32.wrap (IntKind.u32.wrap ((a : Int) + (b : Int)) + (c : Int)) + (d : Int)) = (((a + b + c + d) % 4294967296 : Nat) : Int) := by
 rw [IntKind.wrap_u32', IntKind.wrap_u32', IntKind.wrap_u32']; omega
theorem padded_one (m : Nat) (l : List Nat) : (padded U32 m l).all (·.oneCell') = true := by
 rw [Array.all_eq_true_iff_forall_mem]
 intro v hv
 unfold padded at hv
 rw [List.mem_toArray, List.mem_map] at hv
 obtain ⟨x, _, rfl⟩ := hv
 rfl
theorem wd_spell (x0 x1 x2 x3 : Nat) (h0 : x0 < 256) (h1 : x1 < 256) (h2 : x2 < 256) (h3 : x3 < 256) :
 bits BinOp.or .u32 (bits BinOp.or .u32 (bits BinOp.or .u32 (IntKind.u32.wrap (IntKind.u32.wrap (x0 : Int) * 16777216)) (IntKind.u32.wrap (IntKind.u32.wrap (x1 : Int) * 65536))) (IntKind.u32.wrap (IntKind.u32.wrap (x2 : Int) * 256))) (IntKind.u32.wrap (x3 : Int)) =
  ((x0 * 16777216 + x1 * 65536 + x2 * 256 + x3 : Nat) : Int) := by
 have e0 : IntKind.u32.wrap (IntKind.u32.wrap (x0 : Int) * 16777216) = ((x0 * 16777216 : Nat) : Int) := by rw [IntKind.wrap_u32', IntKind.wrap_u32']; omega
 have e1 : IntKind.u32.wrap (IntKind.u32.wrap (x1 : Int) * 65536) = ((x1 * 65536 : Nat) : Int) := by rw [IntKind.wrap_u32', IntKind.wrap_u32']; omega
 have e2 : IntKind.u32.wrap (IntKind.u32.wrap (x2 : Int) * 256) = ((x2 * 256 : Nat) : Int) := by rw [IntKind.wrap_u32', IntKind.wrap_u32']; omega
 have e3 : IntKind.u32.wrap (x3 : Int) = (x3 : Int) := by rw [IntKind.wrap_u32']; omega
 rw [e0, e1, e2, e3, u32_or_nat _ _ (by omega) (by omega), nat_join 24 _ _ (by omega) (by omega), u32_or_nat _ _ (by omega) (by omega), nat_join 16 _ _ (by omega) (by omega), u32_or_nat _ _ (by omega) (by omega), nat_join 8 _ _ (by omega) (by omega)]

set_option maxRecDepth 100000 in
set_option maxHeartbeats 1000000 in
theorem words_any (db o : Nat) (B : Nat → Nat) (hB8 : ∀ i, B i < 256) (w : World) (dl : db < w.heap.size) (cb : ∀ i, i < 64 → w.cell? ⟨db, o + i, none⟩ = some (.int .u8 (B i : Nat))) :
 Calls Tryz.prog 121 #[.pointer (some ⟨db, o, none⟩)] w fun e w' => e = .returned (.agg (padded U32 64 (wl B 64))) ∧ Below w.heap.size w w' := by
 have hz := z64w_run
 have CB := Lib.hid cb
 clear cb
 go_enter Tryz.func121, Tryz.ntmps121
 go_wp2
 obtain ⟨W0, hW0⟩ : ∃ W0, (w.alloc (Obj.cells z64w 26)).alloc (Obj.cells z64w 26) = W0 := ⟨_, rfl⟩
 rw [hW0]
 have b0 : Blk W0 w.heap.size 26 z64w := by rw [← hW0]; exact (Blk.new _ _ _).alloc _
 have b1 : Blk W0 (w.heap.size + 1) 26 (padded U32 64 (wl B 0)) := by rw [← hW0, show wl B 0 = [] from rfl, ← z64w_eq]; exact Blk.new_at (by simp)
 have hBe : Below w.heap.size w W0 := by rw [← hW0]; exact ((Below.refl _ w).alloc (Nat.le_refl _) _).alloc (by simp) _
 clear hW0 hz
 go_loopw [7] (fun i wr => ∃ n : Nat, n ≤ 16 ∧ i = .int .i64 n ∧ Blk wr w.heap.size 26 z64w ∧ Blk wr (w.heap.size + 1) 26 (padded U32 64 (wl B n)) ∧ Below w.heap.size w wr)
  (fun i _ => 16 - (intOf i).toNat)
 case atStart => exact ⟨0, by omega, rfl, b0, b1, hBe⟩
 case round =>
  obtain ⟨n, hn, rfl, a0, a1, hBr⟩ := hrel
  clear b0 b1 hBe
  by_cases hlt : n < 16
  · have hlt' : (n : Int) < 16 := by omega
    have hsl := fun W => slice64 db o (4 * n) (by omega) W
    simp only [Int.natCast_mul, Int.cast_ofNat_Int] at hsl
    have c0 : wr.cell? ⟨db, o + 4 * n, none⟩ = some (.int .u8 (B (4 * n) : Nat)) := (hBr.cell (p := ⟨db, _, none⟩) dl).trans (CB.out (4 * n) (by omega))
    have c1 : wr.cell? ⟨db, o + 4 * n + 1, none⟩ = some (.int .u8 (B (4 * n + 1) : Nat)) := (hBr.cell (p := ⟨db, _, none⟩) dl).trans (CB.out (4 * n + 1) (by omega))
    have c2 : wr.cell? ⟨db, o + 4 * n + 2, none⟩ = some (.int .u8 (B (4 * n + 2) : Nat)) := (hBr.cell (p := ⟨db, _, none⟩) dl).trans (CB.out (4 * n + 2) (by omega))
    have c3 : wr.cell? ⟨db, o + 4 * n + 3, none⟩ = some (.int .u8 (B (4 * n + 3) : Nat)) := (hBr.cell (p := ⟨db, _, none⟩) dl).trans (CB.out (4 * n + 3) (by omega))
    have d0 := hB8 (4 * n)
    have d1 := hB8 (4 * n + 1)
    have d2 := hB8 (4 * n + 2)
    have d3 := hB8 (4 * n + 3)
    have hlen := wl_length B n
    obtain ⟨ov, hov⟩ := padded_there U32 (m := 64) (l := wl B n) (by omega) (show n < 64 by omega)
    have q1 : wr.cell? ⟨w.heap.size + 1, n, none⟩ = some ov := (a1.cell n).trans hov
    have q2 := a1.frozen n
    obtain ⟨L, hL⟩ : ∃ L, 64 - 4 * n = L := ⟨_, rfl⟩
    rw [hL] at hsl
    have hl0 : 0 < L := by omega
    have h64 : (n : Int) < 64 := by omega
    have hl1 : (1 : Int) < (L : Int) := by omega
    have hl2 : (2 : Int) < (L : Int) := by omega
    have hl3 : (3 : Int) < (L : Int) := by omega
    clear hL
    have HW := Lib.hid (show wl B (n + 1) = wl B n ++ [wd B n] by show wl B n ++ [wnext B (wl B n) n] = _; unfold wnext; rw [if_pos hlt])
    have HL := Lib.hid hlen
    have HO := Lib.hid hov
    clear hlen hov
    have HD := Lib.hid (show wd B n = B (4 * n) * 16777216 + B (4 * n + 1) * 65536 + B (4 * n + 2) * 256 + B (4 * n + 3) from rfl)
    generalize B (4 * n) = x0 at *
    generalize B (4 * n + 1) = x1 at *
    generalize B (4 * n + 2) = x2 at *
    generalize B (4 * n + 3) = x3 at *
    go_wp2
    go_still_tail 24, (by kernel_rfl)
    change wpList _ _ _ _ _ wr.drew
    generalize hw2 : wr.drew = w2
    have q3 : w2.cell? ⟨w.heap.size + 1, n, none⟩ = some ov := by rw [← hw2]; exact q1
    have q4 : w2.frozen? ⟨w.heap.size + 1, n, none⟩ = false := by rw [← hw2]; exact q2
    have a0' : Blk w2 w.heap.size 26 z64w := by rw [← hw2]; exact a0
    have a1' : Blk w2 (w.heap.size + 1) 26 (padded U32 64 (wl B n)) := by rw [← hw2]; exact a1
    have hB2 : Below w.heap.size w w2 := by rw [← hw2]; exact hBr.drew
    have HS := Lib.hid (wd_spell x0 x1 x2 x3 d0 d1 d2 d3)
    clear hw2
    rw [HS.out]
    go_wp2
    go_roundw
    case rel =>
     refine ⟨n + 1, by omega, by go_num, a0'.far (by simp) _, ?_, hB2.setCell (p := ⟨w.heap.size + 1, n, none⟩) (by simp) _⟩
     rw [HW.out, HD.out]
     have := a1'.set_ n (U32 (x0 * 16777216 + x1 * 65536 + x2 * 256 + x3))
     have e := padded_set U32 (m := 64) (l := wl B n) (by rw [HL.out]; omega) (x0 * 16777216 + x1 * 65536 + x2 * 256 + x3)
     rw [HL.out] at e
     rw [e] at this
     simpa [U32] using this
    case measure => simp [intOf]; omega
  · obtain rfl : n = 16 := by omega
    clear hlt
    rw [show ((16 : Nat) : Int) = 16 from rfl]
    go_wp2
    go_loopw [6] (fun i wr => ∃ n : Nat, 16 ≤ n ∧ n ≤ 64 ∧ i = .int .i64 n ∧ Blk wr w.heap.size 26 z64w ∧ Blk wr (w.heap.size + 1) 26 (padded U32 64 (wl B n)) ∧ Below w.heap.size w wr)
     (fun i _ => 64 - (intOf i).toNat)
    case atStart => exact ⟨16, by omega, by omega, rfl, a0, a1, hBr⟩
    case round =>
     clear a0 a1 hBr
     obtain ⟨n, h16, hn, rfl, a0, a1, hBr⟩ := hrel
     by_cases hlt : n < 64
     · have h64 : (n : Int) < 64 := by omega
       have g16 : (16 : Int) ≤ (n : Int) := by omega
       obtain ⟨m, rfl⟩ : ∃ m, n = 16 + m := ⟨n - 16, by omega⟩
       have hl := wl_length B (16 + m)
       have hlt' := wl_lt hB8 (16 + m)
       have c2 := (a1.cell (14 + m)).trans (padded_at U32 (by omega))
       have c7 := (a1.cell (9 + m)).trans (padded_at U32 (by omega))
       have c15 := (a1.cell (1 + m)).trans (padded_at U32 (by omega))
       have c16 := (a1.cell m).trans (padded_at U32 (by omega))
       have d2 := getD_lt hlt' (by decide) (14 + m)
       have d7 := getD_lt hlt' (by decide) (9 + m)
       have d15 := getD_lt hlt' (by decide) (1 + m)
       have d16 := getD_lt hlt' (by decide) m
       have HW := Lib.hid (show wl B (16 + m + 1) = wl B (16 + m) ++ [(sS1 ((wl B (16 + m)).getD (14 + m) 0) + (wl B (16 + m)).getD (9 + m) 0 + sS0 ((wl B (16 + m)).getD (1 + m) 0) + (wl B (16 + m)).getD m 0) % 4294967296] by
        show wl B (16 + m) ++ [wnext B (wl B (16 + m)) (16 + m)] = _
        unfold wnext
        rw [if_neg (by omega), show 16 + m - 2 = 14 + m by omega, show 16 + m - 7 = 9 + m by omega, show 16 + m - 15 = 1 + m by omega, show 16 + m - 16 = m by omega])
       obtain ⟨ov, hov⟩ := padded_there U32 (m := 64) (l := wl B (16 + m)) (by omega) (show 16 + m < 64 by omega)
       have q1 : wr.cell? ⟨w.heap.size + 1, 16 + m, none⟩ = some ov := (a1.cell (16 + m)).trans hov
       have q2 := a1.frozen (16 + m)
       have HL := Lib.hid hl
       clear hl hov hlt'
       generalize (wl B (16 + m)).getD (14 + m) 0 = x2 at *
       generalize (wl B (16 + m)).getD (9 + m) 0 = x7 at *
       generalize (wl B (16 + m)).getD (1 + m) 0 = x15 at *
       generalize (wl B (16 + m)).getD m 0 = x16 at *
       unfold U32 at c2 c7 c15 c16
       have k2 : IntKind.i64.wrap (16 + (m : Int) - 2) = 14 + (m : Int) := by rw [IntKind.wrap_i64]; omega
       have k7 : IntKind.i64.wrap (16 + (m : Int) - 7) = 9 + (m : Int) := by rw [IntKind.wrap_i64]; omega
       have k15 : IntKind.i64.wrap (16 + (m : Int) - 15) = 1 + (m : Int) := by rw [IntKind.wrap_i64]; omega
       have k16 : IntKind.i64.wrap (16 + (m : Int) - 16) = (m : Int) := by rw [IntKind.wrap_i64]; omega
       have l2 : 14 + (m : Int) < 64 := by omega
       have l7 : 9 + (m : Int) < 64 := by omega
       have l15 : 1 + (m : Int) < 64 := by omega
       have l16 : (m : Int) < 64 := by omega
       have l0 : 16 + (m : Int) < 64 := by omega
       have p2 : 0 ≤ 14 + (m : Int) := by omega
       have p7 : 0 ≤ 9 + (m : Int) := by omega
       have p15 : 0 ≤ 1 + (m : Int) := by omega
       have p0 : 0 ≤ 16 + (m : Int) := by omega
       have t2 : (14 + (m : Int)).toNat = 14 + m := by omega
       have t7 : (9 + (m : Int)).toNat = 9 + m := by omega
       have t15 : (1 + (m : Int)).toNat = 1 + m := by omega
       have t0 : (16 + (m : Int)).toNat = 16 + m := by omega
       go_wp2
       refine wp_region_still_tail 23 (by kernel_rfl) (by kernel_rfl) ?_
       simp only [List.take_succ_cons, List.take_zero, List.drop_succ_cons, List.drop_zero]
       repeat still_step
       still_call (flip_same (sS1_any x2 d2 _))
       repeat still_step
       still_call (flip_same (sS0_any x15 d15 _))
       repeat still_step
       refine wpStill_nil ?_
       change wpList _ _ _ _ _ wr.drew
       clear k2 k7 k15 k16 t2 t7 t15
       generalize hw2 : wr.drew = w2
       have q3 : w2.cell? ⟨w.heap.size + 1, 16 + m, none⟩ = some ov := by rw [← hw2]; exact q1
       have q4 : w2.frozen? ⟨w.heap.size + 1, 16 + m, none⟩ = false := by rw [← hw2]; exact q2
       have a0' : Blk w2 w.heap.size 26 z64w := by rw [← hw2]; exact a0
       have a1' : Blk w2 (w.heap.size + 1) 26 (padded U32 64 (wl B (16 + m))) := by rw [← hw2]; exact a1
       have hB2 : Below w.heap.size w w2 := by rw [← hw2]; exact hBr.drew
       clear hw2
       rw [sum_spell (sS1 x2) x7 (sS0 x15) x16]
       obtain ⟨y, hy⟩ : ∃ y, (sS1 x2 + x7 + sS0 x15 + x16) % 4294967296 = y := ⟨_, rfl⟩
       rw [hy]
       have HY := Lib.hid hy
       clear hy
       go_wp2
       go_roundw
       case rel =>
        refine ⟨16 + m + 1, by omega, by omega, by go_num, a0'.far (by simp) _, ?_, hB2.setCell (p := ⟨w.heap.size + 1, 16 + m, none⟩) (by simp) _⟩
        rw [HW.out, HY.out]
        have := a1'.set_ (16 + m) (U32 y)
        have e := padded_set U32 (m := 64) (l := wl B (16 + m)) (by rw [HL.out]; omega) y
        rw [HL.out] at e
        rw [e] at this
        simpa [U32] using this
       case measure => simp [intOf]; omega
     · obtain rfl : n = 64 := by omega
       have hsz : (padded U32 64 (wl B 64)).size = 64 := padded_size U32 (by rw [wl_length]; omega)
       have hone : (padded U32 64 (wl B 64)).all (·.oneCell') = true := padded_one _ _
       obtain ⟨T, hT⟩ : ∃ T, padded U32 64 (wl B 64) = T := ⟨_, rfl⟩
       rw [hT] at hsz hone a1
       have HT := Lib.hid hT
       clear hT
       have HI := Lib.hid (show (Tryz.prog.info? 26).map (·.size) = some T.size by rw [hsz]; kernel_rfl)
       have HO := Lib.hid (show z64w.size = T.size by rw [hsz]; simp [z64w])
       have H1 := Lib.hid hone
       clear hsz hone
       go_wp2_with (first
        | (refine wpList_load_row rfl 26 _ rfl (w.heap.size + 1) rfl 26 T (0, 0) _ a1 Tryz.underlying26 rfl HI.out ?_)
        | (refine wpList_store_row rfl 26 _ _ rfl w.heap.size T rfl rfl 26 z64w a0 HI.out HO.out H1.out ?_))
       refine bodyPost_ret (v := .agg T) ?_ rfl ?_
       · exact results_cell_row rfl _ _ w.heap.size 26 T (0, 0) _ rfl (setRow_heap _ _ z64w _ _ _ a0) Tryz.underlying26 rfl HI.out
       · exact ⟨by rw [HT.out], below_setRow hBr (Nat.le_refl _) _⟩
end Go.Proofs.YtakgolbgeeoioaaGreat
namespace Go.Proofs.YtakgolbgeeoioaaGreat
open Go.RowKit

theorem filled_any (g n : Nat) (hn : n < 9223372036854775808) (w : World) (hc : w.cell? ⟨g, 136, none⟩ = some (.int .u64 (n : Nat))) :
 Calls Tryz.prog 109 #[.pointer (some ⟨g, 0, none⟩)] w fun e w' => e = .returned (.int .i64 ((n % 64 : Nat) : Int)) ∧ w = w' := by
 go_enter Tryz.func109, Tryz.ntmps109
 go_wp2
 go_ret
 exact ⟨rfl, rfl⟩

theorem wpStill_load_mid {P : Program} {ops : Array Oper} {rest : List Oper} {op : Oper} {a : Act} {w : World} {Q : Act → Prop} (hgd : op.guard = none) (ty : TypeId) (x : Operand) (ho : op.op = .load ty x)
 (b o : Nat) (hx : a.eval x = .pointer (some ⟨b, o, none⟩)) (cs : List Value) (d : TypeDesc) (hc : w.rangeAt b o cs)
 (hu : P.underlying ty = some d) (hd : d.isRow = true) (hi : (P.info? ty).map (·.size) = some cs.length)
 (h : wpStill P ops w Q rest (a.put op.dst (.agg cs.toArray))) : wpStill P ops w Q (op :: rest) a := by
 unfold wpStill
 rw [if_pos (by simp [Region.wanted, hgd])]
 unfold Oper.still execOp
 simp only [ho, hx, Instr.loadAt, Instr.sureAddr, Sem.run_bind, Sem.run_pure, Result.andThen_ok, run_loadVar_mid w b o ty cs d hc hu hd hi, Oper.stillUpon_value]
 exact h

theorem range_h {w : World} {g : Nat} {hl bs : List Nat} {n : Nat} (h8 : hl.length = 8) (hb : Blk w g 177 (digA hl bs n)) : w.rangeAt g 64 (hl.map U32) := by
 intro j v hv
 rw [hb.cell]
 have hj : j < 8 := by
  have := (List.getElem?_eq_some_iff.1 hv).1
  simpa [h8] using this
 rw [digA_h h8 j hj, ← hv]
 simp [List.getD_eq_getElem?_getD, List.getElem?_eq_getElem (show j < hl.length by omega)]

theorem below_reads {W w1 : World} (hb : Below W.heap.size W w1) : (∀ b o, b < W.heap.size → w1.cell? ⟨b, o, none⟩ = W.cell? ⟨b, o, none⟩) ∧ (∀ b o, b < W.heap.size → w1.frozen? ⟨b, o, none⟩ = W.frozen? ⟨b, o, none⟩) :=
 ⟨fun b o h => hb.cell (p := ⟨b, o, none⟩) h, fun b o h => hb.frozen (p := ⟨b, o, none⟩) h⟩
theorem add_spell (x y : Nat) : IntKind.u32.wrap ((x : Int) + (y : Int)) = (((x + y) % 4294967296 : Nat) : Int) := by rw [IntKind.wrap_u32']; omega
theorem only_set {a w : World} {g : Nat} (h : a.grownBy w (some g)) (i : Nat) (u : Value) : a.grownBy (w.setCell ⟨g, i, none⟩ u) (some g) :=
 ⟨h.os, h.tape, h.output, by simpa [World.setCell] using h.size, fun k hk hne => (Below.heap_setCell w _ u k (by rintro rfl; exact hne rfl)).trans (h.block k hk hne)⟩
theorem z8lit_run (w : World) : (zeroValue 27).run Tryz.prog w = .ok (.agg #[.int .u32 0, .int .u32 0, .int .u32 0, .int .u32 0, .int .u32 0, .int .u32 0, .int .u32 0, .int .u32 0]) w := by kernel_rfl

set_option maxRecDepth 100000 in
set_option maxHeartbeats 1000000 in
theorem mix_s (g : Nat) (s : S8) (bs : List Nat) (n : Nat) (h64 : bs.length = 64) (hs : s.ok) (hbt : ∀ x ∈ bs, x < 256) (w : World) (hb : Blk w g 177 (digA s.list bs n)) :
 Calls Tryz.prog 110 #[.pointer (some ⟨g, 0, none⟩)] w fun e w' => e = .returned (.tuple #[]) ∧ Blk w' g 177 (digA (mixed s.list fun i => bs.getD i 0) bs n) ∧ w.grownBy w' (some g) := by
 have h8 := s.list_length
 have hz := z64w_run
 have hz8 := z8lit_run
 go_enter Tryz.func110, Tryz.ntmps110
 go_wp2_with fail
 refine (words_any g 72 (fun i => bs.getD i 0) (fun i => getD_lt hbt (by decide) i) w hb.lt (fun i hi => by rw [hb.cell, digA_b h8 h64 i hi]; rfl)).mono ?_
 rintro e w1 ⟨rfl, hB1⟩
 have hsz : (padded U32 64 (wl (fun i => bs.getD i 0) 64)).size = 64 := padded_size U32 (by rw [wl_length]; omega)
 have hone := padded_one 64 (wl (fun i => bs.getD i 0) 64)
 have hW : ∀ j, j < 64 → (padded U32 64 (wl (fun i => bs.getD i 0) 64))[j]? = some (U32 ((wl (fun i => bs.getD i 0) 64).getD j 0)) := fun j hj => padded_at U32 (by rw [wl_length]; exact hj)
 have HM := Lib.hid (show mixed s.list (fun i => bs.getD i 0) = addTo s.list (rnds (fun i => stdK.getD i 0) (fun i => (wl (fun i => bs.getD i 0) 64).getD i 0) s 64).list 8 from rfl)
 have hwlt := wl_lt (fun i => getD_lt hbt (by decide) i) 64
 generalize hwl : wl (fun i => bs.getD i 0) 64 = ws at *
 clear hwl
 obtain ⟨T, hT⟩ : ∃ T, padded U32 64 ws = T := ⟨_, rfl⟩
 rw [hT] at hsz hone hW ⊢
 clear hT
 have HI := Lib.hid (show (Tryz.prog.info? 26).map (·.size) = some T.size by rw [hsz]; kernel_rfl)
 have HO := Lib.hid (show z64w.size = T.size by rw [hsz]; simp [z64w])
 have H1 := Lib.hid hone
 have HW := Lib.hid hW
 clear hsz hone hW
 go_wp2_with (refine wpList_store_row rfl 26 _ _ rfl w1.heap.size T rfl rfl 26 z64w (Blk.new _ _ _) HI.out HO.out H1.out ?_)
 rw [World.setRow_alloc_new]
 obtain ⟨w2, hw2⟩ : ∃ w2, w1.alloc (Obj.cells T 26) = w2 := ⟨_, rfl⟩
 rw [hw2]
 have b1 : Blk w2 w1.heap.size 26 T := by rw [← hw2]; exact Blk.new _ _ _
 have hB2 : Below w.heap.size w w2 := by rw [← hw2]; exact hB1.alloc hB1.size _
 have hs2 : w1.heap.size < w2.heap.size := b1.lt
 have b0 := hb.below hB2 hb.lt
 clear hw2
 have keepS : ∀ x, Below w2.heap.size w2 x → x.cell? ⟨g, 64, none⟩ = some (.int .u32 (s.a : Nat)) ∧ x.cell? ⟨g, 65, none⟩ = some (.int .u32 (s.b : Nat)) ∧ x.cell? ⟨g, 66, none⟩ = some (.int .u32 (s.c : Nat)) ∧ x.cell? ⟨g, 67, none⟩ = some (.int .u32 (s.d : Nat)) ∧ x.cell? ⟨g, 68, none⟩ = some (.int .u32 (s.e : Nat)) ∧ x.cell? ⟨g, 69, none⟩ = some (.int .u32 (s.f : Nat)) ∧ x.cell? ⟨g, 70, none⟩ = some (.int .u32 (s.g : Nat)) ∧ x.cell? ⟨g, 71, none⟩ = some (.int .u32 (s.h : Nat)) ∧ Below w2.heap.size w2 x := fun x hx => by
  have c := b0.below hx b0.lt
  exact ⟨(c.cell 64).trans (digA_h h8 0 (by omega)), (c.cell 65).trans (digA_h h8 1 (by omega)), (c.cell 66).trans (digA_h h8 2 (by omega)), (c.cell 67).trans (digA_h h8 3 (by omega)), (c.cell 68).trans (digA_h h8 4 (by omega)), (c.cell 69).trans (digA_h h8 5 (by omega)), (c.cell 70).trans (digA_h h8 6 (by omega)), (c.cell 71).trans (digA_h h8 7 (by omega)), hx⟩
 obtain ⟨S, hS⟩ : ∃ S, rnds (fun i => stdK.getD i 0) (fun i => ws.getD i 0) s 64 = S := ⟨_, rfl⟩
 have rc : ∀ x, Below w2.heap.size w2 x → Calls Tryz.prog 122 #[.agg #[.int .u32 (s.a : Nat), .int .u32 (s.b : Nat), .int .u32 (s.c : Nat), .int .u32 (s.d : Nat), .int .u32 (s.e : Nat), .int .u32 (s.f : Nat), .int .u32 (s.g : Nat), .int .u32 (s.h : Nat)], .pointer (some ⟨g, 0, none⟩), .pointer (some ⟨w1.heap.size, 0, none⟩)] x fun e w' =>
  e = .returned (.agg #[.int .u32 (S.a : Nat), .int .u32 (S.b : Nat), .int .u32 (S.c : Nat), .int .u32 (S.d : Nat), .int .u32 (S.e : Nat), .int .u32 (S.f : Nat), .int .u32 (S.g : Nat), .int .u32 (S.h : Nat)]) ∧ Below x.heap.size x w' := by
  intro x hx
  have c0 := b0.below hx b0.lt
  have c1 := b1.below hx hs2
  have := rounds_any s hs g w1.heap.size (fun i => stdK.getD i 0) (fun i => ws.getD i 0) (fun i => stdK_lt i) (fun i => getD_lt hwlt (by decide) i) x c0.lt c1.lt
   (fun j hj => by rw [c0.cell, digA_k j hj]; rfl) (fun j hj => by rw [c1.cell, HW.out j hj]; rfl)
  rw [hS] at this
  exact this
 rw [hS] at HM
 have HR := Lib.hid rc
 have HK := Lib.hid keepS
 clear hS rc keepS
 go_simp
 go_upto_region 1 with fail
 go_cut [3] (fun s3 wx => ∃ ga : Nat, s3 = .pointer (some ⟨ga, 0, none⟩) ∧ w2.heap.size ≤ ga ∧ Blk wx ga 27 S.vals ∧ Below w2.heap.size w2 wx)
 case first =>
  go_region_held3 (fun w' => w'.cell? ⟨g, 64, none⟩ = some (.int .u32 (s.a : Nat)) ∧ w'.cell? ⟨g, 65, none⟩ = some (.int .u32 (s.b : Nat)) ∧ w'.cell? ⟨g, 66, none⟩ = some (.int .u32 (s.c : Nat)) ∧ w'.cell? ⟨g, 67, none⟩ = some (.int .u32 (s.d : Nat)) ∧ w'.cell? ⟨g, 68, none⟩ = some (.int .u32 (s.e : Nat)) ∧ w'.cell? ⟨g, 69, none⟩ = some (.int .u32 (s.f : Nat)) ∧ w'.cell? ⟨g, 70, none⟩ = some (.int .u32 (s.g : Nat)) ∧ w'.cell? ⟨g, 71, none⟩ = some (.int .u32 (s.h : Nat)) ∧ Below w2.heap.size w2 w')
   ((refine HK.out _ ?_; repeat (first | with_reducible exact Below.refl _ _ | with_reducible exact hB4' | with_reducible refine Below.drew ?_ | ((with_reducible refine Below.setCell ?_ ?_ _); rotate_left; simp) | ((with_reducible refine Below.alloc ?_ ?_ _); rotate_left; (first | exact Nat.le_refl _ | exact hB4'.size | simp)))))
   (first | (go_at_call 122; refine (HR.out _ (by first | exact (Below.refl _ _).drew | exact ((Below.refl _ _).drew).alloc (Nat.le_refl _) _)).mono ?_; rintro e w4 ⟨rfl, hB4⟩; obtain ⟨hc4, hf4⟩ := below_reads hB4; have hB4' : Below w2.heap.size w2 w4 := (by first | exact (Below.refl _ _).drew.trans hB4 | exact (((Below.refl _ _).drew).alloc (Nat.le_refl _) _).trans (hB4.mono (by simp)))))
  · go_wp2_with fail
    go_meet
    exact ⟨w4.heap.size, rfl, hB4'.size, Blk.new _ _ _, hB4'.alloc hB4'.size _⟩
  · go_wp2_with fail
    go_meet
    have k : Blk w4 w2.heap.size 27 #[.int .u32 0, .int .u32 0, .int .u32 0, .int .u32 0, .int .u32 0, .int .u32 0, .int .u32 0, .int .u32 0] := Blk.below (Blk.new _ _ _).drew hB4 (by simp [World.drew])
    refine ⟨w2.heap.size, rfl, Nat.le_refl _, ?_, ?_⟩
    · exact (((((((k.set_ 0 _).set_ 1 _).set_ 2 _).set_ 3 _).set_ 4 _).set_ 5 _).set_ 6 _).set_ 7 _
    · exact (((((((hB4'.setCell (Nat.le_refl _) _).setCell (Nat.le_refl _) _).setCell (Nat.le_refl _) _).setCell (Nat.le_refl _) _).setCell (Nat.le_refl _) _).setCell (Nat.le_refl _) _).setCell (Nat.le_refl _) _).setCell (Nat.le_refl _) _
 case rest =>
  obtain ⟨ga, rfl, hga, b2, hBc⟩ := hcut
  have b0 := b0.below hBc b0.lt
  have hBw : Below w.heap.size w wc := hB2.trans (hBc.mono hB2.size)
  have hgl := hb.lt
  have hne : g ≠ ga := by have := hB2.size; omega
  have hgw : w.grownBy wc (some g) := ⟨hBw.os, hBw.tape, hBw.output, hBw.size, fun i hi _ => hBw.block i hi⟩
  clear b1 hBc hB1 hz hz8 HR HK
  go_wp2
  go_loopw [17] (fun i wr => ∃ k : Nat, k ≤ 8 ∧ i = .int .i64 k ∧ Blk wr g 177 (digA (addTo s.list S.list k) bs n) ∧ Blk wr ga 27 S.vals ∧ w.grownBy wr (some g))
   (fun i _ => 8 - (intOf i).toNat)
  case atStart => exact ⟨0, by omega, rfl, by rw [addTo_zero _ h8]; exact b0, b2, hgw⟩
  case round =>
   clear b0 b2 hgw hBw
   obtain ⟨k, hk, rfl, b0, b2, hgw⟩ := hrel
   by_cases hlt : k < 8
   · have hlt' : (k : Int) < 8 := by omega
     have c0 : wr.cell? ⟨g, 64 + k, none⟩ = some (.int .u32 (s.list.getD k 0 : Nat)) := (b0.cell (64 + k)).trans (by rw [digA_h (addTo_length _ _ _) k hlt, addTo_at _ _ _ hlt]; rfl)
     have c1 : wr.cell? ⟨ga, k, none⟩ = some (.int .u32 (S.list.getD k 0 : Nat)) := (b2.cell k).trans (by rw [S8.vals_list, map_at (show k < S.list.length from hlt)]; rfl)
     have f0 := b0.frozen (64 + k)
     have HA := Lib.hid (addTo_succ s.list S.list k hlt)
     generalize s.list.getD k 0 = x at *
     generalize S.list.getD k 0 = y at *
     go_wp2
     go_still_tail 13, (by kernel_rfl)
     change wpList _ _ _ _ _ wr.drew
     obtain ⟨w5, hw5⟩ : ∃ w5, wr.drew = w5 := ⟨_, rfl⟩
     rw [hw5]
     have b0' : Blk w5 g 177 (digA (addTo s.list S.list k) bs n) := by rw [← hw5]; exact b0
     have b2' : Blk w5 ga 27 S.vals := by rw [← hw5]; exact b2
     have hgw' : w.grownBy w5 (some g) := by rw [← hw5]; exact ⟨hgw.os, hgw.tape, hgw.output, hgw.size, hgw.block⟩
     have c0' : w5.cell? ⟨g, 64 + k, none⟩ = some (.int .u32 (x : Nat)) := by rw [← hw5]; exact c0
     have f0' : w5.frozen? ⟨g, 64 + k, none⟩ = false := by rw [← hw5]; exact f0
     clear hw5
     rw [add_spell x y]
     obtain ⟨z, hz⟩ : ∃ z, (x + y) % 4294967296 = z := ⟨_, rfl⟩
     rw [hz] at HA ⊢
     clear hz
     go_wp2
     go_roundw
     case rel =>
      refine ⟨k + 1, by omega, by go_num, ?_, b2'.far (by simpa using Ne.symm hne) _, only_set hgw' _ _⟩
      rw [← HA.out, ← digA_setH (addTo_length _ _ _) k z hlt]
      exact b0'.set_ (64 + k) (U32 z)
     case measure => simp [intOf]; omega
   · obtain rfl : k = 8 := by omega
     go_wp2
     go_end0
     exact ⟨rfl, by rw [HM.out]; exact b0, hgw⟩

theorem mix_any (g : Nat) (hl bs : List Nat) (n : Nat) (h8 : hl.length = 8) (h64 : bs.length = 64) (hlt : ∀ x ∈ hl, x < 4294967296) (hbt : ∀ x ∈ bs, x < 256) (w : World) (hb : Blk w g 177 (digA hl bs n)) :
 Calls Tryz.prog 110 #[.pointer (some ⟨g, 0, none⟩)] w fun e w' => e = .returned (.tuple #[]) ∧ Blk w' g 177 (digA (mixed hl fun i => bs.getD i 0) bs n) ∧ w.grownBy w' (some g) := by
 have := mix_s g (S8.of hl) bs n h64 (S8.of_ok hlt) hbt w
 rw [S8.of_list h8] at this
 exact this hb
end Go.Proofs.YtakgolbgeeoioaaGreat

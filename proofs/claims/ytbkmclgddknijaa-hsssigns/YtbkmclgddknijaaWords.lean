/-
  sha's words: the sixty-four words of a block of sixty-four bytes.
-/
import Derived.Test.YtbkmclgddknijaaSched
import Derived.Test.YtbkmclgddknijaaRounds
import Derived.StillTailTactics
namespace Go.Proofs.Ytbkmclgddknijaa
open Go.RowKit

def z64w : Array Value := Array.replicate 64 (U32 0)
theorem z64w_run (w : World) : (zeroValue 24).run Try.prog w = .ok (.agg z64w) w := by kernel_rfl
theorem z64w_eq : z64w = padded U32 64 [] := by rw [padded_nil]; rfl

theorem len64b : Try.prog.arrayLen 94 = 64 := by kernel_rfl
theorem elem64b : Try.prog.elem 94 = 5 := by kernel_rfl
theorem under64b : Try.prog.underlying 94 = some (.array (Try.prog.arrayLen 94) (Try.prog.elem 94)) := by kernel_rfl
theorem size8 (w : World) : (sizeOf (Try.prog.elem 94)).run Try.prog w = .ok 1 w := by kernel_rfl
theorem slice64 (db o l : Nat) (hl : l < 64) (W : World) : (Instr.sliceAt 94 (.pointer (some ⟨db, o, none⟩)) (some (.int .i64 (l : Int))) none none).run Try.prog W = .ok (.slice (some ⟨db, o + l, none⟩) (64 - l) (64 - l)) W := by
  rw [run_sliceAt_array_l W _ _ under64b .i64 (l : Int) (by omega) (by rw [len64b]; omega), size8, len64b]
  simp only [Result.andThen_ok, slicedAt, Int.toNat_natCast, if_neg (show ¬ 64 = l by omega), Nat.mul_one]
  have : (⟨db, o, none⟩ : Addr).add l = ⟨db, o + l, none⟩ := by unfold Addr.add; split <;> simp_all
  rw [this]

theorem flip_same {P : Program} {f : FuncId} {args : Array Value} {w : World} {v : Value} (h : Calls P f args w fun e w' => e = .returned v ∧ w = w') : Calls P f args w fun e w'' => e = .returned v ∧ w'' = w :=
  h.mono fun _ _ ⟨he, hw⟩ => ⟨he, hw.symm⟩
theorem sum_spell (a b c d : Nat) : IntKind.u32.wrap (IntKind.u32.wrap (IntKind.u32.wrap ((a : Int) + (b : Int)) + (c : Int)) + (d : Int)) = (((a + b + c + d) % 4294967296 : Nat) : Int) := by
  rw [IntKind.wrap_u32', IntKind.wrap_u32', IntKind.wrap_u32']; omega
theorem padded_one (m : Nat) (l : List Nat) : (padded U32 m l).all (·.oneCell') = true := by
  rw [Array.all_eq_true_iff_forall_mem]
  intro v hv
  unfold padded at hv
  rw [List.mem_toArray, List.mem_map] at hv
  obtain ⟨x, _, rfl⟩ := hv
  rfl
theorem wd_spell (x0 x1 x2 x3 : Nat) (h0 : x0 < 256) (h1 : x1 < 256) (h2 : x2 < 256) (h3 : x3 < 256) :
    bits BinOp.or .u32 (bits BinOp.or .u32 (bits BinOp.or .u32 (IntKind.u32.wrap (IntKind.u32.wrap (x0 : Int) * 16777216)) (IntKind.u32.wrap (IntKind.u32.wrap (x1 : Int) * 65536))) (IntKind.u32.wrap (IntKind.u32.wrap (x2 : Int) * 256))) (IntKind.u32.wrap (x3 : Int)) =
      ((x0 * 16777216 + x1 * 65536 + x2 * 256 + x3 : Nat) : Int) := by
  have e0 : IntKind.u32.wrap (IntKind.u32.wrap (x0 : Int) * 16777216) = ((x0 * 16777216 : Nat) : Int) := by rw [IntKind.wrap_u32', IntKind.wrap_u32']; omega
  have e1 : IntKind.u32.wrap (IntKind.u32.wrap (x1 : Int) * 65536) = ((x1 * 65536 : Nat) : Int) := by rw [IntKind.wrap_u32', IntKind.wrap_u32']; omega
  have e2 : IntKind.u32.wrap (IntKind.u32.wrap (x2 : Int) * 256) = ((x2 * 256 : Nat) : Int) := by rw [IntKind.wrap_u32', IntKind.wrap_u32']; omega
  have e3 : IntKind.u32.wrap (x3 : Int) = (x3 : Int) := by rw [IntKind.wrap_u32']; omega
  rw [e0, e1, e2, e3, u32_or_nat _ _ (by omega) (by omega), nat_join 24 _ _ (by omega) (by omega), u32_or_nat _ _ (by omega) (by omega), nat_join 16 _ _ (by omega) (by omega), u32_or_nat _ _ (by omega) (by omega), nat_join 8 _ _ (by omega) (by omega)]

set_option maxRecDepth 100000 in
set_option maxHeartbeats 1000000 in
theorem words_any (db o : Nat) (B : Nat → Nat) (hB8 : ∀ i, B i < 256) (w : World) (dl : db < w.heap.size) (cb : ∀ i, i < 64 → w.cell? ⟨db, o + i, none⟩ = some (.int .u8 (B i : Nat))) :
    Calls Try.prog 62 #[.pointer (some ⟨db, o, none⟩)] w fun e w' => e = .returned (.agg (padded U32 64 (wl B 64))) ∧ Below w.heap.size w w' := by
  have hz := z64w_run
  have CB := Lib.hid cb
  clear cb
  go_enter Try.func62, Try.ntmps62
  go_wp2
  obtain ⟨W0, hW0⟩ : ∃ W0, (w.alloc (Obj.cells z64w 24)).alloc (Obj.cells z64w 24) = W0 := ⟨_, rfl⟩
  rw [hW0]
  have b0 : Blk W0 w.heap.size 24 z64w := by rw [← hW0]; exact (Blk.new _ _ _).alloc _
  have b1 : Blk W0 (w.heap.size + 1) 24 (padded U32 64 (wl B 0)) := by rw [← hW0, show wl B 0 = [] from rfl, ← z64w_eq]; exact Blk.new_at (by simp)
  have hBe : Below w.heap.size w W0 := by rw [← hW0]; exact ((Below.refl _ w).alloc (Nat.le_refl _) _).alloc (by simp) _
  clear hW0 hz
  go_loopw [7] (fun i wr => ∃ n : Nat, n ≤ 16 ∧ i = .int .i64 n ∧ Blk wr w.heap.size 24 z64w ∧ Blk wr (w.heap.size + 1) 24 (padded U32 64 (wl B n)) ∧ Below w.heap.size w wr)
    (fun i _ => 16 - (intOf i).toNat)
  case atStart => exact ⟨0, by omega, rfl, b0, b1, hBe⟩
  case round =>
    obtain ⟨n, hn, rfl, a0, a1, hBr⟩ := hrel
    clear b0 b1 hBe
    by_cases hlt : n < 16
    · have hlt' : (n : Int) < 16 := by omega
      have hsl := fun W => slice64 db o (4 * n) (by omega) W
      simp only [Int.natCast_mul, Int.cast_ofNat_Int] at hsl
      have c0 : wr.cell? ⟨db, o + 4 * n, none⟩ = some (.int .u8 (B (4 * n) : Nat)) := (hBr.cell (p := ⟨db, _, none⟩) dl).trans (CB.out (4 * n) (by omega))
      have c1 : wr.cell? ⟨db, o + 4 * n + 1, none⟩ = some (.int .u8 (B (4 * n + 1) : Nat)) := (hBr.cell (p := ⟨db, _, none⟩) dl).trans (CB.out (4 * n + 1) (by omega))
      have c2 : wr.cell? ⟨db, o + 4 * n + 2, none⟩ = some (.int .u8 (B (4 * n + 2) : Nat)) := (hBr.cell (p := ⟨db, _, none⟩) dl).trans (CB.out (4 * n + 2) (by omega))
      have c3 : wr.cell? ⟨db, o + 4 * n + 3, none⟩ = some (.int .u8 (B (4 * n + 3) : Nat)) := (hBr.cell (p := ⟨db, _, none⟩) dl).trans (CB.out (4 * n + 3) (by omega))
      have d0 := hB8 (4 * n)
      have d1 := hB8 (4 * n + 1)
      have d2 := hB8 (4 * n + 2)
      have d3 := hB8 (4 * n + 3)
      have hlen := wl_length B n
      obtain ⟨ov, hov⟩ := padded_there U32 (m := 64) (l := wl B n) (by omega) (show n < 64 by omega)
      have q1 : wr.cell? ⟨w.heap.size + 1, n, none⟩ = some ov := (a1.cell n).trans hov
      have q2 := a1.frozen n
      obtain ⟨L, hL⟩ : ∃ L, 64 - 4 * n = L := ⟨_, rfl⟩
      rw [hL] at hsl
      have hl0 : 0 < L := by omega
      have h64 : (n : Int) < 64 := by omega
      have hl1 : (1 : Int) < (L : Int) := by omega
      have hl2 : (2 : Int) < (L : Int) := by omega
      have hl3 : (3 : Int) < (L : Int) := by omega
      clear hL
      have HW := Lib.hid (show wl B (n + 1) = wl B n ++ [wd B n] by show wl B n ++ [wnext B (wl B n) n] = _; unfold wnext; rw [if_pos hlt])
      have HL := Lib.hid hlen
      have HO := Lib.hid hov
      clear hlen hov
      have HD := Lib.hid (show wd B n = B (4 * n) * 16777216 + B (4 * n + 1) * 65536 + B (4 * n + 2) * 256 + B (4 * n + 3) from rfl)
      generalize B (4 * n) = x0 at *
      generalize B (4 * n + 1) = x1 at *
      generalize B (4 * n + 2) = x2 at *
      generalize B (4 * n + 3) = x3 at *
      go_wp2
      go_still_tail 24, (by kernel_rfl)
      change wpList _ _ _ _ _ wr.drew
      generalize hw2 : wr.drew = w2
      have q3 : w2.cell? ⟨w.heap.size + 1, n, none⟩ = some ov := by rw [← hw2]; exact q1
      have q4 : w2.frozen? ⟨w.heap.size + 1, n, none⟩ = false := by rw [← hw2]; exact q2
      have a0' : Blk w2 w.heap.size 24 z64w := by rw [← hw2]; exact a0
      have a1' : Blk w2 (w.heap.size + 1) 24 (padded U32 64 (wl B n)) := by rw [← hw2]; exact a1
      have hB2 : Below w.heap.size w w2 := by rw [← hw2]; exact hBr.drew
      have HS := Lib.hid (wd_spell x0 x1 x2 x3 d0 d1 d2 d3)
      clear hw2
      rw [HS.out]
      go_wp2
      go_roundw
      case rel =>
        refine ⟨n + 1, by omega, by go_num, a0'.far (by simp) _, ?_, hB2.setCell (p := ⟨w.heap.size + 1, n, none⟩) (by simp) _⟩
        rw [HW.out, HD.out]
        have := a1'.set_ n (U32 (x0 * 16777216 + x1 * 65536 + x2 * 256 + x3))
        have e := padded_set U32 (m := 64) (l := wl B n) (by rw [HL.out]; omega) (x0 * 16777216 + x1 * 65536 + x2 * 256 + x3)
        rw [HL.out] at e
        rw [e] at this
        simpa [U32] using this
      case measure => simp [intOf]; omega
    · obtain rfl : n = 16 := by omega
      clear hlt
      rw [show ((16 : Nat) : Int) = 16 from rfl]
      go_wp2
      go_loopw [6] (fun i wr => ∃ n : Nat, 16 ≤ n ∧ n ≤ 64 ∧ i = .int .i64 n ∧ Blk wr w.heap.size 24 z64w ∧ Blk wr (w.heap.size + 1) 24 (padded U32 64 (wl B n)) ∧ Below w.heap.size w wr)
        (fun i _ => 64 - (intOf i).toNat)
      case atStart => exact ⟨16, by omega, by omega, rfl, a0, a1, hBr⟩
      case round =>
        clear a0 a1 hBr
        obtain ⟨n, h16, hn, rfl, a0, a1, hBr⟩ := hrel
        by_cases hlt : n < 64
        · have h64 : (n : Int) < 64 := by omega
          have g16 : (16 : Int) ≤ (n : Int) := by omega
          obtain ⟨m, rfl⟩ : ∃ m, n = 16 + m := ⟨n - 16, by omega⟩
          have hl := wl_length B (16 + m)
          have hlt' := wl_lt hB8 (16 + m)
          have c2 := (a1.cell (14 + m)).trans (padded_at U32 (by omega))
          have c7 := (a1.cell (9 + m)).trans (padded_at U32 (by omega))
          have c15 := (a1.cell (1 + m)).trans (padded_at U32 (by omega))
          have c16 := (a1.cell m).trans (padded_at U32 (by omega))
          have d2 := getD_lt hlt' (by decide) (14 + m)
          have d7 := getD_lt hlt' (by decide) (9 + m)
          have d15 := getD_lt hlt' (by decide) (1 + m)
          have d16 := getD_lt hlt' (by decide) m
          have HW := Lib.hid (show wl B (16 + m + 1) = wl B (16 + m) ++ [(sS1 ((wl B (16 + m)).getD (14 + m) 0) + (wl B (16 + m)).getD (9 + m) 0 + sS0 ((wl B (16 + m)).getD (1 + m) 0) + (wl B (16 + m)).getD m 0) % 4294967296] by
            show wl B (16 + m) ++ [wnext B (wl B (16 + m)) (16 + m)] = _
            unfold wnext
            rw [if_neg (by omega), show 16 + m - 2 = 14 + m by omega, show 16 + m - 7 = 9 + m by omega, show 16 + m - 15 = 1 + m by omega, show 16 + m - 16 = m by omega])
          obtain ⟨ov, hov⟩ := padded_there U32 (m := 64) (l := wl B (16 + m)) (by omega) (show 16 + m < 64 by omega)
          have q1 : wr.cell? ⟨w.heap.size + 1, 16 + m, none⟩ = some ov := (a1.cell (16 + m)).trans hov
          have q2 := a1.frozen (16 + m)
          have HL := Lib.hid hl
          clear hl hov hlt'
          generalize (wl B (16 + m)).getD (14 + m) 0 = x2 at *
          generalize (wl B (16 + m)).getD (9 + m) 0 = x7 at *
          generalize (wl B (16 + m)).getD (1 + m) 0 = x15 at *
          generalize (wl B (16 + m)).getD m 0 = x16 at *
          unfold U32 at c2 c7 c15 c16
          have k2 : IntKind.i64.wrap (16 + (m : Int) - 2) = 14 + (m : Int) := by rw [IntKind.wrap_i64]; omega
          have k7 : IntKind.i64.wrap (16 + (m : Int) - 7) = 9 + (m : Int) := by rw [IntKind.wrap_i64]; omega
          have k15 : IntKind.i64.wrap (16 + (m : Int) - 15) = 1 + (m : Int) := by rw [IntKind.wrap_i64]; omega
          have k16 : IntKind.i64.wrap (16 + (m : Int) - 16) = (m : Int) := by rw [IntKind.wrap_i64]; omega
          have l2 : 14 + (m : Int) < 64 := by omega
          have l7 : 9 + (m : Int) < 64 := by omega
          have l15 : 1 + (m : Int) < 64 := by omega
          have l16 : (m : Int) < 64 := by omega
          have l0 : 16 + (m : Int) < 64 := by omega
          have p2 : 0 ≤ 14 + (m : Int) := by omega
          have p7 : 0 ≤ 9 + (m : Int) := by omega
          have p15 : 0 ≤ 1 + (m : Int) := by omega
          have p0 : 0 ≤ 16 + (m : Int) := by omega
          have t2 : (14 + (m : Int)).toNat = 14 + m := by omega
          have t7 : (9 + (m : Int)).toNat = 9 + m := by omega
          have t15 : (1 + (m : Int)).toNat = 1 + m := by omega
          have t0 : (16 + (m : Int)).toNat = 16 + m := by omega
          go_wp2
          refine wp_region_still_tail 23 (by kernel_rfl) (by kernel_rfl) ?_
          simp only [List.take_succ_cons, List.take_zero, List.drop_succ_cons, List.drop_zero]
          repeat still_step
          still_call (flip_same (sS1_any x2 d2 _))
          repeat still_step
          still_call (flip_same (sS0_any x15 d15 _))
          repeat still_step
          refine wpStill_nil ?_
          change wpList _ _ _ _ _ wr.drew
          clear k2 k7 k15 k16 t2 t7 t15
          generalize hw2 : wr.drew = w2
          have q3 : w2.cell? ⟨w.heap.size + 1, 16 + m, none⟩ = some ov := by rw [← hw2]; exact q1
          have q4 : w2.frozen? ⟨w.heap.size + 1, 16 + m, none⟩ = false := by rw [← hw2]; exact q2
          have a0' : Blk w2 w.heap.size 24 z64w := by rw [← hw2]; exact a0
          have a1' : Blk w2 (w.heap.size + 1) 24 (padded U32 64 (wl B (16 + m))) := by rw [← hw2]; exact a1
          have hB2 : Below w.heap.size w w2 := by rw [← hw2]; exact hBr.drew
          clear hw2
          rw [sum_spell (sS1 x2) x7 (sS0 x15) x16]
          obtain ⟨y, hy⟩ : ∃ y, (sS1 x2 + x7 + sS0 x15 + x16) % 4294967296 = y := ⟨_, rfl⟩
          rw [hy]
          have HY := Lib.hid hy
          clear hy
          go_wp2
          go_roundw
          case rel =>
            refine ⟨16 + m + 1, by omega, by omega, by go_num, a0'.far (by simp) _, ?_, hB2.setCell (p := ⟨w.heap.size + 1, 16 + m, none⟩) (by simp) _⟩
            rw [HW.out, HY.out]
            have := a1'.set_ (16 + m) (U32 y)
            have e := padded_set U32 (m := 64) (l := wl B (16 + m)) (by rw [HL.out]; omega) y
            rw [HL.out] at e
            rw [e] at this
            simpa [U32] using this
          case measure => simp [intOf]; omega
        · obtain rfl : n = 64 := by omega
          have hsz : (padded U32 64 (wl B 64)).size = 64 := padded_size U32 (by rw [wl_length]; omega)
          have hone : (padded U32 64 (wl B 64)).all (·.oneCell') = true := padded_one _ _
          obtain ⟨T, hT⟩ : ∃ T, padded U32 64 (wl B 64) = T := ⟨_, rfl⟩
          rw [hT] at hsz hone a1
          have HT := Lib.hid hT
          clear hT
          have HI := Lib.hid (show (Try.prog.info? 24).map (·.size) = some T.size by rw [hsz]; kernel_rfl)
          have HO := Lib.hid (show z64w.size = T.size by rw [hsz]; simp [z64w])
          have H1 := Lib.hid hone
          clear hsz hone
          go_wp2_with (first
            | (refine wpList_load_row rfl 24 _ rfl (w.heap.size + 1) rfl 24 T (0, 0) _ a1 Try.underlying24 rfl HI.out ?_)
            | (refine wpList_store_row rfl 24 _ _ rfl w.heap.size T rfl rfl 24 z64w a0 HI.out HO.out H1.out ?_))
          refine bodyPost_ret (v := .agg T) ?_ rfl ?_
          · exact results_cell_row rfl _ _ w.heap.size 24 T (0, 0) _ rfl (setRow_heap _ _ z64w _ _ _ a0) Try.underlying24 rfl HI.out
          · exact ⟨by rw [HT.out], below_setRow hBr (Nat.le_refl _) _⟩
end Go.Proofs.Ytbkmclgddknijaa

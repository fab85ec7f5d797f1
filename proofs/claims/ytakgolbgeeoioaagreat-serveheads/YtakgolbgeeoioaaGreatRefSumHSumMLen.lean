/-
  The reference's Sum. The digest of a string, by sha.Sum. bits.Len of small numbers; the parting of so many leaves: the program's.
-/
import Derived.Test.YtakgolbgeeoioaaGreatPadSumDSumFAwakeRefA
import Derived.Test.YtakgolbgeeoioaaGreatBlock
import Derived.Test.YtakgolbgeeoioaaGreatTxtGRow
import Derived.Test.YtakgolbgeeoioaaGreatBase
import Derived.Shelf.Small.Bits
namespace Go.Proofs.YtakgolbgeeoioaaGreat
open Go.RowKit

theorem be8_next (n k : Nat) (h : k < 8) : (be8 n).take (k + 1) = (be8 n).take k ++ [n / 256 ^ (7 - k) % 256] := by
 rw [List.take_succ_eq_append_getElem (by rw [be8_length]; exact h)]
 simp [be8]

theorem pad_lt {m : List Nat} (h : ∀ x ∈ m, x < 256) : ∀ x ∈ padMsg m, x < 256 := by
 intro x hx
 unfold padMsg at hx
 simp only [List.mem_append, List.mem_singleton, List.mem_replicate] at hx
 rcases hx with ((hx | rfl) | ⟨_, rfl⟩) | hx
 · exact h x hx
 · omega
 · omega
 · exact be8_lt _ x hx

theorem wpStill_load_row {P : Program} {ops : Array Oper} {rest : List Oper} {op : Oper} {a : Act} {w : World} {Q : Act → Prop} (hgd : op.guard = none) (ty : TypeId) (x : Operand) (ho : op.op = .load ty x)
 (g : Nat) (hx : a.eval x = .pointer (some ⟨g, 0, none⟩)) (t : TypeId) (cs : Array Value) (d : TypeDesc) (hg : Blk w g t cs)
 (hu : P.underlying ty = some d) (hd : (match d with | .struct _ | .array _ _ => true | _ => false) = true) (hi : (P.info? ty).map (·.size) = some cs.size)
 (h : wpStill P ops w Q rest (a.put op.dst (.agg cs))) : wpStill P ops w Q (op :: rest) a := by
 unfold wpStill
 rw [if_pos (by simp [Region.wanted, hgd])]
 unfold Oper.still execOp
 simp only [ho, hx, Instr.loadAt, Instr.sureAddr, Sem.run_bind, Sem.run_pure, Result.andThen_ok, run_loadVar_row w g t ty cs (0, 0) d hg hu hd hi, Oper.stillUpon_value]
 exact h

set_option maxRecDepth 100000 in
theorem slice_b (g M cap I : Nat) (h : I + 64 ≤ cap) (W : World) : (Instr.slice 119 (.slice (some ⟨g, 0, none⟩) M cap) (some (.int .i64 (I : Int))) (some (.int .i64 ((I : Int) + 64))) none).run Tryz.prog W = .ok (.slice (some ⟨g, I, none⟩) 64 (cap - I)) W := by
 rw [run_slice_lh W _ _ M cap Tryz.underlying119 .i64 .i64 (I : Int) ((I : Int) + 64) (by omega) (by omega) (by omega)]
 have hs : (sizeOf (Tryz.prog.elem 119)).run Tryz.prog W = .ok 1 W := by kernel_rfl
 rw [hs]
 have e : (⟨g, 0, none⟩ : Addr).add I = ⟨g, I, none⟩ := by unfold Addr.add; split <;> simp_all
 simp only [Result.andThen_ok, sliced, Int.toNat_natCast, if_neg (show ¬ cap = I by omega), Nat.mul_one, show ((I : Int) + 64).toNat = I + 64 by omega, Option.map_some, e, show I + 64 - I = 64 by omega]
theorem conv_four (x : Nat) (hx : x < 4294967296) (w : World) :
 (convert 119 9 (.slice (some ⟨w.heap.size, 0, none⟩) 4 4)).run Tryz.prog (w.alloc (.cells #[.int .u8 (IntKind.u8.wrap (IntKind.u64.wrap ((x : Int) / 16777216))), .int .u8 (IntKind.u8.wrap ((IntKind.u64.wrap ((x : Int) / 65536)).tmod 256)), .int .u8 (IntKind.u8.wrap ((IntKind.u64.wrap ((x : Int) / 256)).tmod 256)), .int .u8 (IntKind.u8.wrap ((x : Int).tmod 256))] 5)).drew =
  .ok (.string (strN (by4 x))) (w.alloc (.cells #[.int .u8 (IntKind.u8.wrap (IntKind.u64.wrap ((x : Int) / 16777216))), .int .u8 (IntKind.u8.wrap ((IntKind.u64.wrap ((x : Int) / 65536)).tmod 256)), .int .u8 (IntKind.u8.wrap ((IntKind.u64.wrap ((x : Int) / 256)).tmod 256)), .int .u8 (IntKind.u8.wrap ((x : Int).tmod 256))] 5)).drew := by
 have e1 : IntKind.u8.wrap (IntKind.u64.wrap ((x : Int) / 16777216)) = ((x / 16777216 % 256 : Nat) : Int) := by
  rw [IntKind.wrap_u64, IntKind.wrap_u8']; omega
 have e2 : IntKind.u8.wrap ((IntKind.u64.wrap ((x : Int) / 65536)).tmod 256) = ((x / 65536 % 256 : Nat) : Int) := by
  rw [IntKind.wrap_u64, IntKind.wrap_u8', Int.tmod_eq_emod_of_nonneg (by omega)]; omega
 have e3 : IntKind.u8.wrap ((IntKind.u64.wrap ((x : Int) / 256)).tmod 256) = ((x / 256 % 256 : Nat) : Int) := by
  rw [IntKind.wrap_u64, IntKind.wrap_u8', Int.tmod_eq_emod_of_nonneg (by omega)]; omega
 have e4 : IntKind.u8.wrap ((x : Int).tmod 256) = ((x % 256 : Nat) : Int) := by
  rw [IntKind.wrap_u8', Int.tmod_eq_emod_of_nonneg (by omega)]; omega
 rw [e1, e2, e3, e4]
 refine conv_cells _ 119 5 9 Tryz.underlying119 Tryz.underlying5 Tryz.underlying9 w.heap.size 4 (by4 x) (fun i hi => ?_)
 rw [(Blk.new w 5 _).drew.cell]
 have h4 : i < 4 := hi
 rcases i with _ | _ | _ | _ | i
 · rfl
 · rfl
 · rfl
 · rfl
 · omega

set_option maxRecDepth 100000 in
set_option maxHeartbeats 2000000 in
theorem refsum_any (s : ByteArray) (hn : s.size ≤ 1099511627776) (w : World) :
 Calls Tryz.prog 70 #[.string s] w fun e w' => e = .returned (.string (SHA (nums s))) ∧ Below w.heap.size w w' := by
 obtain ⟨w1, cap1, hrun, hrow1, hB1⟩ := run_bytes_brow (P := Tryz.prog) w 9 119 5 s Tryz.underlying9 Tryz.underlying119 Tryz.underlying5
 have HN := Lib.hid (nums_length s)
 have hL0 := HN.out
 obtain ⟨m, hm⟩ : ∃ m, nums s = m := ⟨_, rfl⟩
 rw [hm] at hrow1 hL0 HN ⊢
 have HMM := Lib.hid hm
 clear hm
 obtain ⟨n, hn'⟩ : ∃ n, s.size = n := ⟨_, rfl⟩
 have hns := hn
 rw [hn'] at hL0 hn hrun hrow1
 have HNN := Lib.hid hn'
 clear hn'
 go_enter Tryz.func70, Tryz.ntmps70
 go_wp2_with (at_builtin; refine wpList_append_brow _ rfl (.tmp 14) (.tmp 15) 119 rfl w.heap.size 5 Tryz.underlying119 byteInfo rfl (hrow1.alloc _) ⟨w1.heap.size, 0, none⟩ 1 1 [128] rfl rfl (one_new _ 128 _) (by rw [hL0]; omega) (by have := hB1.size; simp; omega) ?_; intro v2 w2 g2 cap2 hrow2 hg2 hge2)
 have hB2 := below_append hB1 hg2 (Nat.le_refl _)
 have hv2 := hrow2.at (n := n + 1) (by rw [List.length_append, hL0]; rfl)
 subst hv2
 clear hrow1 hB1 hg2 hge2 hrun
 have hzl := zs_lt n
 go_wp2
 go_loopg [3] (zs n) (fun k v wr => ∃ z g cap L : Nat, Hid (z + k = zs n) ∧ z ≤ 64 ∧ Hid (n + 1 + z = L) ∧ v = .slice (some ⟨g, 0, none⟩) L cap ∧ BRow wr w.heap.size (.slice (some ⟨g, 0, none⟩) L cap) (m ++ [128] ++ List.replicate z 0) g cap ∧ Below w.heap.size w wr)
 case atStart => exact ⟨0, g2, cap2, n + 1, Lib.hid (by omega), by omega, Lib.hid rfl, rfl, by simpa using hrow2, hB2⟩
 case round =>
  clear hrow2 hB2
  obtain ⟨z, g, cap, L, HZ, hz64, HL, rfl, hrow, hB⟩ := hrel
  have hgB := hrow.base
  have hlz : (m ++ [128] ++ List.replicate z 0).length = L := by rw [← HL.out]; simp [hL0]; omega
  have HLZ := Lib.hid hlz
  clear hlz
  have hLb : L ≤ n + 65 := by have := HL.out; omega
  by_cases hk : z < zs n
  · have hne : ((L : Int) % 64 != 56) = true := by
     rw [bne_iff_ne]
     have := zs_least n z hk
     rw [HL.out] at this
     omega
    go_wp2_with (at_builtin; refine wpList_append_brow _ rfl (.tmp 21) (.tmp 22) 119 rfl w.heap.size 5 Tryz.underlying119 byteInfo rfl (hrow.alloc _) ⟨wr.heap.size, 0, none⟩ 1 1 [0] rfl rfl (one_new _ 0 _) (by rw [HLZ.out]; omega) (by have := hB.size; simp; omega) ?_; intro v3 w3 g3 cap3 hrow3 hg3 hge3)
    have hB3 := below_append hB hg3 hgB
    have hv3 := hrow3.at (n := L + 1) (by rw [List.length_append, HLZ.out]; rfl)
    subst hv3
    go_roundg (zs n - (z + 1))
    case measure => have := HZ.out; omega
    case rel =>
     refine ⟨z + 1, g3, cap3, L + 1, Lib.hid (by omega), by omega, Lib.hid (by have := HL.out; omega), rfl, ?_, hB3⟩
     rw [List.replicate_succ', ← List.append_assoc]
     exact hrow3
  · have hz : z = zs n := by have := HZ.out; omega
    have hne : ((L : Int) % 64 != 56) = false := by
     have := zs_mod n
     rw [← hz, HL.out] at this
     rw [show (L : Int) % 64 = 56 by omega]; rfl
    have HE := Lib.hid hz
    clear hk hz
    go_wp2
    rw [HNN.out]
    obtain ⟨N, hN⟩ : ∃ N : Nat, n * 8 = N := ⟨_, rfl⟩
    rw [show (n : Int) * 8 = (N : Int) by omega]
    have hNb : N ≤ 8796093022208 := by omega
    have HP := Lib.hid (show m ++ [128] ++ List.replicate z 0 ++ be8 N = padMsg m by rw [HE.out, ← hN, ← hL0]; rfl)
    have HN8 := Lib.hid hN
    have HZM := Lib.hid (show L % 64 = 56 by have := zs_mod n; rw [← HE.out, HL.out] at this; exact this)
    clear hN hne
    generalize m ++ [128] ++ List.replicate z 0 = l0 at *
    go_loopw [3, 5] (fun v i wr => ∃ k g cap : Nat, k ≤ 8 ∧ i = .int .i64 k ∧ v = .slice (some ⟨g, 0, none⟩) (L + k) cap ∧ BRow wr w.heap.size (.slice (some ⟨g, 0, none⟩) (L + k) cap) (l0 ++ (be8 N).take k) g cap ∧ Below w.heap.size w wr)
     (fun _ i _ => 8 - (intOf i).toNat)
    case atStart => exact ⟨0, g, cap, by omega, rfl, rfl, by simpa using hrow, hB⟩
    case round =>
     clear hrow hB hgB
     obtain ⟨k, g, cap, hk, rfl, rfl, hrow, hB⟩ := hrel
     have hgB := hrow.base
     have hlk : (l0 ++ (be8 N).take k).length = L + k := by rw [List.length_append, HLZ.out, List.length_take, be8_length]; omega
     by_cases hlt : k < 8
     · have hlt' : (k : Int) < 8 := by omega
       have HT := Lib.hid (be8_next N k hlt)
       have HLK := Lib.hid hlk
       clear hlk
       obtain ⟨wo, rfl⟩ : ∃ wo : World, wo = wr := ⟨_, rfl⟩
       go_wp2
       go_loopw [6, 7] (fun x j wr => ∃ q : Nat, k + q ≤ 7 ∧ j = .int .i64 ((k + q : Nat) : Int) ∧ x = .int .u64 ((N / 256 ^ q : Nat) : Int) ∧ wo = wr) (fun _ j _ => 8 - (intOf j).toNat)
       case atStart => exact ⟨0, by omega, by simp, by simp, rfl⟩
       case round =>
        obtain ⟨q, hq, rfl, rfl, rfl⟩ := hrel
        obtain ⟨J, hJ⟩ : ∃ J, k + q = J := ⟨_, rfl⟩
        rw [hJ] at hq ⊢
        obtain ⟨x, hx⟩ : ∃ x, N / 256 ^ q = x := ⟨_, rfl⟩
        have hxN : x ≤ N := by rw [← hx]; exact Nat.div_le_self _ _
        rw [hx]
        have HX := Lib.hid hx
        have HJ := Lib.hid hJ
        clear hx hJ
        by_cases hj7 : J < 7
        · have hj7' : (J : Int) < 7 := by omega
          go_wp2
          go_roundw
          case rel =>
           refine ⟨q + 1, by have := HJ.out; omega, ?_, ?_, trivial⟩
           · rw [← Nat.add_assoc, HJ.out]; go_num
           · rw [Nat.pow_succ, ← Nat.div_div_eq_div_mul, HX.out]; go_num
          case measure => simp [intOf]; omega
        · have hj7' : ¬ (J : Int) < 7 := by omega
          obtain ⟨y, hy⟩ : ∃ y, x % 256 = y := ⟨_, rfl⟩
          have HY := Lib.hid (show N / 256 ^ (7 - k) % 256 = y by rw [show 7 - k = q by have := HJ.out; omega, HX.out, hy])
          rw [HY.out] at HT
          have hxy : (x : Int) % 256 = (y : Int) := by omega
          clear hy
          go_wp2_with (at_builtin; refine wpList_append_brow _ rfl (.tmp 40) (.tmp 44) 119 rfl w.heap.size 5 Tryz.underlying119 byteInfo rfl (hrow.alloc _) ⟨wo.heap.size, 0, none⟩ 1 1 [y] rfl rfl (one_new _ y _) (by rw [HLK.out]; omega) (by have := hB.size; simp; omega) ?_; intro v4 w4 g4 cap4 hrow4 hg4 hge4)
          have hB4 := below_append hB hg4 hgB
          have hv4 := hrow4.at (n := L + (k + 1)) (by rw [List.length_append, HLK.out]; show L + k + 1 = _; omega)
          subst hv4
          rw [List.append_assoc, ← HT.out] at hrow4
          go_roundw
          case rel => exact ⟨k + 1, g4, cap4, by omega, by go_num, rfl, hrow4, hB4⟩
          case measure => simp [intOf]; omega
     · obtain rfl : k = 8 := by omega
       rw [List.take_of_length_le (by rw [be8_length]; omega), HP.out] at hrow
       rw [List.take_of_length_le (by rw [be8_length]; omega), HP.out] at hlk
       obtain ⟨M, hM⟩ : ∃ M, L + 8 = M := ⟨_, rfl⟩
       rw [hM] at hrow hlk ⊢
       have HM64 := Lib.hid (show M % 64 = 0 by have := HZM.out; omega)
       have HML := Lib.hid hlk
       have hMb : M ≤ 1099511627849 := by omega
       have HPB := Lib.hid (show ∀ i, (padMsg m).getD i 0 < 256 from fun i => getD_lt (pad_lt (by rw [← HMM.out]; exact nums_lt s)) (by decide) i)
       have HD := Lib.hid (show SHA m = strN ((hstN (padMsg m) (M / 64)).flatMap by4) by unfold SHA dgst; rw [hlk])
       generalize padMsg m = p at *
       have hz := zero64_run
       have hz8 := zero8_run
       clear hlk hM HP HZM HLZ hLb hlt
       go_wp2_with fail
       refine (refK_any _).mono ?_
       rintro e w5 ⟨rfl, hw5⟩
       have hB5 : Below w.heap.size w w5 := by rw [← hw5]; exact hB.alloc hB.size _
       have hrow5 : BRow w5 w.heap.size (.slice (some ⟨g, 0, none⟩) M cap) p g cap := by rw [← hw5]; exact hrow.alloc _
       clear hw5 hB hrow
       go_wp2_with (refine wpList_store_row rfl 150 _ _ rfl w5.heap.size refKV rfl rfl 150 zero64 (Blk.new _ _ _) info64 (by kernel_rfl) (by kernel_rfl) ?_; rw [World.setRow_alloc_new])
       have hb5 : Blk (w5.alloc (.cells refKV 150)) w5.heap.size 150 refKV := Blk.new _ _ _
       have hr5 := hrow5.alloc (.cells refKV 150)
       have hB5' := hB5.alloc hB5.size (.cells refKV 150)
       generalize hw6 : w5.alloc (.cells refKV 150) = w6 at *
       have hgk := hB5.size
       have hgne : g ≠ w5.heap.size := Nat.ne_of_lt hrow5.lt
       generalize w5.heap.size = gk at *
       clear hw6 hrow5 hB5
       refine (refH_any _).mono ?_
       rintro e w7 ⟨rfl, hw7⟩
       have hB7 : Below w.heap.size w w7 := by rw [← hw7]; exact hB5'.alloc hB5'.size _
       have hrow7 : BRow w7 w.heap.size (.slice (some ⟨g, 0, none⟩) M cap) p g cap := by rw [← hw7]; exact hr5.alloc _
       have hb7 : Blk w7 gk 150 refKV := by rw [← hw7]; exact hb5.alloc _
       clear hw7 hB5' hr5 hb5
       go_wp2_with (refine wpList_store_row rfl 152 _ _ rfl w7.heap.size refHV rfl rfl 152 zero8 (Blk.new _ _ _) info8 (by kernel_rfl) (by kernel_rfl) ?_; rw [World.setRow_alloc_new])
       have hh8 : Blk (w7.alloc (.cells refHV 152)) w7.heap.size 152 (uA (hstN p 0)) := Blk.new _ _ _
       have hr8 := hrow7.alloc (.cells refHV 152)
       have hb8 := hb7.alloc (.cells refHV 152)
       have hB8 := hB7.alloc hB7.size (.cells refHV 152)
       generalize hw8 : w7.alloc (.cells refHV 152) = w8 at *
       have hgh := hB7.size
       have hne1 : g ≠ w7.heap.size := Nat.ne_of_lt hrow7.lt
       have hne2 : gk ≠ w7.heap.size := Nat.ne_of_lt hb7.lt
       generalize w7.heap.size = gh at *
       clear hw8 hrow7 hB7 hb7 hz hz8
       go_loopw [10] (fun i wr => ∃ k : Nat, 64 * k ≤ M ∧ i = .int .i64 ((64 * k : Nat) : Int) ∧ Blk wr gk 150 refKV ∧ Blk wr gh 152 (uA (hstN p k)) ∧ BRow wr w.heap.size (.slice (some ⟨g, 0, none⟩) M cap) p g cap ∧ Below w.heap.size w wr)
        (fun i _ => M - (intOf i).toNat)
       case atStart => exact ⟨0, by omega, rfl, hb8, hh8, hr8, hB8⟩
       case round =>
        clear hb8 hh8 hr8 hB8
        obtain ⟨k, hk, rfl, hb, hh, hrow, hB⟩ := hrel
        obtain ⟨I, hI⟩ : ∃ I, 64 * k = I := ⟨_, rfl⟩
        rw [hI] at hk ⊢
        have HI := Lib.hid hI
        clear hI
        by_cases hlt : I < M
        · have hlt' : (I : Int) < (M : Int) := by omega
          have hI64 : I + 64 ≤ M := by have := HI.out; have := HM64.out; omega
          go_wp2
          refine wp_region_still_tail 7 (by kernel_rfl) (by kernel_rfl) ?_
          simp only [List.take_succ_cons, List.take_zero, List.drop_succ_cons, List.drop_zero]
          change wpStill _ _ wr.drew (fun a' => wpList _ _ _ _ a' wr.drew) _ _
          obtain ⟨w9, hw9⟩ : ∃ w9, wr.drew = w9 := ⟨_, rfl⟩
          rw [hw9]
          have hb9 : Blk w9 gk 150 refKV := by rw [← hw9]; exact hb
          have hh9 : Blk w9 gh 152 (uA (hstN p k)) := by rw [← hw9]; exact hh
          have hr9 : BRow w9 w.heap.size (.slice (some ⟨g, 0, none⟩) M cap) p g cap := by rw [← hw9]; exact hrow.drew
          have hB9 : Below w.heap.size w w9 := by rw [← hw9]; exact hB.drew
          clear hw9 hb hh hrow hB
          refine wpStill_load_row rfl 150 _ rfl gk rfl 150 refKV _ hb9 Tryz.underlying150 rfl info64 ?_
          refine wpStill_load_row rfl 152 _ rfl gh rfl 152 (uA (hstN p k)) _ hh9 Tryz.underlying152 rfl (by rw [uA_size (hstN_length _ _)]; exact info8) ?_
          have e1 : IntKind.i64.wrap ((I : Int) + 64) = (I : Int) + 64 := by rw [IntKind.wrap_i64]; omega
          have hsl := slice_b g M cap I (by have := hr9.le; rw [HML.out] at this; omega) w9
          repeat still_step
          refine wpStill_nil ?_
          clear e1 hsl
          have hblk := block_any (hstN p k) (hstN_length _ _) (hstN_lt _ _) g I (cap - I) (fun i => p.getD (64 * k + i) 0) (fun i => HPB.out _) w9 hr9.lt (fun i hi => by rw [hr9.cells (I + i) (by rw [HML.out]; omega), HI.out]; rfl)
          obtain ⟨hl, hhl⟩ : ∃ hl, hstN p k = hl := ⟨_, rfl⟩
          have HS := Lib.hid (show hstN p (k + 1) = mixed (hstN p k) fun i => p.getD (64 * k + i) 0 from rfl)
          have h8 := mixed_length (hstN p k) fun i => p.getD (64 * k + i) 0
          have h8' := hstN_length p k
          obtain ⟨hx, hhx⟩ : ∃ hx, mixed (hstN p k) (fun i => p.getD (64 * k + i) 0) = hx := ⟨_, rfl⟩
          rw [hhx] at HS hblk h8
          rw [hhl] at hblk hh9 h8' ⊢
          have H8 := Lib.hid h8
          have H8' := Lib.hid h8'
          have HBK := Lib.hid hblk
          clear hhl hhx hblk h8 h8'
          go_wp2_with fail
          refine HBK.out.mono ?_
          rintro e w10 ⟨rfl, hB10⟩
          have hb10 := hb9.below hB10 hb9.lt
          have hh10 := hh9.below hB10 hh9.lt
          have hr10 := hr9.below hB10 hr9.lt
          have hB10' : Below w.heap.size w w10 := hB9.trans (hB10.mono hB9.size)
          clear hb9 hh9 hr9 hB9 hB10 HBK
          go_wp2_with (refine wpList_store_row rfl 152 _ _ rfl gh (uA hx) rfl rfl 152 (uA hl) hh10 (by rw [uA_size H8.out]; exact info8) (by rw [uA_size H8.out, uA_size H8'.out]) (uA_one _) ?_)
          go_roundw
          case rel =>
           refine ⟨k + 1, by have := HI.out; omega, ?_, hb10.setRow hne2 _, ?_, hr10.keep (by simp) (setRow_other _ _ _ _ hne1), ?_⟩
           · rw [Nat.mul_add, HI.out]; go_num
           · rw [HS.out]; exact blk_setRow hh10 _
           · exact below_setRow hB10' hgh _
          case measure => simp [intOf]; omega
        · have hIM : I = M := by omega
          have HK : Hid (M / 64 = k) := Lib.hid (by have := HI.out; omega)
          rw [HK.out] at HD
          have h8 := hstN_length p k
          have hlt8 := hstN_lt p k
          obtain ⟨hl, hhl⟩ : ∃ hl, hstN p k = hl := ⟨_, rfl⟩
          rw [hhl] at HD h8 hlt8 hh
          have H8 := Lib.hid h8
          have HL8 := Lib.hid hlt8
          subst hIM
          clear hlt hb hrow h8 hlt8 hhl
          go_wp2
          go_loopw [11, 12] (fun o i wr => ∃ k : Nat, k ≤ 8 ∧ i = .int .i64 k ∧ o = .string (strN ((hl.take k).flatMap by4)) ∧ Blk wr gh 152 (uA hl) ∧ Below w.heap.size w wr)
           (fun _ i _ => 8 - (intOf i).toNat)
          case atStart => exact ⟨0, by omega, rfl, rfl, hh, hB⟩
          case round =>
           clear hh hB
           obtain ⟨k, hk, rfl, rfl, hh, hB⟩ := hrel
           by_cases hlt : k < 8
           · have hlt' : (k : Int) < 8 := by omega
             have hc : wr.cell? ⟨gh, k, none⟩ = some (.int .u64 ((hl.getD k 0 : Nat) : Int)) := (hh.cell k).trans (uA_at (by rw [H8.out]; exact hlt))
             have hx := getD_lt HL8.out (by decide) k
             have HF := Lib.hid (flat_take hl k (by rw [H8.out]; exact hlt))
             generalize hl.getD k 0 = x at *
             obtain ⟨pre, hpre⟩ : ∃ pre, strN ((hl.take k).flatMap by4) = pre := ⟨_, rfl⟩
             rw [hpre]
             have HPRE := Lib.hid hpre
             clear hpre
             go_wp2
             have keepS : ∀ W, Below wr.heap.size wr W → W.cell? ⟨gh, k, none⟩ = some (.int .u64 (x : Nat)) ∧ Below wr.heap.size wr W := fun W hW => ⟨(hW.cell (p := ⟨gh, k, none⟩) hh.lt).trans hc, hW⟩
             have HKP := Lib.hid keepS
             clear keepS
             have hcv := conv_four x hx wr
             obtain ⟨s4, hs4⟩ : ∃ s4, strN (by4 x) = s4 := ⟨_, rfl⟩
             rw [hs4] at hcv
             have HS4 := Lib.hid hs4
             have hsz : ¬ pre.size + s4.size > 9223372036854775807 := by
              rw [← HPRE.out, ← hs4, strN_size, strN_size, flat_len, List.length_take, H8.out]
              simp only [by4, List.length_cons, List.length_nil]
              omega
             clear hs4
             go_region_held (fun w' => w'.cell? ⟨gh, k, none⟩ = some (.int .u64 (x : Nat)) ∧ Below wr.heap.size wr w')
              ((refine HKP.out _ ?_; repeat (first | with_reducible exact Below.refl _ _ | with_reducible refine Below.drew ?_ | ((with_reducible refine Below.alloc ?_ ?_ _); rotate_left; exact Nat.le_refl _))))
              (fail)
             clear hcv
             have hh2 : Blk (wr.alloc (.cells #[.int .u8 (IntKind.u8.wrap (IntKind.u64.wrap ((x : Int) / 16777216))), .int .u8 (IntKind.u8.wrap ((IntKind.u64.wrap ((x : Int) / 65536)).tmod 256)), .int .u8 (IntKind.u8.wrap ((IntKind.u64.wrap ((x : Int) / 256)).tmod 256)), .int .u8 (IntKind.u8.wrap ((x : Int).tmod 256))] 5)).drew gh 152 (uA hl) := (hh.alloc _).drew
             have hB2 : Below w.heap.size w (wr.alloc (.cells #[.int .u8 (IntKind.u8.wrap (IntKind.u64.wrap ((x : Int) / 16777216))), .int .u8 (IntKind.u8.wrap ((IntKind.u64.wrap ((x : Int) / 65536)).tmod 256)), .int .u8 (IntKind.u8.wrap ((IntKind.u64.wrap ((x : Int) / 256)).tmod 256)), .int .u8 (IntKind.u8.wrap ((x : Int).tmod 256))] 5)).drew := (hB.alloc hB.size _).drew
             generalize (wr.alloc (.cells #[.int .u8 (IntKind.u8.wrap (IntKind.u64.wrap ((x : Int) / 16777216))), .int .u8 (IntKind.u8.wrap ((IntKind.u64.wrap ((x : Int) / 65536)).tmod 256)), .int .u8 (IntKind.u8.wrap ((IntKind.u64.wrap ((x : Int) / 256)).tmod 256)), .int .u8 (IntKind.u8.wrap ((x : Int).tmod 256))] 5)).drew = w9 at *
             go_wp2
             go_roundw
             case rel =>
              refine ⟨k + 1, by omega, by go_num, ?_, hh2, hB2⟩
              rw [HF.out, strN_append, HPRE.out, HS4.out]
             case measure => simp [intOf]; omega
           · obtain rfl : k = 8 := by omega
             rw [List.take_of_length_le (by rw [H8.out]; omega), ← HD.out]
             clear hlt
             go_wp2
             go_ret
             exact ⟨rfl, hB⟩
end Go.Proofs.YtakgolbgeeoioaaGreat
namespace Go.Proofs.YtakgolbgeeoioaaGreat
open Go.RowKit

/-- the digest of a string -/
def hB (b : ByteArray) : ByteArray := SHA (nums b)
theorem hB_size (b : ByteArray) : (hB b).size = 32 := SHA_size _
theorem hsum_any (b : ByteArray) (hn : b.size ≤ 1099511627776) (w : World) :
 Calls Tryz.prog 73 #[.agg tabV, .string b] w fun e w' => e = .returned (.string (hB b)) ∧ Below w.heap.size w w' := sum_any b (by omega) w
end Go.Proofs.YtakgolbgeeoioaaGreat
namespace Go.Proofs.YtakgolbgeeoioaaGreat
open Go.RowKit

def mren : Go.Shelf.Ren := ⟨fun | 125 => 98 | 128 => 112 | 129 => 113 | n => n, fun | 3 => 3 | 4 => 4 | 5 => 5 | 9 => 9 | 46 => 102 | 51 => 25 | 53 => 67 | n => n, fun | n => n⟩
theorem mlays : Go.Proofs.Lays.n125 Tryz.prog mren := {
 mixed := by kernel_rfl
 f125 := Tryz.func98.trans (congrArg some (by kernel_rfl))
 f128 := Tryz.func112.trans (congrArg some (by kernel_rfl))
 f129 := Tryz.func113.trans (congrArg some (by kernel_rfl))
 t3 := Tryz.underlying3, a3 := Tryz.isAgg3, z3 := Tryz.sizeOf3, v3 := Tryz.zeroValue3
 t4 := Tryz.underlying4, a4 := Tryz.isAgg4, z4 := Tryz.sizeOf4, v4 := Tryz.zeroValue4
 t5 := Tryz.underlying5, a5 := Tryz.isAgg5, z5 := Tryz.sizeOf5, v5 := Tryz.zeroValue5
 t9 := Tryz.underlying9, a9 := Tryz.isAgg9, z9 := Tryz.sizeOf9, v9 := Tryz.zeroValue9
 t46 := Tryz.underlying102, a46 := Tryz.isAgg102, z46 := Tryz.sizeOf102, v46 := Tryz.zeroValue102
 t51 := Tryz.underlying25, a51 := Tryz.isAgg25, z51 := Tryz.sizeOf25, v51 := Tryz.zeroValue25
 t53 := Tryz.underlying67, a53 := Tryz.isAgg67, z53 := Tryz.sizeOf67, v53 := Tryz.zeroValue67 }
theorem len_small (x : Nat) (hx : x ≤ 255) (w : World) : Calls Tryz.prog 98 #[.int .u64 x] w fun e w' => e = .returned (.int .i64 (Lib.bitLen x : Nat)) ∧ w' = w := by
 have h := Any.bits_Len mlays (x : Int) w (by omega) (by omega)
 rw [Int.toNat_natCast] at h
 exact h

/-- the greatest power of two below n, from 2 on -/
def kM (n : Nat) : Nat := 2 ^ Nat.log2 (n - 1)
theorem kM_len : ∀ x : Fin 256, 1 ≤ x.val → 1 ≤ Lib.bitLen x.val ∧ Lib.bitLen x.val ≤ 8 ∧ 2 ^ (Lib.bitLen x.val - 1) = kM (x.val + 1) := by decide +kernel
set_option maxRecDepth 100000 in
theorem parting_any (n : Nat) (h2 : 2 ≤ n) (hn : n ≤ 256) (w : World) : Calls Tryz.prog 74 #[.int .i64 n] w fun e w' => e = .returned (.int .i64 (kM n : Nat)) ∧ w' = w := by
 obtain ⟨k1, k2, k3⟩ := kM_len ⟨n - 1, by omega⟩ (by show 1 ≤ n - 1; omega)
 have HL := Lib.hid (fun W => len_small (n - 1) (by omega) W)
 have e1 : n - 1 + 1 = n := by omega
 simp only [e1] at k1 k2 k3
 have e2 : ((n - 1 : Nat) : Int) = (n : Int) - 1 := by omega
 rw [e2] at HL
 have HK := Lib.hid k3
 generalize Lib.bitLen (n - 1) = b at *
 clear k3 e2 e1
 go_enter Tryz.func74, Tryz.ntmps74
 go_wp2_with (go_at_call 98; refine (HL.out _).mono ?_; rintro e w' ⟨rfl, rfl⟩)
 go_ret
 refine ⟨?_, rfl⟩
 rw [← HK.out]
 have hb : 2 ^ (b - 1) ≤ 2 ^ 7 := Nat.pow_le_pow_right (by decide) (by omega)
 have e : wrap64 ((2 : Int) ^ (b - 1)) = ((2 ^ (b - 1) : Nat) : Int) := by
  have h3 : ((2 ^ (b - 1) : Nat) : Int) = (2 : Int) ^ (b - 1) := by simp
  rw [← h3]
  generalize 2 ^ (b - 1) = p at *
  unfold wrap64
  omega
 show Ending.returned (Value.int IntKind.i64 (wrap64 ((2 : Int) ^ (b - 1)))) = _
 rw [e]
end Go.Proofs.YtakgolbgeeoioaaGreat

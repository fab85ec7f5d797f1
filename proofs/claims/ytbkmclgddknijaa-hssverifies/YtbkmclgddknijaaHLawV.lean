/-
  The walk of the law HssVerifies.
-/
import Derived.Test.YtbkmclgddknijaaHLawS
import Derived.Test.YtbkmclgddknijaaBent
import Derived.StillTailTactics
namespace Go.Proofs.Ytbkmclgddknijaa
open Go.RowKit

theorem held_form (p m s : ByteArray) : ∃ (n : Nat) (b : Bool), heldV p m s = .returned (.tuple #[.int .i64 n, .bool b]) := ⟨_, _, rfl⟩
set_option maxRecDepth 100000 in
set_option maxHeartbeats 4000000 in
theorem law_hverifies (seed : ByteArray) (_ : seed.size ≤ 9223372036854775807) (m0 m1 : ByteArray) (_ : m0.size ≤ 9223372036854775807 ∧ m1.size ≤ 9223372036854775807) (x0 x1 x2 : Int) (hx : (0 ≤ x0 ∧ x0 ≤ 65535) ∧ (0 ≤ x1 ∧ x1 ≤ 65535) ∧ (0 ≤ x2 ∧ x2 ≤ 65535)) (w : World) :
    Calls Try.prog 4 #[.string seed, .agg #[.string m0, .string m1], .agg #[.int .u16 x0, .int .u16 x1, .int .u16 x2]] w fun e w' => e = .returned (.bool true) ∧ Below w.heap.size w w' := by
  obtain ⟨n0, rfl⟩ : ∃ n : Nat, x0 = n := ⟨x0.toNat, by omega⟩
  obtain ⟨n1, rfl⟩ : ∃ n : Nat, x1 = n := ⟨x1.toNat, by omega⟩
  obtain ⟨n2, rfl⟩ : ∃ n : Nat, x2 = n := ⟨x2.toNat, by omega⟩
  have hn0 : n0 ≤ 65535 := by omega
  have hn1 : n1 ≤ 65535 := by omega
  have hn2 : n2 ≤ 65535 := by omega
  have hB0 := ((Below.refl _ w).alloc (Nat.le_refl _) (.cells #[.string m0, .string m1] 38)).alloc (by simp) (.cells #[.int .u16 n0, .int .u16 n1, .int .u16 n2] 40)
  have hM : Blk ((w.alloc (.cells #[.string m0, .string m1] 38)).alloc (.cells #[.int .u16 n0, .int .u16 n1, .int .u16 n2] 40)) w.heap.size 38 #[.string m0, .string m1] := (Blk.new _ _ _).alloc _
  have hX : Blk ((w.alloc (.cells #[.string m0, .string m1] 38)).alloc (.cells #[.int .u16 n0, .int .u16 n1, .int .u16 n2] 40)) (w.heap.size + 1) 40 #[.int .u16 n0, .int .u16 n1, .int .u16 n2] := Blk.new_at (by simp)
  have hSZ : ((w.alloc (.cells #[.string m0, .string m1] 38)).alloc (.cells #[.int .u16 n0, .int .u16 n1, .int .u16 n2] 40)).heap.size = w.heap.size + 1 + 1 := by simp
  have HSZ0 := Lib.hid hSZ
  clear hSZ hx
  go_enter Try.func4, Try.ntmps4
  go_wp2_with fail
  generalize (w.alloc (.cells #[.string m0, .string m1] 38)).alloc (.cells #[.int .u16 n0, .int .u16 n1, .int .u16 n2] 40) = w0 at *
  obtain ⟨B, hBB⟩ : ∃ B, w.heap.size = B := ⟨_, rfl⟩
  rw [hBB] at hB0 hM hX ⊢
  have HBB := Lib.hid hBB
  clear hBB HSZ0
  refine (awake10_any _).mono ?_
  rintro e w1 ⟨rfl, hb1⟩
  have hM1 := hM.below hb1 hM.lt
  have hX1 := hX.below hb1 hX.lt
  have hB1 := hB0.trans (hb1.mono (Nat.le_of_lt hM.lt))
  have hBs : B ≤ w1.heap.size := Nat.le_of_lt hM1.lt
  have c0 : w1.cell? ⟨B, 0, none⟩ = some (.string m0) := hM1.cell 0
  have c1 : w1.cell? ⟨B, 1, none⟩ = some (.string m1) := hM1.cell 1
  clear hM hX hB0 hb1
  by_cases hls : seed.size ≤ 20
  · have hls' : ¬ (20 : Int) < (seed.size : Int) := by omega
    by_cases hl0 : m0.size ≤ 20
    · have hl0' : ¬ (20 : Int) < (m0.size : Int) := by omega
      by_cases hl1 : m1.size ≤ 20
      · have hl1' : ¬ (20 : Int) < (m1.size : Int) := by omega
        have z1 := zeroTable
        have HPB := Lib.hid (fun W => hsspublic_any seed (by omega) W)
        obtain ⟨n, hn⟩ : ∃ n, n0 % 64 = n := ⟨_, rfl⟩
        have e0 : (n0 : Int) % 64 = (n : Int) := by omega
        have HSG := Lib.hid (fun W => hsssign_any seed m0 (by omega) (by omega) n (by omega) W)
        have HSZ := Lib.hid (twoB_size seed (n / 8) (n % 8) m0)
        have HM1 : Hid (m1.size ≤ 1073741824) := Lib.hid (by omega)
        have e4 : IntKind.i64.wrap (n : Int) = (n : Int) := by rw [IntKind.wrap_i64]; omega
        generalize twoB seed (n / 8) (n % 8) m0 = SB at *
        generalize nodeB seed 3 0 = PB at *
        clear hn
        go_wp2_with fail
        refine (make_std _).mono ?_
        rintro e w3 ⟨rfl, hb3⟩
        have hX3 := hX1.below hb3 hX1.lt
        have hM3 := hM1.below hb3 hM1.lt
        have hB3 := hB1.trans (hb3.mono hBs)
        have c0 : (w3.alloc (.cells tabV 27)).cell? ⟨B, 0, none⟩ = some (.string m0) := (hM3.alloc (.cells tabV 27)).cell 0
        have x0 : (w3.alloc (.cells tabV 27)).cell? ⟨B + 1, 0, none⟩ = some (.int .u16 n0) := (hX3.alloc (.cells tabV 27)).cell 0
        clear hX1 hM1 hB1 hb3 hBs c1
        go_wp2_with (first
          | (refine wpList_store_row rfl 27 _ _ rfl w3.heap.size tabV rfl rfl 27 zero72 (Blk.new _ _ _) (by rw [tabV_size]; exact infoTable) (by kernel_rfl) (by kernel_rfl) ?_; rw [World.setRow_alloc_new])
          | (refine wpList_load_row rfl 27 _ rfl w3.heap.size rfl 27 tabV (0, 0) _ (Blk.new _ _ _) Try.underlying27 rfl (by rw [tabV_size]; exact infoTable) ?_))
        have hB4 := hB3.alloc (by have := hX3.lt; omega) (.cells tabV 27)
        have hT4 : Blk (w3.alloc (.cells tabV 27)) w3.heap.size 27 tabV := Blk.new _ _ _
        have hX4 := hX3.alloc (.cells tabV 27)
        have hM4 := hM3.alloc (.cells tabV 27)
        generalize w3.alloc (.cells tabV 27) = w4 at *
        generalize w3.heap.size = gt at *
        clear hB3 hX3 hM3 z1 c0 x0
        refine (HSG.out _).mono ?_
        rintro e w6 ⟨rfl, hb6⟩
        have hX6 := hX4.below hb6 hX4.lt
        have hM6 := hM4.below hb6 hM4.lt
        have hT6 := hT4.below hb6 hT4.lt
        have hB6 := hB4.trans (hb6.mono (by have := hX4.lt; omega))
        clear hX4 hM4 hT4 hB4 hb6 HSG
        obtain ⟨w7, cap, hrun, hcap, hcells, hgl, hb7⟩ := run_bytes_row (P := Try.prog) w6 9 41 5 SB Try.underlying9 Try.underlying41 Try.underlying5
        have hX7 := hX6.below hb7 hX6.lt
        have hM7 := hM6.below hb7 hM6.lt
        have hT7 := hT6.below hb7 hT6.lt
        have hB7 := hB6.trans (hb7.mono (by have := hX6.lt; omega))
        have hgX : B + 1 < w6.heap.size := hX6.lt
        have hgT : gt < w6.heap.size := hT6.lt
        generalize w6.heap.size = gb at *
        have HCL := Lib.hid hcells
        have hnz : ((SB.size : Int) == 0) = false := by rw [HSZ.out]; rfl
        clear hX6 hM6 hT6 hB6 hb7 hcells
        go_wp2
        clear hrun
        obtain ⟨i, hi⟩ : ∃ i, n1 % 4520 = i := ⟨_, rfl⟩
        have hil : i < SB.size := by rw [HSZ.out]; omega
        have e1 : (n1 : Int).tmod 4520 = (i : Int) := by rw [Int.tmod_eq_emod_of_nonneg (by omega)]; omega
        have e3 : IntKind.i64.wrap (n1 : Int) = (n1 : Int) := by rw [IntKind.wrap_i64]; omega
        have hil' : (i : Int) < 4520 := by omega
        have hi0 : (0 : Int) ≤ (i : Int) := by omega
        rw [HSZ.out]
        obtain ⟨hci, hfi⟩ := HCL.out i hil
        have ha := nums_getD_lt SB i
        obtain ⟨y, hy, hyl⟩ := xor_byte ((nums SB).getD i 0) ha (n2 % 256) (by omega)
        have e2 : IntKind.u8.wrap (n2 : Int) = ((n2 % 256 : Nat) : Int) := by rw [IntKind.wrap_u8']; omega
        unfold U8 at hci
        have l1 : w7.cell? ⟨B + 1, 1, none⟩ = some (.int .u16 n1) := hX7.cell 1
        have l2 : w7.cell? ⟨B + 1, 2, none⟩ = some (.int .u16 n2) := hX7.cell 2
        generalize (nums SB).getD i 0 = a at *
        generalize n2 % 256 = z at *
        go_still_tail 14, (by kernel_rfl)
        change wpList _ _ _ _ _ w7.drew
        have hX8 : Blk w7.drew (B + 1) 40 #[.int .u16 n0, .int .u16 n1, .int .u16 n2] := hX7
        have hM8 : Blk w7.drew B 38 #[.string m0, .string m1] := hM7
        have hT8 : Blk w7.drew gt 27 tabV := hT7
        have hB8 := hB7.drew
        have HC8 : Hid (∀ j, j < SB.size → w7.drew.cell? ⟨gb, j, none⟩ = some (U8 ((nums SB).getD j 0))) := Lib.hid (fun j hj => (HCL.out j hj).1)
        have c8 : w7.drew.cell? ⟨gb, i, none⟩ = some (.int .u8 a) := hci
        have f8 : w7.drew.frozen? ⟨gb, i, none⟩ = false := hfi
        generalize w7.drew = w8 at *
        have hX9 := hX8.far (p := ⟨gb, i, none⟩) (by show B + 1 ≠ gb; omega) (.int .u8 y)
        have hM9 := hM8.far (p := ⟨gb, i, none⟩) (by show B ≠ gb; omega) (.int .u8 y)
        have hT9 := hT8.far (p := ⟨gb, i, none⟩) (by show gt ≠ gb; omega) (.int .u8 y)
        have hB9 := hB8.setCell (p := ⟨gb, i, none⟩) (by show B ≤ gb; omega) (.int .u8 y)
        have hcv := conv_bent w8 gb cap i y SB hil HC8.out _ rfl
        rw [HSZ.out] at hcv
        have HS0 := Lib.hid ((bentB_size SB i y).trans HSZ.out)
        generalize bentB SB i y = S0 at *
        have c2 : (w8.setCell ⟨gb, i, none⟩ (.int .u8 y)).cell? ⟨B + 1, 2, none⟩ = some (.int .u16 n2) := hX9.cell 2
        clear hX7 hM7 hT7 hB7 hX8 hM8 hT8 hB8 HCL HC8 hci hfi l1 l2 e1 e2 e3 hy ha hil hil' hi0 e0 hi
        by_cases hc : 60000 < n2
        · have hc' : (60000 : Int) < (n2 : Int) := by omega
          have h43 : (1 : Int) ≤ (S0.size : Int) := by rw [HS0.out]; decide
          clear hc
          have HVF := Lib.hid (fun W => hssverify_any PB m1 (S0.extract 1 S0.size) HM1.out W)
          have HRF := Lib.hid (fun W => rheld_any PB m1 (S0.extract 1 S0.size) HM1.out W)
          obtain ⟨j, b, hjb⟩ := held_form PB m1 (S0.extract 1 S0.size)
          rw [hjb] at HVF HRF
          clear hjb
          have hjj : ((j : Int) == (j : Int)) = true := beq_self_eq_true _
          have hbb : (b == b) = true := beq_self_eq_true _
          go_wp2_with (refine wpList_load_row rfl 27 _ rfl gt rfl 27 tabV (0, 0) _ hT9 Try.underlying27 rfl (by rw [tabV_size]; exact infoTable) ?_)
          refine (HPB.out _).mono ?_
          rintro e w10 ⟨rfl, hb10⟩
          have hM10 := hM9.below hb10 hM9.lt
          have hT10 := hT9.below hb10 hT9.lt
          have hB10 := hB9.trans (hb10.mono (Nat.le_of_lt hM9.lt))
          have d1 : w10.cell? ⟨B, 1, none⟩ = some (.string m1) := hM10.cell 1
          clear hM9 hT9 hB9 hb10 hX9 c2 c8 f8 hcv HPB
          go_wp2_with (refine wpList_load_row rfl 27 _ rfl gt rfl 27 tabV (0, 0) _ hT10 Try.underlying27 rfl (by rw [tabV_size]; exact infoTable) ?_)
          refine (HVF.out _).mono ?_
          rintro e w11 ⟨rfl, hb11⟩
          have hM11 := hM10.below hb11 hM10.lt
          have hB11 := hB10.trans (hb11.mono (Nat.le_of_lt hM10.lt))
          have d2 : w11.cell? ⟨B, 1, none⟩ = some (.string m1) := hM11.cell 1
          clear hM10 hT10 hB10 hb11 d1 HVF
          go_wp2_with fail
          refine (HRF.out _).mono ?_
          rintro e w12 ⟨rfl, hb12⟩
          have hB12 := hB11.trans (hb12.mono (Nat.le_of_lt hM11.lt))
          rw [← HBB.out] at hB12
          clear hM11 hB11 hb12 d2 HRF
          go_wp2
          go_ret
          exact ⟨rfl, hB12⟩
        · have hc' : ¬ (60000 : Int) < (n2 : Int) := by omega
          clear hc
          have HVF := Lib.hid (fun W => hssverify_any PB m1 S0 HM1.out W)
          have HRF := Lib.hid (fun W => rheld_any PB m1 S0 HM1.out W)
          obtain ⟨j, b, hjb⟩ := held_form PB m1 S0
          rw [hjb] at HVF HRF
          clear hjb
          have hjj : ((j : Int) == (j : Int)) = true := beq_self_eq_true _
          have hbb : (b == b) = true := beq_self_eq_true _
          go_wp2_with (refine wpList_load_row rfl 27 _ rfl gt rfl 27 tabV (0, 0) _ hT9 Try.underlying27 rfl (by rw [tabV_size]; exact infoTable) ?_)
          refine (HPB.out _).mono ?_
          rintro e w10 ⟨rfl, hb10⟩
          have hM10 := hM9.below hb10 hM9.lt
          have hT10 := hT9.below hb10 hT9.lt
          have hB10 := hB9.trans (hb10.mono (Nat.le_of_lt hM9.lt))
          have d1 : w10.cell? ⟨B, 1, none⟩ = some (.string m1) := hM10.cell 1
          clear hM9 hT9 hB9 hb10 hX9 c2 c8 f8 hcv HPB
          go_wp2_with (refine wpList_load_row rfl 27 _ rfl gt rfl 27 tabV (0, 0) _ hT10 Try.underlying27 rfl (by rw [tabV_size]; exact infoTable) ?_)
          refine (HVF.out _).mono ?_
          rintro e w11 ⟨rfl, hb11⟩
          have hM11 := hM10.below hb11 hM10.lt
          have hB11 := hB10.trans (hb11.mono (Nat.le_of_lt hM10.lt))
          have d2 : w11.cell? ⟨B, 1, none⟩ = some (.string m1) := hM11.cell 1
          clear hM10 hT10 hB10 hb11 d1 HVF
          go_wp2_with fail
          refine (HRF.out _).mono ?_
          rintro e w12 ⟨rfl, hb12⟩
          have hB12 := hB11.trans (hb12.mono (Nat.le_of_lt hM11.lt))
          rw [← HBB.out] at hB12
          clear hM11 hB11 hb12 d2 HRF
          go_wp2
          go_ret
          exact ⟨rfl, hB12⟩
      · have hl1' : (20 : Int) < (m1.size : Int) := by omega
        go_wp2_with fail
        refine (awake10_any _).mono ?_
        rintro e w2 ⟨rfl, hb2⟩
        have hB2 := hB1.trans (hb2.mono hBs)
        rw [← HBB.out] at hB2
        clear c0 c1
        go_wp2
        go_ret
        exact ⟨rfl, hB2⟩
    · have hl0' : (20 : Int) < (m0.size : Int) := by omega
      go_wp2_with fail
      refine (awake10_any _).mono ?_
      rintro e w2 ⟨rfl, hb2⟩
      have hB2 := hB1.trans (hb2.mono hBs)
      rw [← HBB.out] at hB2
      clear c0 c1
      go_wp2
      go_ret
      exact ⟨rfl, hB2⟩
  · have hls' : (20 : Int) < (seed.size : Int) := by omega
    go_wp2_with fail
    refine (awake10_any _).mono ?_
    rintro e w2 ⟨rfl, hb2⟩
    have hB2 := hB1.trans (hb2.mono hBs)
    rw [← HBB.out] at hB2
    clear c0 c1
    go_wp2
    go_ret
    exact ⟨rfl, hB2⟩
end Go.Proofs.Ytbkmclgddknijaa

/-
  The walk of the law OtsKeys.
-/
import Derived.Test.YtdbfkkopolhpaaaOLawS
namespace Go.Proofs.Ytdbfkkopolhpaaa
open Go.RowKit

def pick2 {α : Type} (a b : α) (k : Nat) : α := if k = 0 then a else b
theorem byte_load {w : World} {p : Addr} {x : Int} (h : w.cell? p = some (.int .u8 x)) : (loadVar 5 p).run Try.prog w = .ok (.int .u8 x) w := by
  go_simp
theorem cell2 {w : World} {g : Nat} {t : TypeId} {a b : Value} (h : Blk w g t #[a, b]) {k : Nat} (hk : k < 2) : w.cell? ⟨g, k, none⟩ = some (pick2 a b k) := by
  rw [h.cell]
  match k, hk with
  | 0, _ => rfl
  | 1, _ => rfl
theorem pick2_u8 (x0 x1 : Int) (hx : (0 ≤ x0 ∧ x0 ≤ 255) ∧ (0 ≤ x1 ∧ x1 ≤ 255)) (k : Nat) : pick2 (Value.int .u8 x0) (.int .u8 x1) k = .int .u8 ((pick2 x0 x1 k).toNat : Int) := by
  unfold pick2
  split
  · rw [Int.toNat_of_nonneg hx.1.1]
  · rw [Int.toNat_of_nonneg hx.2.1]
theorem pick2_txt (a b : ByteArray) (k : Nat) : pick2 (Value.string a) (.string b) k = .string (pick2 a b k) := by unfold pick2; split <;> rfl
section
attribute [-go_sem] loadVar
set_option maxRecDepth 100000 in
set_option maxHeartbeats 4000000 in
theorem law_keys (seed : ByteArray) (hs : seed.size ≤ 9223372036854775807) (m0 m1 : ByteArray) (hm : m0.size ≤ 9223372036854775807 ∧ m1.size ≤ 9223372036854775807) (x0 x1 : Int) (hx : (0 ≤ x0 ∧ x0 ≤ 255) ∧ (0 ≤ x1 ∧ x1 ≤ 255)) (w : World) :
    Calls Try.prog 3 #[.string seed, .agg #[.string m0, .string m1], .agg #[.int .u8 x0, .int .u8 x1]] w fun e w' => e = .returned (.bool true) ∧ Below w.heap.size w w' := by
  obtain ⟨hm0, hm1⟩ := hm
  have hB0 := ((Below.refl _ w).alloc (Nat.le_refl _) (.cells #[.string m0, .string m1] 22)).alloc (by simp) (.cells #[.int .u8 x0, .int .u8 x1] 23)
  have hM : Blk ((w.alloc (.cells #[.string m0, .string m1] 22)).alloc (.cells #[.int .u8 x0, .int .u8 x1] 23)) w.heap.size 22 #[.string m0, .string m1] := (Blk.new _ _ _).alloc _
  have hX : Blk ((w.alloc (.cells #[.string m0, .string m1] 22)).alloc (.cells #[.int .u8 x0, .int .u8 x1] 23)) (w.heap.size + 1) 23 #[.int .u8 x0, .int .u8 x1] := Blk.new_at (by simp)
  by_cases hls : seed.size ≤ 30
  · have hls' : ¬ (30 : Int) < (seed.size : Int) := by omega
    have hSZ := Lib.hid (show ((w.alloc (.cells #[.string m0, .string m1] 22)).alloc (.cells #[.int .u8 x0, .int .u8 x1] 23)).heap.size = w.heap.size + 1 + 1 by simp)
    by_cases hl0 : m0.size ≤ 30
    · have hl0' : ¬ (30 : Int) < (m0.size : Int) := by omega
      by_cases hl1 : m1.size ≤ 30
      · have hl1' : ¬ (30 : Int) < (m1.size : Int) := by omega
        have z1 := zeroTable
        have HPB := Lib.hid (fun W => public_any seed (by omega) W)
        have HPZ := Lib.hid (nodeB_size seed 3 0)
        obtain ⟨PB, hPB⟩ : ∃ PB, nodeB seed 3 0 = PB := ⟨_, rfl⟩
        rw [hPB] at HPB HPZ
        have HPE := Lib.hid hPB
        clear hPB
        go_enter Try.func3, Try.ntmps3
        go_wp2_with fail
        generalize (w.alloc (.cells #[.string m0, .string m1] 22)).alloc (.cells #[.int .u8 x0, .int .u8 x1] 23) = w0 at *
        obtain ⟨B, hBB⟩ : ∃ B, w.heap.size = B := ⟨_, rfl⟩
        rw [hBB] at hB0 hM hX ⊢
        have HBB := Lib.hid hBB
        clear hBB hSZ
        refine (awake3_any _).mono ?_
        rintro e w1 ⟨rfl, hb1⟩
        have hM1 := hM.below hb1 hM.lt
        have hX1 := hX.below hb1 hX.lt
        have hB1 := hB0.trans (hb1.mono (Nat.le_of_lt hM.lt))
        have c0 := txt_load (cell2 hM1 (show 0 < 2 by decide))
        have c1 := txt_load (cell2 hM1 (show 1 < 2 by decide))
        clear hM hX hB0 hb1
        go_wp2_with fail
        refine (make_std _).mono ?_
        rintro e w2 ⟨rfl, hb2⟩
        have hM2 := hM1.below hb2 hM1.lt
        have hX2 := hX1.below hb2 hX1.lt
        have hB2 := hB1.trans (hb2.mono (Nat.le_of_lt hM1.lt))
        clear hM1 hX1 hB1 hb2 c0 c1
        have hl3 := tab_run (Blk.new w2 29 tabV)
        go_wp2_with (refine wpList_store_row rfl 29 _ _ rfl w2.heap.size tabV rfl rfl 29 zero72 (Blk.new _ _ _) (by rw [tabV_size]; exact infoTable) (by kernel_rfl) (by kernel_rfl) ?_; rw [World.setRow_alloc_new])
        have hB3 := hB2.alloc (Nat.le_of_lt hM2.lt) (.cells tabV 29)
        have hT3 : Blk (w2.alloc (.cells tabV 29)) w2.heap.size 29 tabV := Blk.new _ _ _
        have hM3 := hM2.alloc (.cells tabV 29)
        have hX3 := hX2.alloc (.cells tabV 29)
        generalize w2.alloc (.cells tabV 29) = w3 at *
        generalize w2.heap.size = gt at *
        clear hB2 hM2 hX2 z1
        refine (HPB.out _).mono ?_
        rintro e w4 ⟨rfl, hb4⟩
        have hM4 := hM3.below hb4 hM3.lt
        have hX4 := hX3.below hb4 hX3.lt
        have hT4 := hT3.below hb4 hT3.lt
        have hB4 := hB3.trans (hb4.mono (Nat.le_of_lt hM3.lt))
        clear hM3 hX3 hT3 hB3 hb4 hl3 HPB
        go_wp2
        go_loopw [9] (fun i wr => ∃ k : Nat, k ≤ 2 ∧ i = .int .i64 k ∧ Blk wr B 22 #[.string m0, .string m1] ∧ Blk wr (B + 1) 23 #[.int .u8 x0, .int .u8 x1] ∧ Blk wr gt 29 tabV ∧ Below B w wr) (fun i _ => 2 - (intOf i).toNat)
        case atStart => exact ⟨0, by omega, rfl, hM4, hX4, hT4, hB4⟩
        case round =>
          clear hM4 hX4 hT4 hB4
          obtain ⟨k, hk, rfl, hM, hX, hT, hB⟩ := hrel
          by_cases hlt : k < 2
          · have hlt' : (k : Int) < 2 := by omega
            have hlt0 : (0 : Int) ≤ (k : Int) := by omega
            have cX := cell2 hX hlt
            rw [pick2_u8 x0 x1 hx k] at cX
            have lX := byte_load cX
            have hn : (pick2 x0 x1 k).toNat < 256 := by unfold pick2; split <;> omega
            generalize (pick2 x0 x1 k).toNat = n at *
            have cM := cell2 hM hlt
            rw [pick2_txt] at cM
            have hmz : (pick2 m0 m1 k).size ≤ 30 := by unfold pick2; split <;> omega
            generalize pick2 m0 m1 k = m at *
            obtain ⟨q, hq⟩ : ∃ q, n % 8 = q := ⟨_, rfl⟩
            have hq8 : q < 8 := by omega
            have e1 : (n : Int) % 8 = (q : Int) := by omega
            have HSG := Lib.hid (fun W => sign_any seed m (by omega) (by omega) q hq8 W)
            have HVF := Lib.hid (fun W => verify_any (nodeB seed 3 0) m (signB seed q m) (by omega) W)
            rw [signed_yes seed q m hq8, HPE.out] at HVF
            have hsz : ((signB seed q m).size : Int) = 2244 := by rw [signB_size]; rfl
            generalize signB seed q m = SB at *
            have hne : ((SB.size : Int) != 2244) = false := by rw [bne_eq_false_iff_eq]; exact hsz
            have hqq : ((q : Int) != (q : Int)) = false := by rw [bne_eq_false_iff_eq]
            have HKP : Hid (∀ W, Below wr.heap.size wr W → ((loadVar 29 ⟨gt, 0, none⟩).run Try.prog W = .ok (.agg tabV) W ∧ (loadVar 9 ⟨B, k, none⟩).run Try.prog W = .ok (.string m) W) ∧ Below wr.heap.size wr W) :=
              Lib.hid fun W hW => ⟨⟨tab_run (hT.below hW hT.lt), txt_load ((hW.cell (p := ⟨B, k, none⟩) hM.lt).trans cM)⟩, hW⟩
            have HM := Lib.hid hM; have HX := Lib.hid hX; have HT := Lib.hid hT
            clear hM hX hT cX cM hsz hq
            go_wp2
            go_region_held3 (fun w' => ((loadVar 29 ⟨gt, 0, none⟩).run Try.prog w' = .ok (.agg tabV) w' ∧ (loadVar 9 ⟨B, k, none⟩).run Try.prog w' = .ok (.string m) w') ∧ Below wr.heap.size wr w')
              ((refine HKP.out _ ?_; first | exact hb1 | exact (Below.refl _ _).drew | exact Below.refl _ _))
              (first
                | (go_at_call 10; refine (HSG.out _).mono ?_; rintro e w1 ⟨rfl, hb0⟩; have hb1 : Below wr.heap.size wr w1 := (Below.refl _ _).drew.trans hb0))
            have hM5 := HM.out.below hb1 HM.out.lt
            have hX5 := HX.out.below hb1 HX.out.lt
            have hT5 := HT.out.below hb1 HT.out.lt
            have hB5 := hB.trans (hb1.mono (Nat.le_of_lt HM.out.lt))
            rename_i hHeld
            have HM5 := Lib.hid hM5; have HX5 := Lib.hid hX5; have HT5 := Lib.hid hT5
            clear hHeld hB hb0 HSG lX
            go_wp2
            have HKP2 : Hid (∀ W, Below w1.heap.size w1 W → ((loadVar 29 ⟨gt, 0, none⟩).run Try.prog W = .ok (.agg tabV) W ∧ (loadVar 9 ⟨B, k, none⟩).run Try.prog W = .ok (.string m) W) ∧ Below w1.heap.size w1 W) :=
              Lib.hid fun W hW => ⟨(HKP.out W (hb1.trans (hW.mono hb1.size))).1, hW⟩
            clear hb1 HKP HM HX HT hM5 hX5 hT5
            go_region_held3 (fun w' => ((loadVar 29 ⟨gt, 0, none⟩).run Try.prog w' = .ok (.agg tabV) w' ∧ (loadVar 9 ⟨B, k, none⟩).run Try.prog w' = .ok (.string m) w') ∧ Below w1.heap.size w1 w')
              ((refine HKP2.out _ ?_; first | exact hb3 | exact (Below.refl _ _).drew | exact Below.refl _ _))
              (first
                | (go_at_call 11; refine (HVF.out _).mono ?_; rintro e w2 ⟨rfl, hb2⟩; have hb3 : Below w1.heap.size w1 w2 := (Below.refl _ _).drew.trans hb2))
            have hM6 := HM5.out.below hb3 HM5.out.lt
            have hX6 := HX5.out.below hb3 HX5.out.lt
            have hT6 := HT5.out.below hb3 HT5.out.lt
            have hB6 := hB5.trans (hb3.mono (Nat.le_of_lt HM5.out.lt))
            rename_i hHeld
            clear hHeld hB5 hb2 hb3 HVF HKP2 HM5 HX5 HT5
            go_wp2
            go_roundw
            case rel => exact ⟨k + 1, by omega, by go_num, hM6, hX6, hT6, hB6⟩
            case measure => simp [intOf]; omega
          · obtain rfl : k = 2 := by omega
            have hp : ((PB.size : Int) == 32) = true := by rw [HPZ.out]; rfl
            rw [← HBB.out] at hB
            clear hlt hk
            go_wp2
            go_ret
            exact ⟨rfl, hB⟩
      · have hl1' : (30 : Int) < (m1.size : Int) := by omega
        go_enter Try.func3, Try.ntmps3
        go_wp2_with fail
        generalize (w.alloc (.cells #[.string m0, .string m1] 22)).alloc (.cells #[.int .u8 x0, .int .u8 x1] 23) = w0 at *
        refine (awake3_any _).mono ?_
        rintro e w1 ⟨rfl, hb1⟩
        have hM1 := hM.below hb1 hM.lt
        have hB1 := hB0.trans (hb1.mono (Nat.le_of_lt hM.lt))
        have c0 := txt_load (cell2 hM1 (show 0 < 2 by decide))
        have c1 := txt_load (cell2 hM1 (show 1 < 2 by decide))
        clear hM hX hB0 hb1
        go_wp2_with fail
        refine (awake3_any _).mono ?_
        rintro e w2 ⟨rfl, hb2⟩
        have hB2 := hB1.trans (hb2.mono (Nat.le_of_lt hM1.lt))
        go_wp2
        go_ret
        exact ⟨rfl, hB2⟩
    · have hl0' : (30 : Int) < (m0.size : Int) := by omega
      go_enter Try.func3, Try.ntmps3
      go_wp2_with fail
      generalize (w.alloc (.cells #[.string m0, .string m1] 22)).alloc (.cells #[.int .u8 x0, .int .u8 x1] 23) = w0 at *
      refine (awake3_any _).mono ?_
      rintro e w1 ⟨rfl, hb1⟩
      have hM1 := hM.below hb1 hM.lt
      have hB1 := hB0.trans (hb1.mono (Nat.le_of_lt hM.lt))
      have c0 := txt_load (cell2 hM1 (show 0 < 2 by decide))
      have c1 := txt_load (cell2 hM1 (show 1 < 2 by decide))
      clear hM hX hB0 hb1
      go_wp2_with fail
      refine (awake3_any _).mono ?_
      rintro e w2 ⟨rfl, hb2⟩
      have hB2 := hB1.trans (hb2.mono (Nat.le_of_lt hM1.lt))
      go_wp2
      go_ret
      exact ⟨rfl, hB2⟩
  · have hls' : (30 : Int) < (seed.size : Int) := by omega
    go_enter Try.func3, Try.ntmps3
    go_wp2_with fail
    generalize (w.alloc (.cells #[.string m0, .string m1] 22)).alloc (.cells #[.int .u8 x0, .int .u8 x1] 23) = w0 at *
    refine (awake3_any _).mono ?_
    rintro e w1 ⟨rfl, hb1⟩
    have hM1 := hM.below hb1 hM.lt
    have hB1 := hB0.trans (hb1.mono (Nat.le_of_lt hM.lt))
    have c0 := txt_load (cell2 hM1 (show 0 < 2 by decide))
    have c1 := txt_load (cell2 hM1 (show 1 < 2 by decide))
    clear hM hX hB0 hb1
    go_wp2_with fail
    refine (awake3_any _).mono ?_
    rintro e w2 ⟨rfl, hb2⟩
    have hB2 := hB1.trans (hb2.mono (Nat.le_of_lt hM1.lt))
    go_wp2
    go_ret
    exact ⟨rfl, hB2⟩
end
end Go.Proofs.Ytdbfkkopolhpaaa

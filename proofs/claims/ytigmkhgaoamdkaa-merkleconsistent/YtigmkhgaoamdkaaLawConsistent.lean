/-
  The walk of the law MerkleConsistent.
-/
import Derived.Test.YtigmkhgaoamdkaaLawIncluded
import Derived.Test.YtigmkhgaoamdkaaMRefB
namespace Go.Proofs.Ytigmkhgaoamdkaa
open Go.RowKit

set_option maxRecDepth 100000 in
set_option maxHeartbeats 8000000 in
theorem law_consistent (i n : Int) (_hin : (-9223372036854775808 ≤ i ∧ i ≤ 9223372036854775807) ∧ (-9223372036854775808 ≤ n ∧ n ≤ 9223372036854775807)) (first second : ByteArray) (hlr : first.size ≤ 9223372036854775807 ∧ second.size ≤ 9223372036854775807)
    (oa : Option Addr) (m cap : Nat) (ss : List ByteArray) (hm : ss.length = m) (hm2 : m ≤ 9223372036854775807) (hsz : ∀ s ∈ ss, s.size ≤ 9223372036854775807) (hcap : m ≤ cap) (w : World) (hc : Strs w oa ss) :
    Calls Try.prog 7 #[.agg #[.int .i64 i, .int .i64 n], .agg #[.string first, .string second], .slice oa m cap] w fun e w' => e = .returned (.bool true) ∧ Below w.heap.size w w' := by
  have hB0 := ((Below.refl _ w).alloc (Nat.le_refl _) (.cells #[.int .i64 i, .int .i64 n] 47)).alloc (by simp) (.cells #[.string first, .string second] 48)
  have hX : Blk ((w.alloc (.cells #[.int .i64 i, .int .i64 n] 47)).alloc (.cells #[.string first, .string second] 48)) w.heap.size 47 #[.int .i64 i, .int .i64 n] := (Blk.new _ _ _).alloc _
  have hY : Blk ((w.alloc (.cells #[.int .i64 i, .int .i64 n] 47)).alloc (.cells #[.string first, .string second] 48)) (w.heap.size + 1) 48 #[.string first, .string second] := Blk.new_at (by simp)
  have hc0 : Strs ((w.alloc (.cells #[.int .i64 i, .int .i64 n] 47)).alloc (.cells #[.string first, .string second] 48)) oa ss := hc.below hB0
  have HA := Lib.hid (fun W => awake4_any W)
  have HMK := Lib.hid (fun W => make_std W)
  have HF : Hid (∀ W, Strs W oa ss → Calls Try.prog 9 #[.slice oa m cap, .int .i64 70, .int .i64 40] W fun e w' => e = .returned (.bool (fewM ss 70 40)) ∧ w' = W) := Lib.hid (fun W hW => few_any oa m cap ss hm hm2 hsz 70 40 W hW)
  have HFT := Lib.hid (show fewM ss 70 40 = true → m ≤ 70 ∧ Sz ss from fun h => by rw [← hm]; exact few_sz (by decide) (by decide) h)
  have HM := Lib.hid hm
  have hl1 := hlr.1
  have hl2 := hlr.2
  clear hsz hc hlr hm
  go_enter Try.func7, Try.ntmps7
  go_wp2
  generalize (w.alloc (.cells #[.int .i64 i, .int .i64 n] 47)).alloc (.cells #[.string first, .string second] 48) = w0 at *
  obtain ⟨B, hBB⟩ : ∃ B, w.heap.size = B := ⟨_, rfl⟩
  rw [hBB] at hB0 hX hY ⊢
  obtain ⟨B1, hB1⟩ : ∃ B1, B + 1 = B1 := ⟨_, rfl⟩
  rw [hB1] at hY ⊢
  have x0 := hX.cell 0
  have x1 := hX.cell 1
  have HY0 := Lib.hid hY
  have HC := Lib.hid hc0
  have HB := Lib.hid (show Below w.heap.size w w0 by rw [hBB]; exact hB0)
  clear hY hX hc0 hB0 hB1 hBB
  go_quiet (fail)
  have hY2 : Blk (w0.drewN nq) B1 48 #[.string first, .string second] := HY0.out
  have hc2 : Strs (w0.drewN nq) oa ss := HC.out
  have hB2 := below_drewN HB.out nq
  generalize w0.drewN nq = w2 at *
  clear HY0 HC HB x0 x1
  go_wp2_with fail
  refine (HA.out _).mono ?_
  rintro e w3 ⟨rfl, hb3⟩
  have hc3 := hc2.below hb3
  have HY := Lib.hid (hY2.below hb3 hY2.lt)
  have y0 := HY.out.cell 0
  have y1 := HY.out.cell 1
  have hB3 := hB2.trans (hb3.mono hB2.size)
  clear hc2 hB2 hb3 hY2
  go_wp2_with fail
  refine (HF.out _ hc3).mono ?_
  rintro e w' ⟨rfl, hw⟩
  rw [hw]
  clear hw
  by_cases hfew : fewM ss 70 40 = true
  · obtain ⟨hm70, hz⟩ := HFT.out hfew
    rw [hfew]
    clear hfew
    by_cases hls : first.size ≤ 40
    · have hls' : ¬ (40 : Int) < (first.size : Int) := by omega
      by_cases hrs : second.size ≤ 40
      · have hrs' : ¬ (40 : Int) < (second.size : Int) := by omega
        by_cases o1 : i < 1
        · have HOUT := Lib.hid (show i < 1 ∨ n < i ∨ 64 < n from .inl o1)
          have HO := Lib.hid (fun W => consistent_out first second i n oa m cap HOUT.out W)
          go_wp2
          have HKP : Hid (∀ W, Below w3.heap.size w3 W → (W.cell? ⟨B1, 0, none⟩ = some (.string first) ∧ W.cell? ⟨B1, 1, none⟩ = some (.string second)) ∧ Below w3.heap.size w3 W) := Lib.hid fun W hW => ⟨cell2' (HY.out.below hW HY.out.lt), hW⟩
          clear y0 y1
          go_region_held3 (fun w' => (w'.cell? ⟨B1, 0, none⟩ = some (.string first) ∧ w'.cell? ⟨B1, 1, none⟩ = some (.string second)) ∧ Below w3.heap.size w3 w')
            ((refine HKP.out _ ?_; first | exact hB5' | exact hB4' | exact (Below.refl _ _).drew | exact Below.refl _ _))
            (first
              | (have := hB4'; go_at_call 13; refine (HO.out _).mono ?_; rintro e w5 ⟨rfl, hb5⟩; have hB5' : Below w3.heap.size w3 w5 := hB4'.trans (hb5.mono hB4'.size))
              | (go_at_call 10; refine (HMK.out _).mono ?_; rintro e w4 ⟨rfl, hb4⟩; have hB4' : Below w3.heap.size w3 w4 := (Below.refl _ _).drew.trans hb4))
          have hB5 := hB3.trans (hB5'.mono hB3.size)
          go_wp2
          go_ret
          exact ⟨rfl, hB5⟩
        · by_cases o2 : n < i
          · have HOUT := Lib.hid (show i < 1 ∨ n < i ∨ 64 < n by omega)
            have HO := Lib.hid (fun W => consistent_out first second i n oa m cap HOUT.out W)
            go_wp2
            have HKP : Hid (∀ W, Below w3.heap.size w3 W → (W.cell? ⟨B1, 0, none⟩ = some (.string first) ∧ W.cell? ⟨B1, 1, none⟩ = some (.string second)) ∧ Below w3.heap.size w3 W) := Lib.hid fun W hW => ⟨cell2' (HY.out.below hW HY.out.lt), hW⟩
            clear y0 y1
            go_region_held3 (fun w' => (w'.cell? ⟨B1, 0, none⟩ = some (.string first) ∧ w'.cell? ⟨B1, 1, none⟩ = some (.string second)) ∧ Below w3.heap.size w3 w')
              ((refine HKP.out _ ?_; first | exact hB5' | exact hB4' | exact (Below.refl _ _).drew | exact Below.refl _ _))
              (first
                | (have := hB4'; go_at_call 13; refine (HO.out _).mono ?_; rintro e w5 ⟨rfl, hb5⟩; have hB5' : Below w3.heap.size w3 w5 := hB4'.trans (hb5.mono hB4'.size))
                | (go_at_call 10; refine (HMK.out _).mono ?_; rintro e w4 ⟨rfl, hb4⟩; have hB4' : Below w3.heap.size w3 w4 := (Below.refl _ _).drew.trans hb4))
            have hB5 := hB3.trans (hB5'.mono hB3.size)
            go_wp2
            go_ret
            exact ⟨rfl, hB5⟩
          · by_cases o4 : 64 < n
            · have HOUT := Lib.hid (show i < 1 ∨ n < i ∨ 64 < n by omega)
              have HO := Lib.hid (fun W => consistent_out first second i n oa m cap HOUT.out W)
              go_wp2
              have HKP : Hid (∀ W, Below w3.heap.size w3 W → (W.cell? ⟨B1, 0, none⟩ = some (.string first) ∧ W.cell? ⟨B1, 1, none⟩ = some (.string second)) ∧ Below w3.heap.size w3 W) := Lib.hid fun W hW => ⟨cell2' (HY.out.below hW HY.out.lt), hW⟩
              clear y0 y1
              go_region_held3 (fun w' => (w'.cell? ⟨B1, 0, none⟩ = some (.string first) ∧ w'.cell? ⟨B1, 1, none⟩ = some (.string second)) ∧ Below w3.heap.size w3 w')
                ((refine HKP.out _ ?_; first | exact hB5' | exact hB4' | exact (Below.refl _ _).drew | exact Below.refl _ _))
                (first
                  | (have := hB4'; go_at_call 13; refine (HO.out _).mono ?_; rintro e w5 ⟨rfl, hb5⟩; have hB5' : Below w3.heap.size w3 w5 := hB4'.trans (hb5.mono hB4'.size))
                  | (go_at_call 10; refine (HMK.out _).mono ?_; rintro e w4 ⟨rfl, hb4⟩; have hB4' : Below w3.heap.size w3 w4 := (Below.refl _ _).drew.trans hb4))
              have hB5 := hB3.trans (hB5'.mono hB3.size)
              go_wp2
              go_ret
              exact ⟨rfl, hB5⟩
            · obtain ⟨j, rfl⟩ : ∃ j : Nat, i = j := ⟨i.toNat, by omega⟩
              obtain ⟨k, rfl⟩ : ∃ k : Nat, n = k := ⟨n.toNat, by omega⟩
              have HI := Lib.hid (fun r W hW => consistent_in first r j k oa m cap ss (by omega) (by omega) (by omega) (by omega) HM.out (by omega) hcap hz W hW)
              have HD := Lib.hid (fun W => length_any k j true (by omega) (by omega) (by omega) W)
              have HU := Lib.hid (fun (h : m = lenM j k true) W hW => both_any k j first true oa m cap ss (by omega) (by omega) (by omega) (by omega) HM.out h hcap hz W hW)
              have hdl := lenM_le k j true
              rw [HM.out] at HI
              generalize (botM j k first true ss).1 = R at *
              generalize (botM j k first true ss).2.1 = R2 at *
              generalize lenM j k true = d at *
              have HI1 := Lib.hid (HI.out second)
              have HI2 : Hid (m = d → R = first → ∀ W, Strs W oa ss → Calls Try.prog 13 #[.agg tabV, .int .i64 j, .int .i64 k, .string first, .string R2, .slice oa m cap] W fun e w' => e = .returned (.bool true) ∧ Below W.heap.size W w') := Lib.hid fun hd hr => by
                have h := HI.out R2
                rw [decide_eq_true (show m = d ∧ R = first ∧ R2 = R2 from ⟨hd, hr, rfl⟩)] at h
                exact h
              have HI3 : Hid (R ≠ first → ∀ W, Strs W oa ss → Calls Try.prog 13 #[.agg tabV, .int .i64 j, .int .i64 k, .string first, .string R2, .slice oa m cap] W fun e w' => e = .returned (.bool false) ∧ Below W.heap.size W w') := Lib.hid fun hr => by
                have h := HI.out R2
                rw [decide_eq_false (show ¬ (m = d ∧ R = first ∧ R2 = R2) from fun h => hr h.2.1)] at h
                exact h
              clear HI
              obtain ⟨G, hG⟩ : ∃ G, decide (m = d ∧ R = first ∧ R2 = second) = G := ⟨_, rfl⟩
              rw [hG] at HI1
              have HG := Lib.hid hG
              have HC3 := Lib.hid hc3
              clear hG hc3
              go_wp2
              have HKP : Hid (∀ W, Below w3.heap.size w3 W → (W.cell? ⟨B1, 0, none⟩ = some (.string first) ∧ W.cell? ⟨B1, 1, none⟩ = some (.string second)) ∧ Below w3.heap.size w3 W) := Lib.hid fun W hW => ⟨cell2' (HY.out.below hW HY.out.lt), hW⟩
              clear y0 y1
              go_region_held3 (fun w' => (w'.cell? ⟨B1, 0, none⟩ = some (.string first) ∧ w'.cell? ⟨B1, 1, none⟩ = some (.string second)) ∧ Below w3.heap.size w3 w')
                ((refine HKP.out _ ?_; first | exact hB5' | exact hB4' | exact (Below.refl _ _).drew | exact Below.refl _ _))
                (first
                  | (have := hB4'; go_at_call 13; refine (HI1.out _ (HC3.out.below hB4')).mono ?_; rintro e w5 ⟨rfl, hb5⟩; have hB5' : Below w3.heap.size w3 w5 := hB4'.trans (hb5.mono hB4'.size))
                  | (go_at_call 10; refine (HMK.out _).mono ?_; rintro e w4 ⟨rfl, hb4⟩; have hB4' : Below w3.heap.size w3 w4 := (Below.refl _ _).drew.trans hb4))
              have hB5 := hB3.trans (hB5'.mono hB3.size)
              have hc5 := HC3.out.below hB5'
              have hY5 := HY.out.below hB5' HY.out.lt
              rename_i hHeld
              clear HC3 hB5' hB4' hHeld HKP HY hb4 hb5 hB3
              go_wp2_with fail
              refine (HD.out _).mono ?_
              rintro e w' ⟨rfl, hw⟩
              rw [hw]
              clear hw
              by_cases hd : m = d
              · have HU2 := Lib.hid (HU.out hd)
                have hdd : ((m : Int) != (d : Int)) = false := by rw [hd]; simp
                have y0 := hY5.cell 0
                have y1 := hY5.cell 1
                by_cases hr : R = first
                · have HGR := Lib.hid (show G = decide (R2 = second) from HG.out.symm.trans (decide_eq_decide.2 ⟨fun h => h.2.2, fun h => ⟨hd, hr, h⟩⟩))
                  have HI4 := Lib.hid (HI2.out hd hr)
                  have hrr : (R.toList == first.toList) = true := by rw [beqB]; exact decide_eq_true hr
                  have hqq : (R2.toList == second.toList) = G := by rw [beqB R2 second, HGR.out]
                  clear HU HI2 HI3 HI1 hd HG hr HGR
                  go_wp2_with fail
                  refine (HU2.out _ hc5).mono ?_
                  rintro e w6 ⟨rfl, hb6⟩
                  have hc6 := hc5.below hb6
                  have hY6 := hY5.below hb6 hY5.lt
                  have hB6 := hB5.trans (hb6.mono hB5.size)
                  clear hB5 hb6 hc5 y0 y1 hY5
                  have hx7 : Blk (w6.alloc (.cells #[.string R, .string R2] 48)) w6.heap.size 48 #[.string R, .string R2] := Blk.new _ _ _
                  have hY7 := hY6.alloc (.cells #[.string R, .string R2] 48)
                  have hc7 := hc6.below ((Below.refl _ w6).alloc (Nat.le_refl _) (.cells #[.string R, .string R2] 48))
                  have hB7 := hB6.alloc hB6.size (.cells #[.string R, .string R2] 48)
                  have y0 := hY7.cell 0
                  have y1 := hY7.cell 1
                  clear hc6 hB6 hY6
                  go_wp2
                  generalize w6.alloc (.cells #[.string R, .string R2] 48) = w7 at *
                  generalize w6.heap.size = G7 at *
                  have HC7 := Lib.hid hc7
                  have HKP : Hid (∀ W, Below w7.heap.size w7 W → ((W.cell? ⟨B1, 0, none⟩ = some (.string first) ∧ W.cell? ⟨B1, 1, none⟩ = some (.string second)) ∧ W.cell? ⟨G7, 0, none⟩ = some (.string R) ∧ W.cell? ⟨G7, 1, none⟩ = some (.string R2)) ∧ Below w7.heap.size w7 W) := Lib.hid fun W hW => ⟨⟨cell2' (hY7.below hW hY7.lt), cell2' (hx7.below hW hx7.lt)⟩, hW⟩
                  clear y0 y1 hY7 hx7 hc7 hqq
                  go_region_held3 (fun w' => ((w'.cell? ⟨B1, 0, none⟩ = some (.string first) ∧ w'.cell? ⟨B1, 1, none⟩ = some (.string second)) ∧ w'.cell? ⟨G7, 0, none⟩ = some (.string R) ∧ w'.cell? ⟨G7, 1, none⟩ = some (.string R2)) ∧ Below w7.heap.size w7 w')
                    ((refine HKP.out _ ?_; first | exact hB9' | exact hB8' | exact (Below.refl _ _).drew | exact Below.refl _ _))
                    (first
                      | (have := hB8'; go_at_call 13; refine (HI4.out _ (HC7.out.below hB8')).mono ?_; rintro e w9 ⟨rfl, hb9⟩; have hB9' : Below w7.heap.size w7 w9 := hB8'.trans (hb9.mono hB8'.size))
                      | (go_at_call 10; refine (HMK.out _).mono ?_; rintro e w8 ⟨rfl, hb8⟩; have hB8' : Below w7.heap.size w7 w8 := (Below.refl _ _).drew.trans hb8))
                  have hB9 := hB7.trans (hB9'.mono hB7.size)
                  go_wp2
                  go_ret
                  exact ⟨rfl, hB9⟩
                · obtain rfl : false = G := (decide_eq_false (fun h => hr h.2.1)).symm.trans HG.out
                  have HI4 := Lib.hid (HI3.out hr)
                  have hrr : (R.toList == first.toList) = false := by rw [beqB]; exact decide_eq_false hr
                  clear HU HI2 HI3 HI1 hd HG hr
                  go_wp2_with fail
                  refine (HU2.out _ hc5).mono ?_
                  rintro e w6 ⟨rfl, hb6⟩
                  have hc6 := hc5.below hb6
                  have hY6 := hY5.below hb6 hY5.lt
                  have hB6 := hB5.trans (hb6.mono hB5.size)
                  clear hB5 hb6 hc5 y0 y1 hY5
                  have hx7 : Blk (w6.alloc (.cells #[.string R, .string R2] 48)) w6.heap.size 48 #[.string R, .string R2] := Blk.new _ _ _
                  have hY7 := hY6.alloc (.cells #[.string R, .string R2] 48)
                  have hc7 := hc6.below ((Below.refl _ w6).alloc (Nat.le_refl _) (.cells #[.string R, .string R2] 48))
                  have hB7 := hB6.alloc hB6.size (.cells #[.string R, .string R2] 48)
                  have y0 := hY7.cell 0
                  have y1 := hY7.cell 1
                  clear hc6 hB6 hY6
                  go_wp2
                  generalize w6.alloc (.cells #[.string R, .string R2] 48) = w7 at *
                  generalize w6.heap.size = G7 at *
                  have HC7 := Lib.hid hc7
                  have HKP : Hid (∀ W, Below w7.heap.size w7 W → ((W.cell? ⟨B1, 0, none⟩ = some (.string first) ∧ W.cell? ⟨B1, 1, none⟩ = some (.string second)) ∧ W.cell? ⟨G7, 0, none⟩ = some (.string R) ∧ W.cell? ⟨G7, 1, none⟩ = some (.string R2)) ∧ Below w7.heap.size w7 W) := Lib.hid fun W hW => ⟨⟨cell2' (hY7.below hW hY7.lt), cell2' (hx7.below hW hx7.lt)⟩, hW⟩
                  clear y0 y1 hY7 hx7 hc7
                  go_region_held3 (fun w' => ((w'.cell? ⟨B1, 0, none⟩ = some (.string first) ∧ w'.cell? ⟨B1, 1, none⟩ = some (.string second)) ∧ w'.cell? ⟨G7, 0, none⟩ = some (.string R) ∧ w'.cell? ⟨G7, 1, none⟩ = some (.string R2)) ∧ Below w7.heap.size w7 w')
                    ((refine HKP.out _ ?_; first | exact hB9' | exact hB8' | exact (Below.refl _ _).drew | exact Below.refl _ _))
                    (first
                      | (have := hB8'; go_at_call 13; refine (HI4.out _ (HC7.out.below hB8')).mono ?_; rintro e w9 ⟨rfl, hb9⟩; have hB9' : Below w7.heap.size w7 w9 := hB8'.trans (hb9.mono hB8'.size))
                      | (go_at_call 10; refine (HMK.out _).mono ?_; rintro e w8 ⟨rfl, hb8⟩; have hB8' : Below w7.heap.size w7 w8 := (Below.refl _ _).drew.trans hb8))
                  have hB9 := hB7.trans (hB9'.mono hB7.size)
                  go_wp2
                  go_ret
                  exact ⟨rfl, hB9⟩
              · obtain rfl : false = G := (decide_eq_false (fun h => hd h.1)).symm.trans HG.out
                have hdd : ((m : Int) != (d : Int)) = true := by rw [bne_iff_ne]; omega
                clear hd HU HI1 HI2 HI3 HG
                go_wp2
                go_ret
                exact ⟨rfl, hB5⟩
      · have hrs' : (40 : Int) < (second.size : Int) := by omega
        go_wp2_with fail
        refine (HA.out _).mono ?_
        rintro e w4 ⟨rfl, hb4⟩
        have hB4 := hB3.trans (hb4.mono hB3.size)
        clear hB3 hb4
        go_wp2
        go_ret
        exact ⟨rfl, hB4⟩
    · have hls' : (40 : Int) < (first.size : Int) := by omega
      go_wp2_with fail
      refine (HA.out _).mono ?_
      rintro e w4 ⟨rfl, hb4⟩
      have hB4 := hB3.trans (hb4.mono hB3.size)
      clear hB3 hb4
      go_wp2
      go_ret
      exact ⟨rfl, hB4⟩
  · rw [Bool.not_eq_true] at hfew
    rw [hfew]
    clear hfew
    go_wp2_with fail
    refine (HA.out _).mono ?_
    rintro e w4 ⟨rfl, hb4⟩
    have hB4 := hB3.trans (hb4.mono hB3.size)
    clear hB3 hb4
    go_wp2
    go_ret
    exact ⟨rfl, hB4⟩
end Go.Proofs.Ytigmkhgaoamdkaa

/-
  The walk of the law MerkleIncluded.
-/
import Derived.Test.YtigmkhgaoamdkaaMAwake
import Derived.Test.YtigmkhgaoamdkaaMRefU
namespace Go.Proofs.Ytigmkhgaoamdkaa
open Go.RowKit

theorem cell2' {w : World} {g : Nat} {t : TypeId} {a b : Value} (h : Blk w g t #[a, b]) : w.cell? ⟨g, 0, none⟩ = some a ∧ w.cell? ⟨g, 1, none⟩ = some b := ⟨h.cell 0, h.cell 1⟩
set_option maxRecDepth 100000 in
set_option maxHeartbeats 4000000 in
theorem law_included (i n : Int) (_hin : (-9223372036854775808 ≤ i ∧ i ≤ 9223372036854775807) ∧ (-9223372036854775808 ≤ n ∧ n ≤ 9223372036854775807)) (oa : Option Addr) (m cap : Nat) (ss : List ByteArray) (hm : ss.length = m) (hm2 : m ≤ 9223372036854775807) (hsz : ∀ s ∈ ss, s.size ≤ 9223372036854775807) (hcap : m ≤ cap)
    (leaf root : ByteArray) (hlr : leaf.size ≤ 9223372036854775807 ∧ root.size ≤ 9223372036854775807) (w : World) (hc : Strs w oa ss) :
    Calls Try.prog 6 #[.agg #[.int .i64 i, .int .i64 n], .slice oa m cap, .agg #[.string leaf, .string root]] w fun e w' => e = .returned (.bool true) ∧ Below w.heap.size w w' := by
  have hB0 := ((Below.refl _ w).alloc (Nat.le_refl _) (.cells #[.int .i64 i, .int .i64 n] 47)).alloc (by simp) (.cells #[.string leaf, .string root] 48)
  have hX : Blk ((w.alloc (.cells #[.int .i64 i, .int .i64 n] 47)).alloc (.cells #[.string leaf, .string root] 48)) w.heap.size 47 #[.int .i64 i, .int .i64 n] := (Blk.new _ _ _).alloc _
  have hY : Blk ((w.alloc (.cells #[.int .i64 i, .int .i64 n] 47)).alloc (.cells #[.string leaf, .string root] 48)) (w.heap.size + 1) 48 #[.string leaf, .string root] := Blk.new_at (by simp)
  have hc0 : Strs ((w.alloc (.cells #[.int .i64 i, .int .i64 n] 47)).alloc (.cells #[.string leaf, .string root] 48)) oa ss := hc.below hB0
  have HA := Lib.hid (fun W => awake4_any W)
  have HMK := Lib.hid (fun W => make_std W)
  have HF : Hid (∀ W, Strs W oa ss → Calls Try.prog 9 #[.slice oa m cap, .int .i64 70, .int .i64 40] W fun e w' => e = .returned (.bool (fewM ss 70 40)) ∧ w' = W) := Lib.hid (fun W hW => few_any oa m cap ss hm hm2 hsz 70 40 W hW)
  have HFT := Lib.hid (show fewM ss 70 40 = true → m ≤ 70 ∧ Sz ss from fun h => by rw [← hm]; exact few_sz (by decide) (by decide) h)
  have HM := Lib.hid hm
  have hl1 := hlr.1
  have hl2 := hlr.2
  clear hsz hc hlr hm
  go_enter Try.func6, Try.ntmps6
  go_wp2
  generalize (w.alloc (.cells #[.int .i64 i, .int .i64 n] 47)).alloc (.cells #[.string leaf, .string root] 48) = w0 at *
  obtain ⟨B, hBB⟩ : ∃ B, w.heap.size = B := ⟨_, rfl⟩
  rw [hBB] at hB0 hX hY ⊢
  obtain ⟨B1, hB1⟩ : ∃ B1, B + 1 = B1 := ⟨_, rfl⟩
  rw [hB1] at hY ⊢
  have y0 := hY.cell 0
  have y1 := hY.cell 1
  have HX := Lib.hid hX
  have HC := Lib.hid hc0
  have HB := Lib.hid (show Below w.heap.size w w0 by rw [hBB]; exact hB0)
  clear hY hX hc0 hB0 hB1
  go_quiet (fail)
  have hX1 : Blk (w0.drewN nq) B 47 #[.int .i64 i, .int .i64 n] := HX.out
  have hc1 : Strs (w0.drewN nq) oa ss := HC.out
  have hB1 := below_drewN HB.out nq
  generalize w0.drewN nq = w1 at *
  have x0 := hX1.cell 0
  have x1 := hX1.cell 1
  clear HX HC HB y0 y1 hX1
  go_wp2
  go_quiet (fail)
  have hc2 : Strs (w1.drewN nq) oa ss := hc1
  have hB2 := below_drewN hB1 nq
  generalize w1.drewN nq = w2 at *
  clear hc1 hB1 x0 x1 hBB
  go_wp2_with fail
  refine (HA.out _).mono ?_
  rintro e w3 ⟨rfl, hb3⟩
  have hc3 := hc2.below hb3
  have hB3 := hB2.trans (hb3.mono hB2.size)
  clear hc2 hB2 hb3
  go_wp2_with fail
  refine (HF.out _ hc3).mono ?_
  rintro e w' ⟨rfl, hw⟩
  rw [hw]
  clear hw
  by_cases hfew : fewM ss 70 40 = true
  · obtain ⟨hm70, hz⟩ := HFT.out hfew
    rw [hfew]
    clear hfew
    by_cases hls : leaf.size ≤ 40
    · have hls' : ¬ (40 : Int) < (leaf.size : Int) := by omega
      by_cases hrs : root.size ≤ 40
      · have hrs' : ¬ (40 : Int) < (root.size : Int) := by omega
        by_cases o1 : i < 0
        · have HOUT := Lib.hid (show i < 0 ∨ n ≤ i ∨ 64 < n from .inl o1)
          have HO := Lib.hid (fun W => included_out leaf root i n oa m cap HOUT.out W)
          go_wp2_with fail
          refine (HMK.out _).mono ?_
          rintro e w4 ⟨rfl, hb4⟩
          have hB4 := hB3.trans (hb4.mono hB3.size)
          clear hB3 hb4
          go_wp2_with fail
          refine (HO.out _).mono ?_
          rintro e w5 ⟨rfl, hb5⟩
          have hB5 := hB4.trans (hb5.mono hB4.size)
          clear hB4 hb5
          go_wp2
          go_ret
          exact ⟨rfl, hB5⟩
        · by_cases o2 : n < 1
          · have HOUT := Lib.hid (show i < 0 ∨ n ≤ i ∨ 64 < n by omega)
            have HO := Lib.hid (fun W => included_out leaf root i n oa m cap HOUT.out W)
            go_wp2_with fail
            refine (HMK.out _).mono ?_
            rintro e w4 ⟨rfl, hb4⟩
            have hB4 := hB3.trans (hb4.mono hB3.size)
            clear hB3 hb4
            go_wp2_with fail
            refine (HO.out _).mono ?_
            rintro e w5 ⟨rfl, hb5⟩
            have hB5 := hB4.trans (hb5.mono hB4.size)
            clear hB4 hb5
            go_wp2
            go_ret
            exact ⟨rfl, hB5⟩
          · by_cases o3 : n ≤ i
            · have HOUT := Lib.hid (show i < 0 ∨ n ≤ i ∨ 64 < n by omega)
              have HO := Lib.hid (fun W => included_out leaf root i n oa m cap HOUT.out W)
              go_wp2_with fail
              refine (HMK.out _).mono ?_
              rintro e w4 ⟨rfl, hb4⟩
              have hB4 := hB3.trans (hb4.mono hB3.size)
              clear hB3 hb4
              go_wp2_with fail
              refine (HO.out _).mono ?_
              rintro e w5 ⟨rfl, hb5⟩
              have hB5 := hB4.trans (hb5.mono hB4.size)
              clear hB4 hb5
              go_wp2
              go_ret
              exact ⟨rfl, hB5⟩
            · by_cases o4 : 64 < n
              · have HOUT := Lib.hid (show i < 0 ∨ n ≤ i ∨ 64 < n by omega)
                have HO := Lib.hid (fun W => included_out leaf root i n oa m cap HOUT.out W)
                go_wp2_with fail
                refine (HMK.out _).mono ?_
                rintro e w4 ⟨rfl, hb4⟩
                have hB4 := hB3.trans (hb4.mono hB3.size)
                clear hB3 hb4
                go_wp2_with fail
                refine (HO.out _).mono ?_
                rintro e w5 ⟨rfl, hb5⟩
                have hB5 := hB4.trans (hb5.mono hB4.size)
                clear hB4 hb5
                go_wp2
                go_ret
                exact ⟨rfl, hB5⟩
              · obtain ⟨j, rfl⟩ : ∃ j : Nat, i = j := ⟨i.toNat, by omega⟩
                obtain ⟨k, rfl⟩ : ∃ k : Nat, n = k := ⟨n.toNat, by omega⟩
                have HI := Lib.hid (fun r W hW => included_in leaf r j k oa m cap ss (by omega) (by omega) (by omega) HM.out (by omega) hcap hz W hW)
                have HD := Lib.hid (fun W => depth_any k j (by omega) (by omega) W)
                have HU := Lib.hid (fun (h : m = depM j k) W hW => up_any k leaf j oa m cap ss (by omega) (by omega) (by omega) HM.out h hcap hz W hW)
                have hdl := depM_lt k j
                rw [HM.out] at HI
                generalize (rebM leaf j k ss).1 = R at *
                generalize depM j k = d at *
                have HI1 := Lib.hid (HI.out root)
                have HI2 : Hid (m = d → ∀ W, Strs W oa ss → Calls Try.prog 16 #[.agg tabV, .string leaf, .int .i64 j, .int .i64 k, .slice oa m cap, .string R] W fun e w' => e = .returned (.bool true) ∧ Below W.heap.size W w') := Lib.hid fun hd => by
                  have h := HI.out R
                  rw [decide_eq_true (show m = d ∧ R = R from ⟨hd, rfl⟩)] at h
                  exact h
                clear HI
                obtain ⟨G, hG⟩ : ∃ G, decide (m = d ∧ R = root) = G := ⟨_, rfl⟩
                rw [hG] at HI1
                have HG := Lib.hid hG
                clear hG
                go_wp2_with fail
                refine (HMK.out _).mono ?_
                rintro e w4 ⟨rfl, hb4⟩
                have hc4 := hc3.below hb4
                have hB4 := hB3.trans (hb4.mono hB3.size)
                clear hB3 hb4 hc3
                go_wp2_with fail
                refine (HI1.out _ hc4).mono ?_
                rintro e w5 ⟨rfl, hb5⟩
                have hc5 := hc4.below hb5
                have hB5 := hB4.trans (hb5.mono hB4.size)
                clear hB4 hb5 hc4
                go_wp2_with fail
                refine (HD.out _).mono ?_
                rintro e w' ⟨rfl, hw⟩
                rw [hw]
                clear hw
                by_cases hd : m = d
                · have HGR := Lib.hid (show G = decide (R = root) from HG.out.symm.trans (decide_eq_decide.2 ⟨fun h => h.2, fun h => ⟨hd, h⟩⟩))
                  have HU2 := Lib.hid (HU.out hd)
                  have HI3 := Lib.hid (HI2.out hd)
                  have hdd : ((m : Int) != (d : Int)) = false := by rw [hd]; simp
                  have HQ := Lib.hid (beqB R root)
                  clear HU HI2 HI1
                  clear hd
                  go_wp2_with fail
                  refine (HU2.out _ hc5).mono ?_
                  rintro e w6 ⟨rfl, hb6⟩
                  have hc6 := hc5.below hb6
                  have hB6 := hB5.trans (hb6.mono hB5.size)
                  clear hB5 hb6 hc5
                  have hqq : (G == (R.toList == root.toList)) = true := by rw [HQ.out, HGR.out]; simp
                  go_wp2_with fail
                  refine (HMK.out _).mono ?_
                  rintro e w7 ⟨rfl, hb7⟩
                  have hc7 := hc6.below hb7
                  have hB7 := hB6.trans (hb7.mono hB6.size)
                  clear hB6 hb7 hc6
                  go_wp2_with fail
                  refine (HI3.out _ hc7).mono ?_
                  rintro e w8 ⟨rfl, hb8⟩
                  have hB8 := hB7.trans (hb8.mono hB7.size)
                  clear hB7 hb8 hc7
                  go_wp2
                  go_ret
                  exact ⟨rfl, hB8⟩
                · obtain rfl : false = G := (decide_eq_false (fun h => hd h.1)).symm.trans HG.out
                  have hdd : ((m : Int) != (d : Int)) = true := by rw [bne_iff_ne]; omega
                  clear hd HU HI1 HI2
                  go_wp2
                  go_ret
                  exact ⟨rfl, hB5⟩
      · have hrs' : (40 : Int) < (root.size : Int) := by omega
        go_wp2_with fail
        refine (HA.out _).mono ?_
        rintro e w4 ⟨rfl, hb4⟩
        have hB4 := hB3.trans (hb4.mono hB3.size)
        clear hB3 hb4
        go_wp2
        go_ret
        exact ⟨rfl, hB4⟩
    · have hls' : (40 : Int) < (leaf.size : Int) := by omega
      go_wp2_with fail
      refine (HA.out _).mono ?_
      rintro e w4 ⟨rfl, hb4⟩
      have hB4 := hB3.trans (hb4.mono hB3.size)
      clear hB3 hb4
      go_wp2
      go_ret
      exact ⟨rfl, hB4⟩
  · rw [Bool.not_eq_true] at hfew
    rw [hfew]
    clear hfew
    go_wp2_with fail
    refine (HA.out _).mono ?_
    rintro e w4 ⟨rfl, hb4⟩
    have hB4 := hB3.trans (hb4.mono hB3.size)
    clear hB3 hb4
    go_wp2
    go_ret
    exact ⟨rfl, hB4⟩
end Go.Proofs.Ytigmkhgaoamdkaa

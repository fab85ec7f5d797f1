/-
  The walk of the law RangesRight.
-/
import Derived.Test.YtmokkahkfmmnmaaRRight
namespace Go.Proofs.Ytmokkahkfmmnmaa
open Go.RowKit

set_option maxRecDepth 100000 in
set_option maxHeartbeats 4000000 in
theorem law_right (z : Int) (hz : -9223372036854775808 ≤ z ∧ z ≤ 9223372036854775807) (oa : Option Addr) (n cap : Nat) (ss : List ByteArray) (hn : ss.length = n) (hm : n ≤ 9223372036854775807) (hsz : ∀ s ∈ ss, s.size ≤ 9223372036854775807) (w : World) (hc : Strs w oa ss) :
    Calls Try.prog 6 #[.int .i64 z, .slice oa n cap] w fun e w' => e = .returned (.bool true) ∧ Below w.heap.size w w' := by
  obtain ⟨N, hN⟩ : ∃ N : Nat, min z.toNat 1099511627776 = N := ⟨_, rfl⟩
  obtain ⟨m1, hm1⟩ : ∃ m1 : Int, min z 1099511627776 = m1 := ⟨_, rfl⟩
  obtain ⟨m2, hm2⟩ : ∃ m2 : Int, max z 0 = m2 := ⟨_, rfl⟩
  have hm3 : min m2 1099511627776 = (N : Int) := by omega
  have hm1N : m1.toNat = N := by omega
  have hm1b : m1 ≤ 9223372036854775807 := by omega
  have HS1 := Lib.hid (fun W => stretches_any (Lib.hid lenOf) m1 hm1b W)
  rw [hm1N] at HS1
  have HS2 := Lib.hid (fun W => sizes_any N (by omega) W)
  have HLL := Lib.hid (show (strL N).length ≤ 64 by
    have := strL_len 63 N (by have : (2 : Nat) ^ 63 = 9223372036854775808 := by decide
                              omega)
    omega)
  have HA := Lib.hid awake6_any
  have HH := Lib.hid (fun W hW => hashes_any oa n cap ss hn hm hsz W hW)
  have HR : n ≤ 60 → Hid (∀ W, Strs W oa ss → Calls Try.prog 15 #[.agg #[.int .i64 z, .slice oa n cap]] W fun e w' => e = .returned (.bool (rightM z ss)) ∧ Below W.heap.size W w') := fun h => Lib.hid (fun W hW => right_any z hz oa n cap ss hn (by omega) hsz W hW)
  have HRM := Lib.hid (show 0 ≤ z → z ≤ 1073741824 → rightM z ss = (decide (n = (strL N).length) && allH ss) from fun h1 h2 => by
    unfold rightM
    rw [hn, ← hN, Nat.min_eq_left (by omega)]
    congr 1
    exact decide_eq_decide.2 ⟨fun h => h.2.2, fun h => ⟨h1, h2, h⟩⟩)
  have HRF := Lib.hid (show ¬ (0 ≤ z ∧ z ≤ 1073741824) → rightM z ss = false from fun h => by
    unfold rightM
    rw [decide_eq_false (fun k => h ⟨k.1, k.2.1⟩)]
    rfl)
  generalize rightM z ss = R at *
  generalize allH ss = A at *
  generalize strL N = L at *
  have HC := Lib.hid hc
  clear hN hm1N hm1b hsz hn hc
  go_enter Try.func6, Try.ntmps6
  go_wp2_with fail
  refine (HA.out _).mono ?_
  rintro e w1 ⟨rfl, hB1⟩
  have hc1 := HC.out.below hB1
  clear HC
  by_cases h60 : 60 < n
  · have h60' : (60 : Int) < (n : Int) := by omega
    clear HR HRM HRF HS1 HS2 HLL HH
    go_wp2_with fail
    refine (HA.out _).mono ?_
    rintro e w2 ⟨rfl, hb2⟩
    have hB2 := hB1.trans (hb2.mono hB1.size)
    clear hB1 hb2 hc1
    go_wp2
    go_ret
    exact ⟨rfl, hB2⟩
  · have h60' : ¬ (60 : Int) < (n : Int) := by omega
    have HR' := HR (by omega)
    clear HR HA
    go_wp2_with fail
    refine (HS1.out _).mono ?_
    rintro e w2 ⟨v2, rfl, hv2, hb2⟩
    obtain ⟨o2, cap2, rfl, hI2, _⟩ := hv2.formc
    have hB2 := hB1.trans (hb2.mono hB1.size)
    have hc2 := hc1.below hb2
    clear hv2 hb2 hB1 hc1 HS1
    go_wp2_with fail
    refine (HS2.out _).mono ?_
    rintro e w3 ⟨v3, rfl, hv3, hb3⟩
    obtain ⟨o3, cap3, rfl, hI3, _⟩ := hv3.formc
    have hB3 := hB2.trans (hb3.mono hB2.size)
    have hc3 := hc2.below hb3
    have HI2 := Lib.hid (hI2.below hb3)
    have HI3 := Lib.hid hI3
    clear hv3 hb3 hB2 hc2 hI2 hI3 HS2 hm1 hm2 hm3
    obtain ⟨m, hm⟩ : ∃ m, L.length = m := ⟨_, rfl⟩
    have HM := Lib.hid hm
    rw [hm] at HRM HLL ⊢
    have hm64 := HLL.out
    clear hm HLL
    go_wp2
    go_loopw [7] (fun i wr => ∃ k : Nat, k ≤ m ∧ i = .int .i64 k ∧ Below w3.heap.size w3 wr) (fun i _ => m - (intOf i).toNat)
    case atStart => exact ⟨0, by omega, rfl, Below.refl _ _⟩
    case round =>
      obtain ⟨k, hk, rfl, hB⟩ := hrel
      by_cases hlt : k < m
      · have hlt' : (k : Int) < (m : Int) := by omega
        have hkl : k < L.length := by have := HM.out; omega
        obtain ⟨a, rfl, hab, hc0⟩ := HI2.out k hkl
        obtain ⟨b, rfl, hbb, hd0⟩ := HI3.out k hkl
        have hcc : wr.cell? (a.add k) = some (vI (L.getD k 0)) := (hB.cell (by rw [add_block]; exact hab)).trans hc0
        have hd : wr.cell? (b.add k) = some (vI (L.getD k 0)) := (hB.cell (by rw [add_block]; exact hbb)).trans hd0
        have HBD := Lib.hid (fun q => below_drewN hB q)
        generalize L.getD k 0 = x at *
        dsimp only [vI] at hcc hd
        clear hc0 hd0 hkl hB HR' HRM HRF HH
        go_wp2
        go_quiet (fail)
        go_wp2
        go_roundw
        case rel => exact ⟨k + 1, by omega, by go_num, HBD.out _⟩
        case measure => simp [intOf]; omega
      · obtain rfl : k = m := by omega
        have hBr := hB3.trans (hB.mono hB3.size)
        have hcr := hc3.below hB
        clear hB3 hc3 hB HI2 HI3 hlt
        by_cases h1 : 0 ≤ z
        · by_cases h2 : z ≤ 1073741824
          · by_cases h3 : n = k
            · have he : ((n : Int) == (k : Int)) = true := by rw [h3]; simp
              obtain rfl : R = A := by rw [HRM.out h1 h2, decide_eq_true h3]; rfl
              clear HRM HRF h3
              go_wp2_with fail
              refine (HH.out _ hcr).mono ?_
              rintro e w4 ⟨rfl, rfl⟩
              go_wp2_with fail
              refine (HR'.out _ hcr).mono ?_
              rintro e w5 ⟨rfl, hb5⟩
              go_wp2
              go_ret
              exact ⟨boolEq (by cases R <;> rfl), hBr.trans (hb5.mono hBr.size)⟩
            · have he : ((n : Int) == (k : Int)) = false := by rw [beq_eq_false_iff_ne]; omega
              obtain rfl : R = false := by rw [HRM.out h1 h2, decide_eq_false h3]; rfl
              clear HRM HRF h3
              go_wp2_with fail
              refine (HR'.out _ hcr).mono ?_
              rintro e w5 ⟨rfl, hb5⟩
              go_wp2
              go_ret
              exact ⟨rfl, hBr.trans (hb5.mono hBr.size)⟩
          · obtain rfl : R = false := HRF.out (by omega)
            clear HRM HRF
            go_wp2_with fail
            refine (HR'.out _ hcr).mono ?_
            rintro e w5 ⟨rfl, hb5⟩
            go_wp2
            go_ret
            exact ⟨rfl, hBr.trans (hb5.mono hBr.size)⟩
        · obtain rfl : R = false := HRF.out (by omega)
          clear HRM HRF
          go_wp2_with fail
          refine (HR'.out _ hcr).mono ?_
          rintro e w5 ⟨rfl, hb5⟩
          go_wp2
          go_ret
          exact ⟨rfl, hBr.trans (hb5.mono hBr.size)⟩
end Go.Proofs.Ytmokkahkfmmnmaa

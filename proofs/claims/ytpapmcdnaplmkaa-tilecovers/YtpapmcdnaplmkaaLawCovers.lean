/-
  A plan's tiles have all hashes of each level, each once, highest level first.
-/
import Derived.Test.YtpapmcdnaplmkaaTRef
namespace Go.Proofs.Ytpapmcdnaplmkaa
open Go.RowKit

theorem plan_order {k i : Nat} (hk : k ≤ 64) (hi : i + 1 < (planT k).length) : ((planT k).getD (i + 1) (0, 0)).1 < ((planT k).getD i (0, 0)).1 ∨ ((planT k).getD (i + 1) (0, 0)).1 = ((planT k).getD i (0, 0)).1 ∧ ((planT k).getD (i + 1) (0, 0)).2 = ((planT k).getD i (0, 0)).2 + 1 := by
  have := List.all_eq_true.1 (List.all_eq_true.1 order_facts k (List.mem_range.2 (by omega))) i (List.mem_range.2 (by omega))
  simpa using this
set_option maxRecDepth 100000 in
set_option maxHeartbeats 4000000 in
theorem covers_walk (b : Nat) (hb : b < 256) (w : World) : Calls Try.prog 3 #[.int .u8 (b : Int)] w fun e w' => e = .returned (.bool true) ∧ Below w.heap.size w w' := by
  have HA := Lib.hid (fun W => awake7_any W)
  obtain ⟨k, hk⟩ : ∃ k, b % 65 = k := ⟨_, rfl⟩
  have hk64 : k ≤ 64 := by omega
  have HP := Lib.hid (fun W => plan_any (k : Int) W)
  have HRD := Lib.hid (show ∀ W e w', RD (planT k) W e w' → ∃ oa cap, e = .returned (.slice oa (planT k).length cap) ∧ (∀ i, i < (planT k).length → ∃ g, oa = some ⟨g, 0, none⟩ ∧ g < w'.heap.size ∧ w'.cell? ⟨g, 0 + i * 2, none⟩ = some (iv ((planT k).getD i (0, 0)).1) ∧ w'.cell? ⟨g, 0 + i * 2 + 1, none⟩ = some (iv ((planT k).getD i (0, 0)).2)) ∧ (planT k).length ≤ cap ∧ Below W.heap.size W w' from fun W e w' h => by
    obtain ⟨v, rfl, hv, hb⟩ := h
    obtain ⟨oa, cap, rfl, h1, h2, _, h3⟩ := hv.form
    refine ⟨oa, cap, rfl, fun i hi => ?_, h2, hb⟩
    obtain ⟨a, ha, h4, h5, h6⟩ := h1 i hi
    have h7 := (h3 a ha).1
    rw [h7, addr_add] at h5 h6
    exact ⟨a.block, by rw [ha, ← h7], h4, h5, h6⟩)
  have HO := Lib.hid (fun i hi => plan_order (k := k) (i := i) hk64 hi)
  have HS := Lib.hid (fun l (hl : l < 5) => cover_sum (k := k) (l := l) hk64 hl)
  have HM := Lib.hid (fun p (hp : p ∈ planT k) => plan_mem (n := k) hp)
  have hlen := plan_len k
  generalize RD (planT k) = PO at *
  generalize hPP : planT k = P at *
  obtain ⟨m, hm⟩ : ∃ m, P.length = m := ⟨_, rfl⟩
  rw [hm] at HRD HO hlen
  have HMM := Lib.hid hm
  have HK := Lib.hid hk
  clear hm hk hPP
  go_enter Try.func3, Try.ntmps3
  go_wp2_with fail
  refine (HA.out _).mono ?_
  rintro e w1 ⟨rfl, hb1⟩
  go_wp2_with fail
  rw [show ((b : Int) % 65) = (k : Int) by have := HK.out; omega]
  refine (HP.out _).mono ?_
  intro e w2 hq
  obtain ⟨oa, cap, rfl, hI, hcap, hb2⟩ := HRD.out _ _ _ hq
  have hB2 := hb1.trans (hb2.mono hb1.size)
  clear HA HP HRD hq hb1 hb2 HK
  go_wp2
  go_loopw [5] (fun l wr => ∃ q : Nat, l = .int .i64 (q : Int) ∧ q ≤ 5 ∧ Below w.heap.size w wr ∧ Below w2.heap.size w2 wr) (fun l _ => 5 - (intOf l).toNat)
  case atStart => exact ⟨0, rfl, by omega, hB2, Below.refl _ _⟩
  case round =>
    obtain ⟨q, rfl, hq5, hBr, hBr2⟩ := hrel
    by_cases hlt : q < 5
    · generalize wr = wo at *
      go_wp2
      rw [show decide ((q : Int) < 5) = true from decide_eq_true (by omega)]
      go_loopw [6, 7] (fun s i wr => ∃ (j x : Nat), i = .int .i64 (j : Int) ∧ s = .int .i64 (x : Int) ∧ j ≤ m ∧ x = sumW k q (P.take j) ∧ x ≤ 4 * j ∧ Below w.heap.size w wr ∧ Below w2.heap.size w2 wr) (fun _ i _ => m - (intOf i).toNat)
      case atStart => exact ⟨0, 0, rfl, rfl, by omega, by simp [sumW], by omega, hBr, hBr2⟩
      case round =>
        obtain ⟨j, x, rfl, rfl, hj, hx, hx4, hBs, hBs2⟩ := hrel
        by_cases hjm : j < m
        · obtain ⟨g, rfl, hab, hc0, hc1⟩ := hI j hjm
          obtain ⟨o, ho⟩ : ∃ o, 0 = o := ⟨_, rfl⟩
          rw [show (some ⟨g, 0, none⟩ : Option Addr) = some ⟨g, o, none⟩ by rw [ho]]
          have hcc : ∀ i, i < m → wr.cell? ⟨g, o + i * 2, none⟩ = some (iv (P.getD i (0, 0)).1) ∧ wr.cell? ⟨g, o + i * 2 + 1, none⟩ = some (iv (P.getD i (0, 0)).2) := fun i hi => by
            obtain ⟨g', he, h1, h2, h3⟩ := hI i hi
            cases he
            subst ho
            exact ⟨(hBs2.cell (p := ⟨g, 0 + i * 2, none⟩) h1).trans h2, (hBs2.cell (p := ⟨g, 0 + i * 2 + 1, none⟩) h1).trans h3⟩
          have HCC := Lib.hid hcc
          clear hcc hc0 hc1 ho
          obtain ⟨d0, d1⟩ := HCC.out j hjm
          obtain ⟨pl, hpl⟩ : ∃ pl, (P.getD j (0, 0)).1 = pl := ⟨_, rfl⟩
          obtain ⟨pi, hpi⟩ : ∃ pi, (P.getD j (0, 0)).2 = pi := ⟨_, rfl⟩
          rw [hpl] at d0
          rw [hpi] at d1
          have hpm := HM.out (P.getD j (0, 0)) (by rw [List.getD_eq_getElem?_getD, List.getElem?_eq_getElem (show j < P.length by rw [HMM.out]; exact hjm)]; exact List.getElem_mem _)
          rw [hpl, hpi] at hpm
          have HT := Lib.hid (show P.take (j + 1) = P.take j ++ [(pl, pi)] by
            rw [List.take_succ_eq_append_getElem (show j < P.length by rw [HMM.out]; exact hjm)]
            congr 2
            rw [← hpl, ← hpi, List.getD_eq_getElem?_getD, List.getElem?_eq_getElem (show j < P.length by rw [HMM.out]; exact hjm)]
            rfl)
          have HX := Lib.hid hx
          have HOJ := Lib.hid (show ∀ i, j = i + 1 → pl < (P.getD i (0, 0)).1 ∨ pl = (P.getD i (0, 0)).1 ∧ pi = (P.getD i (0, 0)).2 + 1 from fun i hi => by
            subst hi
            rw [← hpl, ← hpi]
            exact HO.out i hjm)
          clear hx hpl hpi hI
          by_cases hle : pl = q
          · have hle2 := hle.symm
            subst hle2
            have HW := Lib.hid (fun W => width_any (k : Int) (q : Int) (pi : Int) (by omega) W)
            have hwl := wid_le (k : Int) (q : Int) (pi : Int)
            have HNX := Lib.hid (show x + widT (k : Int) (q : Int) (pi : Int) = sumW k q (P.take (j + 1)) by rw [HT.out, sumW_yes _ q _ (q, pi) rfl, HX.out])
            generalize widT (k : Int) (q : Int) (pi : Int) = wd at *
            go_wp2_with fail
            refine (HW.out _).mono ?_
            rintro e w3 ⟨rfl, hb3⟩
            clear HW
            have hBt := hBs.trans (hb3.mono hBs.size)
            have hBt2 := hBs2.trans (hb3.mono hBs2.size)
            replace d0 := (hb3.cell (p := ⟨g, _, none⟩) (Nat.lt_of_lt_of_le hab hBs2.size)).trans d0
            replace d1 := (hb3.cell (p := ⟨g, _, none⟩) (Nat.lt_of_lt_of_le hab hBs2.size)).trans d1
            by_cases hj0 : j = 0
            · have h0 : (0 < j) = False := eq_false (by omega)
              clear hj0
              go_wp2
              go_quiet (fail)
              go_wp2
              go_roundw
              case rel => exact ⟨j + 1, x + wd, by go_num, by go_num, by omega, HNX.out, by omega, below_drewN hBt _, below_drewN hBt2 _⟩
              case measure => simp [intOf]; omega
            obtain ⟨i, hi⟩ : ∃ i, j = i + 1 := ⟨j - 1, by omega⟩
            have hO := HOJ.out i hi
            obtain ⟨f0, f1⟩ := HCC.out i (by omega)
            replace f0 := (hb3.cell (p := ⟨g, _, none⟩) (Nat.lt_of_lt_of_le hab hBs2.size)).trans f0
            replace f1 := (hb3.cell (p := ⟨g, _, none⟩) (Nat.lt_of_lt_of_le hab hBs2.size)).trans f1
            generalize (P.getD i (0, 0)).1 = ql at *
            generalize (P.getD i (0, 0)).2 = qi at *
            have h0 : (0 < j) = True := eq_true (by omega)
            have hji : (j : Int) - 1 = (i : Int) := by omega
            have HJI := Lib.hid hi
            clear hi
            rcases hO with hO | ⟨hO, hO2⟩
            · have g1 : (ql < q) = False := eq_false (by omega)
              have g3 : (q == ql) = false := by rw [beq_eq_false_iff_ne]; omega
              have g4 : (q = ql) = False := eq_false (by omega)
              have g2 : ((q : Int) == (ql : Int)) = false := by rw [beq_eq_false_iff_ne]; omega
              go_wp2
              go_quiet (fail)
              go_wp2
              go_roundw
              case rel => exact ⟨j + 1, x + wd, by go_num, by go_num, by omega, HNX.out, by omega, below_drewN hBt _, below_drewN hBt2 _⟩
              case measure => simp [intOf]; omega
            · subst hO
              subst hO2
              go_wp2
              go_quiet (fail)
              go_wp2
              go_roundw
              case rel => exact ⟨j + 1, x + wd, by go_num, by go_num, by omega, HNX.out, by omega, below_drewN hBt _, below_drewN hBt2 _⟩
              case measure => simp [intOf]; omega
          · have HNX := Lib.hid (show x = sumW k q (P.take (j + 1)) by rw [HT.out, sumW_no _ q _ (pl, pi) hle, HX.out])
            by_cases hj0 : j = 0
            · have h0 : (0 < j) = False := eq_false (by omega)
              clear hj0
              go_wp2
              go_quiet (fail)
              go_wp2
              go_roundw
              case rel => exact ⟨j + 1, x, by go_num, by go_num, by omega, HNX.out, by omega, below_drewN hBs _, below_drewN hBs2 _⟩
              case measure => simp [intOf]; omega
            obtain ⟨i, hi⟩ : ∃ i, j = i + 1 := ⟨j - 1, by omega⟩
            have hO := HOJ.out i hi
            obtain ⟨f0, f1⟩ := HCC.out i (by omega)
            generalize (P.getD i (0, 0)).1 = ql at *
            generalize (P.getD i (0, 0)).2 = qi at *
            have h0 : (0 < j) = True := eq_true (by omega)
            have hji : (j : Int) - 1 = (i : Int) := by omega
            have HJI := Lib.hid hi
            clear hi
            rcases hO with hO | ⟨hO, hO2⟩
            · have g1 : (ql < pl) = False := eq_false (by omega)
              have g3 : (pl == ql) = false := by rw [beq_eq_false_iff_ne]; omega
              have g4 : (pl = ql) = False := eq_false (by omega)
              have g2 : ((pl : Int) == (ql : Int)) = false := by rw [beq_eq_false_iff_ne]; omega
              go_wp2
              go_quiet (fail)
              go_wp2
              go_roundw
              case rel => exact ⟨j + 1, x, by go_num, by go_num, by omega, HNX.out, by omega, below_drewN hBs _, below_drewN hBs2 _⟩
              case measure => simp [intOf]; omega
            · subst hO
              subst hO2
              go_wp2
              go_quiet (fail)
              go_wp2
              go_roundw
              case rel => exact ⟨j + 1, x, by go_num, by go_num, by omega, HNX.out, by omega, below_drewN hBs _, below_drewN hBs2 _⟩
              case measure => simp [intOf]; omega
        · obtain hjm2 : j = m := by omega
          have HXS := Lib.hid (show x = cntT (k : Int) (q : Int) by rw [hx, hjm2, ← HMM.out, List.take_length, HS.out q hlt])
          have HR := Lib.hid (fun W => rcount_any (k : Int) (q : Int) W)
          have HC := Lib.hid (fun W => count_any (k : Int) (q : Int) W)
          rw [← cnt_eq, ← HXS.out] at HR
          rw [← HXS.out] at HC
          clear hx hjm2 HXS hI
          go_wp2_with fail
          refine (HR.out _).mono ?_
          rintro e w4 ⟨rfl, rfl⟩
          clear HR
          go_wp2_with fail
          refine (HC.out _).mono ?_
          rintro e w5 ⟨rfl, hb5⟩
          clear HC
          go_wp2
          go_roundw
          case rel => exact ⟨q + 1, by go_num, by omega, hBs.trans (hb5.mono hBs.size), hBs2.trans (hb5.mono hBs2.size)⟩
          case measure => simp [intOf]; omega
    · obtain rfl : q = 5 := by omega
      rw [show ((5 : Nat) : Int) = 5 from rfl]
      go_wp2
      go_ret
      exact ⟨rfl, hBr⟩
theorem covers_said (x : Int) (h : 0 ≤ x ∧ x ≤ 255) (w : World) : Calls Try.prog 3 #[.int .u8 x] w fun e w' => e = .returned (.bool true) ∧ Below w.heap.size w w' := by
  obtain ⟨b, rfl⟩ : ∃ b : Nat, x = (b : Int) := ⟨x.toNat, by omega⟩
  exact covers_walk b (by omega) w
end Go.Proofs.Ytpapmcdnaplmkaa

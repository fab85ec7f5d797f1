/-
  The walk of the law RangesAdds.
-/
import Derived.Test.YtmokkahkfmmnmaaLawOf
namespace Go.Proofs.Ytmokkahkfmmnmaa
open Go.RowKit

theorem Own.strs {w : World} {B : Nat} {oa : Option Addr} {n c : Nat} {ss : List ByteArray} (h : Own w B (.slice oa n c) ss) : Strs w oa ss := by
  obtain ⟨oa', c', hv, hs⟩ := h.form
  injection hv with h1
  rw [h1]
  exact hs
section
attribute [-go_sem] loadVar
set_option maxRecDepth 100000 in
set_option maxHeartbeats 8000000 in
theorem law_adds (oa : Option Addr) (m cap : Nat) (ss : List ByteArray) (hm : ss.length = m) (hm2 : m ≤ 9223372036854775807) (hsz : ∀ s ∈ ss, s.size ≤ 9223372036854775807) (_hcap : m ≤ cap) (w : World) (hc : Strs w oa ss) :
    Calls Try.prog 4 #[.slice oa m cap] w fun e w' => e = .returned (.bool true) ∧ Below w.heap.size w w' := by
  have HA := Lib.hid (fun W => awake6_any W)
  have HMK := Lib.hid (fun W => make_std W)
  have HF : Hid (∀ W, Strs W oa ss → Calls Try.prog 9 #[.slice oa m cap, .int .i64 64, .int .i64 60] W fun e w' => e = .returned (.bool (fewM ss 64 60)) ∧ w' = W) := Lib.hid (fun W hW => few_any oa m cap ss hm hm2 hsz 64 60 W hW)
  have HFT := Lib.hid (show fewM ss 64 60 = true → m ≤ 64 ∧ Sz ss from fun h => by rw [← hm]; exact few_sz6 (by decide) (by decide) h)
  have HM := Lib.hid hm
  have HC := Lib.hid hc
  have z1 := zeroTable
  clear hsz hc hm
  go_enter Try.func4, Try.ntmps4
  go_wp2_with fail
  refine (HA.out _).mono ?_
  rintro e w3 ⟨rfl, hB3⟩
  have hc3 := HC.out.below hB3
  clear HC
  go_wp2_with fail
  refine (HF.out _ hc3).mono ?_
  rintro e w' ⟨rfl, hw⟩
  rw [hw]
  clear hw
  by_cases hfew : fewM ss 64 60 = true
  · obtain ⟨hm64, hz⟩ := HFT.out hfew
    rw [hfew]
    clear hfew
    have HLV := Lib.hid (fun W hW => rleaves_any oa m cap ss HM.out (by omega) hz W hW)
    have hzl := sz_leaves6 ss
    have HLL := Lib.hid (show (ss.map leafM).length = m by rw [List.length_map]; exact HM.out)
    generalize ss.map leafM = L at *
    go_wp2_with fail
    refine (HMK.out _).mono ?_
    rintro e w4 ⟨rfl, hb4⟩
    have hc4 := hc3.below hb4
    have hB4 := hB3.trans (hb4.mono hB3.size)
    clear hB3 hb4 hc3
    have hB5 := hB4.alloc hB4.size (.cells tabV 29)
    have hT5 : Blk (w4.alloc (.cells tabV 29)) w4.heap.size 29 tabV := Blk.new _ _ _
    have hc5 := hc4.below ((Below.refl _ w4).alloc (Nat.le_refl _) (.cells tabV 29))
    go_wp2_with (refine wpList_store_row rfl 29 _ _ rfl w4.heap.size tabV rfl rfl 29 zero72 (Blk.new _ _ _) (by rw [tabV_size]; exact infoTable) (by kernel_rfl) (by kernel_rfl) ?_; rw [World.setRow_alloc_new])
    generalize w4.alloc (.cells tabV 29) = w5 at *
    generalize w4.heap.size = gt at *
    clear hB4 hc4 z1
    refine (HLV.out _ hc5).mono ?_
    rintro e w6 ⟨v, rfl, hown, hb6⟩
    obtain ⟨ol, capl, hv, hs6, hcl, _⟩ := hown.formd
    rw [HLL.out] at hv hcl
    subst hv
    have hB6 := hB5.trans (hb6.mono hB5.size)
    have hT6 := hT5.below hb6 hT5.lt
    have HOF := Lib.hid (fun W => of_any none 0 0 [] rfl (by decide) (by decide) (by intro x hx; cases hx) W (fun i hi => absurd hi (by simp)))
    rw [ofM_nil] at HOF
    have hR6 := tab_run hT6
    clear hown hb6 hB5 hT5 hc5 HLV
    go_wp2_with fail
    refine (HOF.out _).mono ?_
    rintro e w7 ⟨v7, rfl, hv7, hb7⟩
    obtain ⟨ov, cv, hvv, hsv, _⟩ := hv7.formd
    subst hvv
    have hB7 := hB6.trans (hb7.mono hB6.size)
    have hT7 := hT6.below hb7 hT6.lt
    have hs7 := hs6.below hb7
    clear hR6 hB6 hT6 hs6 hb7 HOF
    obtain ⟨wz, hwz⟩ : ∃ wz, w7.alloc (.cells #[.int .i64 0, .slice ov 0 cv] 33) = wz := ⟨_, rfl⟩
    obtain ⟨gr, hgr⟩ : ∃ gr, w7.heap.size = gr := ⟨_, rfl⟩
    have hbz : Below w7.heap.size w7 wz := by rw [← hwz]; exact (Below.refl _ _).alloc (Nat.le_refl _) _
    have hRz : Blk wz gr 33 #[.int .i64 0, .slice ov 0 cv] := by rw [← hwz, ← hgr]; exact Blk.new _ _ _
    have hBz := hB7.trans (hbz.mono hB7.size)
    have hTz := hT7.below hbz hT7.lt
    have hsz := hs7.below hbz
    have hvz := hv7.below hbz
    have HWZ := Lib.hid hwz
    have hgs : wz.heap.size = gr + 1 := by rw [← hwz, ← hgr]; simp
    clear hwz hv7 hsv hTz hsz hBz
    have HZT := Lib.hid (fun i => hzl.take i)
    have HADD := Lib.hid (show ∀ (i : Nat) (hi : i < m) (o : Option Addr) (k c : Nat) (hk : (ofM (L.take i)).length = k) (h1 : k ≤ c) (h2 : o = none → k = 0 ∧ c = 0) (W : World) (_ : Strs W o (ofM (L.take i))), Calls Try.prog 18 #[.agg tabV, .agg #[.int .i64 i, .slice o k c], .string (L.getD i ByteArray.empty)] W (RP (i + 1) (ofM (L.take (i + 1))) W) from fun i hi o k c hk h1 h2 W hW => by
      have hl : (L.take i).length = i := by rw [List.length_take, HLL.out]; omega
      have hkk : k ≤ 64 := by
        rw [← hk, ofM_length, hl]
        have := strL_len 63 i (by have : (2 : Nat) ^ 63 = 9223372036854775808 := by decide
                                  omega)
        omega
      have h := add_any i (by omega) o k c (ofM (L.take i)) (L.getD i ByteArray.empty) hk (by omega) h1 h2 (sz_chk (hzl.take i)) (hzl.get i) W hW
      have e := putM_add (L.take i) (L.getD i ByteArray.empty)
      rw [hl] at e
      rw [e] at h
      have h3 : L.take i ++ [L.getD i ByteArray.empty] = L.take (i + 1) := by
        rw [List.take_succ_eq_append_getElem (by rw [HLL.out]; exact hi), List.getD_eq_getElem?_getD, List.getElem?_eq_getElem (by rw [HLL.out]; exact hi)]
        rfl
      rw [h3] at h
      exact h)
    have HROF := Lib.hid (show ∀ (j : Nat) (hj : j ≤ m) (W : World) (_ : Strs W ol L), Calls Try.prog 14 #[.slice ol j capl] W (RT (ofM (L.take j)) W) from fun j hj W hW => rof_any ol j capl (L.take j) (by rw [List.length_take, HLL.out]; omega) (by omega) (by omega) (hzl.take j) W (hW.take j))
    have HKB := Lib.hid (show ∀ i, i ≤ m → (ofM (L.take i)).length ≤ 64 from fun i hi => by
      rw [ofM_length, List.length_take, HLL.out, Nat.min_eq_left hi]
      have := strL_len 63 i (by have : (2 : Nat) ^ 63 = 9223372036854775808 := by decide
                                omega)
      omega)
    have HMR := Lib.hid (fun W hW => mroot_any m ol capl L HLL.out (by omega) hcl hzl W hW)
    have HRW := Lib.hid (fun o k c hk (hk2 : k ≤ 1000) b W hW => root_own (m : Int) o k c (ofM L) hk hk2 (sz_chk hzl) b W hW)
    rw [rtM_of L] at HRW
    have HLT := Lib.hid (show L.take m = L by rw [List.take_of_length_le]; have := HLL.out; omega)
    go_wp2_with (rw [HWZ.out])
    go_loopw [6] (fun vi wr => ∃ (i k b cv : Nat) (ov : Option Addr), vi = .int .i64 i ∧ i ≤ m ∧ Blk wr gr 33 #[.int .i64 i, .slice ov k cv] ∧ Own wr b (.slice ov k cv) (ofM (L.take i)) ∧ Below w7.heap.size w7 wr) (fun vi _ => m - (intOf vi).toNat)
    case atStart => exact ⟨0, 0, w6.heap.size, cv, ov, rfl, by omega, hRz, by rw [List.take_zero, ofM_nil]; exact hvz, hbz⟩
    case round =>
      obtain ⟨i, k, b, cv, ov, rfl, him, hRr, hown, hbr⟩ := hrel
      clear hRz hvz hbz HWZ
      have hTr := hT7.below hbr hT7.lt
      have hsr := hs7.below hbr
      have hBr := hB7.trans (hbr.mono hB7.size)
      obtain ⟨ov', cv', hvv, hsv, hkc, hnil⟩ := hown.formd
      have HKI := Lib.hid (show (ofM (L.take i)).length = k by injection hvv with h1 h2 h3; exact h2.symm)
      rw [HKI.out] at hvv hkc hnil
      injection hvv with h1 _ h3
      subst h1 h3
      have hk64 : k ≤ 64 := by rw [← HKI.out]; exact HKB.out i him
      by_cases hlt : i < m
      · have hlt' : (i : Int) < (m : Int) := by omega
        obtain ⟨wa, hwa⟩ : ∃ wa, wr.alloc (.cells #[] 9) = wa := ⟨_, rfl⟩
        have hba : Below wr.heap.size wr wa := by rw [← hwa]; exact (Below.refl _ _).alloc (Nat.le_refl _) _
        have hm0 : Own wa wr.heap.size (.slice (some ⟨wr.heap.size, 0, none⟩) 0 0) [] := by rw [← hwa]; exact World.ownsRow_made wr #[] 0 (Nat.le_refl _) (by unfold maxLen; omega) rfl
        obtain ⟨v1, w1, hr1, hown1, hg1, _⟩ := append_strs hm0 ov k cv HKI.out (hsv.below hba) hnil (by simp; omega) hba.size
        have hb1 := own_below2 hba hm0 (Nat.le_refl _) hg1
        rw [List.nil_append] at hown1
        obtain ⟨o1, c1, hv1, hs1, _⟩ := hown1.formd
        rw [HKI.out] at hv1
        subst hv1
        have HWA := Lib.hid hwa
        have hRa := hRr.below hba hRr.lt
        have ra := ld_sl (hRa.cell 1)
        have hR1 := hRr.below hb1 hRr.lt
        have hT1 := hTr.below hb1 hTr.lt
        have hs1L := hsr.below hb1
        have hsv1 := hsv.below hb1
        obtain ⟨a, rfl, hab, hcell⟩ := hs1L i (by have := HLL.out; omega)
        have HA1 := Lib.hid (fun W hW => HADD.out i hlt ov k cv HKI.out hkc hnil W hW)
        obtain ⟨j, hj⟩ : ∃ j, i + 1 = j := ⟨_, rfl⟩
        rw [hj] at HA1
        have hji : (i : Int) + 1 = (j : Int) := by omega
        have hjm : j ≤ m := by omega
        have hjw : IntKind.i64.wrap (j : Int) = (j : Int) := by rw [IntKind.wrap_i64]; omega
        have hjc : (j : Int) ≤ (capl : Int) := by omega
        obtain ⟨kx, hkx⟩ : ∃ kx, (ofM (L.take j)).length = kx := ⟨_, rfl⟩
        have HKX := Lib.hid hkx
        have hkx64 : kx ≤ 64 := by rw [← hkx]; exact HKB.out j hjm
        have HRJ := Lib.hid (fun W hW => HROF.out j hjm W hW)
        have HSM1 := Lib.hid (fun W hW hW' => rsame_eq ov o1 k cv c1 (ofM (L.take i)) HKI.out (by omega) W hW hW')
        have HSM2 := Lib.hid (fun ox ob cx cap' W hW hW' => rsame_eq ox ob kx cx cap' (ofM (L.take j)) hkx (by omega) W hW hW')
        generalize L.getD i ByteArray.empty = x at *
        have HKP := Lib.hid (show ∀ W, Below w1.heap.size w1 W → ((loadVar 29 ⟨gt, 0, none⟩).run Try.prog W = .ok (.agg tabV) W ∧ (loadVar 33 ⟨gr, 0, none⟩).run Try.prog W = .ok (.agg #[.int .i64 i, .slice ov k cv]) W ∧ (loadVar 9 (a.add i)).run Try.prog W = .ok (.string x) W) ∧ Below w1.heap.size w1 W from fun W hW => ⟨⟨tab_run (hT1.below hW hT1.lt), ld_rng (hR1.below hW hR1.lt), txt_load ((hW.cell (by rw [add_block]; exact hab)).trans hcell)⟩, hW⟩)
        have hsl := slice_to (some a) m capl j (by omega)
        have hbr1 := hbr.trans (hb1.mono hbr.size)
        have hgr1 : gr < w1.heap.size := hR1.lt
        clear hwa hm0 hg1 hown hown1 hba hTr hsr hBr hj hkx hRa hRr hsv hcell
        go_wp2_with (first | rw [HWA.out] | (at_builtin; refine Lib.wpList_append_run _ rfl _ _ 22 22 rfl _ _ rfl rfl _ _ hr1 ?_))
        refine wp_region_held_drew (S := fun W => ((loadVar 29 ⟨gt, 0, none⟩).run Try.prog W = .ok (.agg tabV) W ∧ (loadVar 33 ⟨gr, 0, none⟩).run Try.prog W = .ok (.agg #[.int .i64 i, .slice ov k cv]) W ∧ (loadVar 9 (a.add i)).run Try.prog W = .ok (.string x) W) ∧ Below w1.heap.size w1 W) (by kernel_rfl) ?_ (fun hHeld0 => ?_)
        · (refine HKP.out _ ?_; first | exact hbD | exact hbC | exact hbB | exact hbA | exact (Below.refl _ _).drew | exact Below.refl _ _)
        apply takeH (i := 0) rfl (by kernel_rfl) (by kernel_rfl) (by kernel_rfl) (fun _ _ _ h => h) (by rfl)
        case hy => (intro w hSw; (try dsimp only at hSw); go_simp; try with_reducible rfl)
        case hS => assumption
        (try simp only [Act.put, List.setIfInBounds_toArray, List.set_cons_zero, List.set_cons_succ])
        apply takeH (i := 1) rfl (by kernel_rfl) (by kernel_rfl) (by kernel_rfl) (fun _ _ _ h => h) (by rfl)
        case hy => (intro w hSw; (try dsimp only at hSw); go_simp; try with_reducible rfl)
        case hS => assumption
        (try simp only [Act.put, List.setIfInBounds_toArray, List.set_cons_zero, List.set_cons_succ])
        apply takeH (i := 2) rfl (by kernel_rfl) (by kernel_rfl) (by kernel_rfl) (fun _ _ _ h => h) (by rfl)
        case hy => (intro w hSw; (try dsimp only at hSw); go_simp; try with_reducible rfl)
        case hS => assumption
        (try simp only [Act.put, List.setIfInBounds_toArray, List.set_cons_zero, List.set_cons_succ])
        apply takeH (i := 3) rfl (by kernel_rfl) (by kernel_rfl) (by kernel_rfl) (fun _ _ _ h => h) (by rfl)
        case hy => (intro w hSw; (try dsimp only at hSw); go_simp; try with_reducible rfl)
        case hS => assumption
        (try simp only [Act.put, List.setIfInBounds_toArray, List.set_cons_zero, List.set_cons_succ])
        apply takeH (i := 4) rfl (by kernel_rfl) (by kernel_rfl) (by kernel_rfl) (fun _ _ _ h => h) (by rfl)
        case hy => (intro w hSw; (try dsimp only at hSw); go_simp; try with_reducible rfl)
        case hS => assumption
        (try simp only [Act.put, List.setIfInBounds_toArray, List.set_cons_zero, List.set_cons_succ])
        apply takeH (i := 5) rfl (by kernel_rfl) (by kernel_rfl) (by kernel_rfl) (fun _ _ _ h => h) (by rfl)
        case hy => (intro w hSw; (try dsimp only at hSw); go_simp; try with_reducible rfl)
        case hS => assumption
        (try simp only [Act.put, List.setIfInBounds_toArray, List.set_cons_zero, List.set_cons_succ])
        refine doH2 (i := 6) (j := 7) rfl rfl (by kernel_rfl) (by rfl) (by rfl) (fun K hK => ?_) (fun K hK => ?_)
        · go_simp
          refine (HA1.out _ (hsv1.below hHeld0.2)).mono ?_
          rintro e w6' ⟨v6, rfl, hv6, hb6'⟩
          obtain ⟨ox, cx, hvx, hsx, hkcx, hnilx⟩ := hv6.formd
          rw [HKX.out] at hvx hkcx hnilx
          subst hvx
          have hbA : Below w1.heap.size w1 w6' := hHeld0.2.trans (hb6'.mono hHeld0.2.size)
          have hbB := hbA.alloc hbA.size (.cells #[.int .i64 0, .slice none 0 0] 33)
          go_wp2_with fail
          refine hK.out _ _ ?_ (fun hHeld6 => ?_)
          · (refine HKP.out _ ?_; first | exact hbD | exact hbC | exact hbB | exact hbA | exact (Below.refl _ _).drew | exact Below.refl _ _)
          clear hK K
          (try simp only [Act.put, List.setIfInBounds_toArray, List.set_cons_zero, List.set_cons_succ])
          refine doH (i := 7) rfl (by kernel_rfl) (by rfl) (fun K hK => ?_)
          go_simp
          refine hK.out _ _ ?_ (fun hHeld7 => ?_)
          · (refine HKP.out _ ?_; first | exact hbD | exact hbC | exact hbB | exact hbA | exact (Below.refl _ _).drew | exact Below.refl _ _)
          clear hK K
          (try simp only [Act.put, List.setIfInBounds_toArray, List.set_cons_zero, List.set_cons_succ])
          refine doH (i := 8) rfl (by kernel_rfl) (by rfl) (fun K hK => ?_)
          go_simp
          have hbC := hbA.alloc hbA.size (.cells #[.int .i64 j, .slice ox kx cx] 33)
          have hXE : Blk (w6'.alloc (.cells #[.int .i64 j, .slice ox kx cx] 33)) w6'.heap.size 33 #[.int .i64 j, .slice ox kx cx] := Blk.new _ _ _
          have hOE : Own (w6'.alloc (.cells #[.int .i64 j, .slice ox kx cx] 33)) w1.heap.size (.slice ox kx cx) (ofM (L.take j)) := World.ownsRow.alloc hv6 _
          obtain ⟨wE, hwE⟩ : ∃ wE, w6'.alloc (.cells #[.int .i64 j, .slice ox kx cx] 33) = wE := ⟨_, rfl⟩
          obtain ⟨gx, hgx⟩ : ∃ gx, w6'.heap.size = gx := ⟨_, rfl⟩
          rw [hwE] at hbC hXE hOE ⊢
          rw [hgx] at hXE ⊢
          refine hK.out _ _ ?_ (fun hHeld8 => ?_)
          · (refine HKP.out _ ?_; first | exact hbD | exact hbC | exact hbB | exact hbA | exact (Below.refl _ _).drew | exact Below.refl _ _)
          clear hK K
          (try simp only [Act.put, List.setIfInBounds_toArray, List.set_cons_zero, List.set_cons_succ])
          refine wpAnyH_done (by kernel_rfl) ?_ _
          have hsxE := hOE.strs
          have hsvE := hsv1.below hbC
          have hs1E := hs1.below hbC
          have hsLE := hs1L.below hbC
          have hRE := hR1.below hbC hR1.lt
          have hbrE := hbr1.trans (hbC.mono hbr1.size)
          have HKQ := Lib.hid (show ∀ W, Below wE.heap.size wE W → ((loadVar 22 ⟨gr, 1, none⟩).run Try.prog W = .ok (.slice ov k cv) W ∧ (loadVar 3 ⟨gx, 0, none⟩).run Try.prog W = .ok (.int .i64 j) W ∧ (loadVar 22 ⟨gx, 1, none⟩).run Try.prog W = .ok (.slice ox kx cx) W) ∧ Below wE.heap.size wE W from fun W hW => ⟨⟨ld_sl ((hRE.below hW hRE.lt).cell 1), ld_int ((hXE.below hW hXE.lt).cell 0), ld_sl ((hXE.below hW hXE.lt).cell 1)⟩, hW⟩)
          clear hwE hgx hHeld8
          go_wp2
          refine wp_region_held_drew (S := fun W => ((loadVar 22 ⟨gr, 1, none⟩).run Try.prog W = .ok (.slice ov k cv) W ∧ (loadVar 3 ⟨gx, 0, none⟩).run Try.prog W = .ok (.int .i64 j) W ∧ (loadVar 22 ⟨gx, 1, none⟩).run Try.prog W = .ok (.slice ox kx cx) W) ∧ Below wE.heap.size wE W) (by kernel_rfl) ?_ (fun hHeld0 => ?_)
          · (refine HKQ.out _ ?_; first | exact hbH | exact hbG | exact hbF | exact (Below.refl _ _).drew | exact Below.refl _ _)
          apply takeH (i := 0) rfl (by kernel_rfl) (by kernel_rfl) (by kernel_rfl) (fun _ _ _ h => h) (by rfl)
          case hy => (intro w hSw; (try dsimp only at hSw); go_simp; try with_reducible rfl)
          case hS => assumption
          (try simp only [Act.put, List.setIfInBounds_toArray, List.set_cons_zero, List.set_cons_succ])
          apply takeH (i := 1) rfl (by kernel_rfl) (by kernel_rfl) (by kernel_rfl) (fun _ _ _ h => h) (by rfl)
          case hy => (intro w hSw; (try dsimp only at hSw); go_simp; try with_reducible rfl)
          case hS => assumption
          (try simp only [Act.put, List.setIfInBounds_toArray, List.set_cons_zero, List.set_cons_succ])
          apply takeH (i := 2) rfl (by kernel_rfl) (by kernel_rfl) (by kernel_rfl) (fun _ _ _ h => h) (by rfl)
          case hy => (intro w hSw; (try dsimp only at hSw); go_simp; try with_reducible rfl)
          case hS => assumption
          (try simp only [Act.put, List.setIfInBounds_toArray, List.set_cons_zero, List.set_cons_succ])
          refine doH (i := 3) rfl (by kernel_rfl) (by rfl) (fun K hK => ?_)
          go_simp
          refine (HSM1.out _ (hsvE.below hHeld0.2) (hs1E.below hHeld0.2)).mono ?_
          rintro e wF ⟨rfl, hbF'⟩
          have hbF : Below wE.heap.size wE wF := hHeld0.2.trans (hbF'.mono hHeld0.2.size)
          go_wp2_with fail
          refine hK.out _ _ ?_ (fun hHeld3 => ?_)
          · (refine HKQ.out _ ?_; first | exact hbH | exact hbG | exact hbF | exact (Below.refl _ _).drew | exact Below.refl _ _)
          clear hK K
          (try simp only [Act.put, List.setIfInBounds_toArray, List.set_cons_zero, List.set_cons_succ])
          apply takeH (i := 4) rfl (by kernel_rfl) (by kernel_rfl) (by kernel_rfl) (fun _ _ _ h => h) (by rfl)
          case hy => (intro w hSw; (try dsimp only at hSw); go_simp; try with_reducible rfl)
          case hS => assumption
          (try simp only [Act.put, List.setIfInBounds_toArray, List.set_cons_zero, List.set_cons_succ])
          apply takeH (i := 5) rfl (by kernel_rfl) (by kernel_rfl) (by kernel_rfl) (fun _ _ _ h => h) (by rfl)
          case hy => (intro w hSw; (try dsimp only at hSw); go_simp; try with_reducible rfl)
          case hS => assumption
          (try simp only [Act.put, List.setIfInBounds_toArray, List.set_cons_zero, List.set_cons_succ])
          apply takeH (i := 6) rfl (by kernel_rfl) (by kernel_rfl) (by kernel_rfl) (fun _ _ _ h => h) (by rfl)
          case hy => (intro w hSw; (try dsimp only at hSw); go_simp; try with_reducible rfl)
          case hS => assumption
          (try simp only [Act.put, List.setIfInBounds_toArray, List.set_cons_zero, List.set_cons_succ])
          apply takeH (i := 7) rfl (by kernel_rfl) (by kernel_rfl) (by kernel_rfl) (fun _ _ _ h => h) (by rfl)
          case hy => (intro w hSw; (try dsimp only at hSw); go_simp; try with_reducible rfl)
          case hS => assumption
          (try simp only [Act.put, List.setIfInBounds_toArray, List.set_cons_zero, List.set_cons_succ])
          apply takeH (i := 8) rfl (by kernel_rfl) (by kernel_rfl) (by kernel_rfl) (fun _ _ _ h => h) (by rfl)
          case hy => (intro w hSw; (try dsimp only at hSw); go_simp; try with_reducible rfl)
          case hS => assumption
          (try simp only [Act.put, List.setIfInBounds_toArray, List.set_cons_zero, List.set_cons_succ])
          apply takeH (i := 9) rfl (by kernel_rfl) (by kernel_rfl) (by kernel_rfl) (fun _ _ _ h => h) (by rfl)
          case hy => (intro w hSw; (try dsimp only at hSw); go_simp; try with_reducible rfl)
          case hS => assumption
          (try simp only [Act.put, List.setIfInBounds_toArray, List.set_cons_zero, List.set_cons_succ])
          apply takeH (i := 10) rfl (by kernel_rfl) (by kernel_rfl) (by kernel_rfl) (fun _ _ _ h => h) (by rfl)
          case hy => (intro w hSw; (try dsimp only at hSw); go_simp; try with_reducible rfl)
          case hS => assumption
          (try simp only [Act.put, List.setIfInBounds_toArray, List.set_cons_zero, List.set_cons_succ])
          apply takeH (i := 11) rfl (by kernel_rfl) (by kernel_rfl) (by kernel_rfl) (fun _ _ _ h => h) (by rfl)
          case hy => (intro w hSw; (try dsimp only at hSw); go_simp; try with_reducible rfl)
          case hS => assumption
          (try simp only [Act.put, List.setIfInBounds_toArray, List.set_cons_zero, List.set_cons_succ])
          apply takeH (i := 12) rfl (by kernel_rfl) (by kernel_rfl) (by kernel_rfl) (fun _ _ _ h => h) (by rfl)
          case hy => (intro w hSw; (try dsimp only at hSw); go_simp; try with_reducible rfl)
          case hS => assumption
          (try simp only [Act.put, List.setIfInBounds_toArray, List.set_cons_zero, List.set_cons_succ])
          apply takeH (i := 13) rfl (by kernel_rfl) (by kernel_rfl) (by kernel_rfl) (fun _ _ _ h => h) (by rfl)
          case hy => (intro w hSw; (try dsimp only at hSw); go_simp; try with_reducible rfl)
          case hS => assumption
          (try simp only [Act.put, List.setIfInBounds_toArray, List.set_cons_zero, List.set_cons_succ])
          apply takeH (i := 14) rfl (by kernel_rfl) (by kernel_rfl) (by kernel_rfl) (fun _ _ _ h => h) (by rfl)
          case hy => (intro w hSw; (try dsimp only at hSw); go_simp; try with_reducible rfl)
          case hS => assumption
          (try simp only [Act.put, List.setIfInBounds_toArray, List.set_cons_zero, List.set_cons_succ])
          apply takeH (i := 15) rfl (by kernel_rfl) (by kernel_rfl) (by kernel_rfl) (fun _ _ _ h => h) (by rfl)
          case hy => (intro w hSw; (try dsimp only at hSw); go_simp; try with_reducible rfl)
          case hS => assumption
          (try simp only [Act.put, List.setIfInBounds_toArray, List.set_cons_zero, List.set_cons_succ])
          apply takeH (i := 16) rfl (by kernel_rfl) (by kernel_rfl) (by kernel_rfl) (fun _ _ _ h => h) (by rfl)
          case hy => (intro w hSw; (try dsimp only at hSw); go_simp; try with_reducible rfl)
          case hS => assumption
          (try simp only [Act.put, List.setIfInBounds_toArray, List.set_cons_zero, List.set_cons_succ])
          apply takeH (i := 17) rfl (by kernel_rfl) (by kernel_rfl) (by kernel_rfl) (fun _ _ _ h => h) (by rfl)
          case hy => (intro w hSw; (try dsimp only at hSw); go_simp; try with_reducible rfl)
          case hS => assumption
          (try simp only [Act.put, List.setIfInBounds_toArray, List.set_cons_zero, List.set_cons_succ])
          apply takeH (i := 18) rfl (by kernel_rfl) (by kernel_rfl) (by kernel_rfl) (fun _ _ _ h => h) (by rfl)
          case hy => (intro w hSw; (try dsimp only at hSw); go_simp; try with_reducible rfl)
          case hS => assumption
          (try simp only [Act.put, List.setIfInBounds_toArray, List.set_cons_zero, List.set_cons_succ])
          refine doH (i := 19) rfl (by kernel_rfl) (by rfl) (fun K hK => ?_)
          go_simp
          refine (HRJ.out _ (hsLE.below hbF)).mono ?_
          rintro e wG ⟨vG, rfl, hvG, hbG'⟩
          obtain ⟨og, cg, hvg, hsg, _⟩ := hvG.formd
          rw [HKX.out] at hvg
          subst hvg
          have hbG : Below wE.heap.size wE wG := hbF.trans (hbG'.mono hbF.size)
          go_wp2_with fail
          refine hK.out _ _ ?_ (fun hHeld19 => ?_)
          · (refine HKQ.out _ ?_; first | exact hbH | exact hbG | exact hbF | exact (Below.refl _ _).drew | exact Below.refl _ _)
          clear hK K
          (try simp only [Act.put, List.setIfInBounds_toArray, List.set_cons_zero, List.set_cons_succ])
          refine doH (i := 20) rfl (by kernel_rfl) (by rfl) (fun K hK => ?_)
          go_simp
          refine (HSM2.out _ _ _ _ _ (hsxE.below hbG) hsg).mono ?_
          rintro e wH ⟨rfl, hbH'⟩
          have hbH : Below wE.heap.size wE wH := hbG.trans (hbH'.mono hbG.size)
          go_wp2_with fail
          refine hK.out _ _ ?_ (fun hHeld20 => ?_)
          · (refine HKQ.out _ ?_; first | exact hbH | exact hbG | exact hbF | exact (Below.refl _ _).drew | exact Below.refl _ _)
          clear hK K
          (try simp only [Act.put, List.setIfInBounds_toArray, List.set_cons_zero, List.set_cons_succ])
          apply takeH (i := 21) rfl (by kernel_rfl) (by kernel_rfl) (by kernel_rfl) (fun _ _ _ h => h) (by rfl)
          case hy => (intro w hSw; (try dsimp only at hSw); go_simp; try with_reducible rfl)
          case hS => assumption
          (try simp only [Act.put, List.setIfInBounds_toArray, List.set_cons_zero, List.set_cons_succ])
          apply takeH (i := 22) rfl (by kernel_rfl) (by kernel_rfl) (by kernel_rfl) (fun _ _ _ h => h) (by rfl)
          case hy => (intro w hSw; (try dsimp only at hSw); go_simp; try with_reducible rfl)
          case hS => assumption
          (try simp only [Act.put, List.setIfInBounds_toArray, List.set_cons_zero, List.set_cons_succ])
          refine wpAnyH_done (by kernel_rfl) ?_ _
          have hXH := hXE.below hbH hXE.lt
          have hRH := hRE.below hbH hRE.lt
          have hOH := hOE.below hbH
          have hbrH := hbrE.trans (hbH.mono hbrE.size)
          have q1 := ld_rng hXH
          have s0 : wH.cell? ⟨gr, 0, none⟩ = some (.int .i64 i) := hRH.cell 0
          have s1 : wH.cell? ⟨gr, 1, none⟩ = some (.slice ov k cv) := hRH.cell 1
          have f2 := hRH.frozen 0
          have f3 := hRH.frozen 1
          have HRN := Lib.hid ((hRH.set_ 0 (.int .i64 j)).set_ 1 (.slice ox kx cx))
          have HON := Lib.hid (own_far (own_far hOH (p := ⟨gr, 0, none⟩) hgr1 (.int .i64 j)) (p := ⟨gr, 1, none⟩) hgr1 (.slice ox kx cx))
          have HBN := Lib.hid ((hbrH.setCell (p := ⟨gr, 0, none⟩) (by show w7.heap.size ≤ gr; omega) (.int .i64 j)).setCell (p := ⟨gr, 1, none⟩) (by show w7.heap.size ≤ gr; omega) (.slice ox kx cx))
          clear HKP HKQ hXE hRE hOE hbC hbH hbG hbF hsvE hs1E hsLE hsxE hbrE hXH hRH hOH hbrH
          go_wp2
          go_roundw
          case rel => exact ⟨j, kx, w1.heap.size, cx, ox, by go_num, hjm, HRN.out, HON.out, HBN.out⟩
          case measure => simp [intOf]; omega
        · have hbB : Below w1.heap.size w1 (w1.drew.alloc (.cells #[.int .i64 0, .slice none 0 0] 33)) := (Below.refl _ _).drew.alloc (Nat.le_refl _) _
          go_simp
          refine hK.out _ _ ?_ (fun hHeld7 => ?_)
          · (refine HKP.out _ ?_; first | exact hbD | exact hbC | exact hbB | exact hbA | exact (Below.refl _ _).drew | exact Below.refl _ _)
          clear hK K
          (try simp only [Act.put, List.setIfInBounds_toArray, List.set_cons_zero, List.set_cons_succ])
          refine doH (i := 6) rfl (by kernel_rfl) (by rfl) (fun K hK => ?_)
          go_simp
          refine (HA1.out _ (hsv1.below hHeld7.2)).mono ?_
          rintro e w6' ⟨v6, rfl, hv6, hb6'⟩
          obtain ⟨ox, cx, hvx, hsx, hkcx, hnilx⟩ := hv6.formd
          rw [HKX.out] at hvx hkcx hnilx
          subst hvx
          have hbA : Below w1.heap.size w1 w6' := hbB.trans (hb6'.mono hbB.size)
          have hX6 : Blk w6' w1.heap.size 33 #[.int .i64 0, .slice none 0 0] := Blk.below (show Blk (w1.drew.alloc (.cells #[.int .i64 0, .slice none 0 0] 33)) w1.heap.size 33 #[.int .i64 0, .slice none 0 0] from Blk.new w1.drew _ _) hb6' (by simp)
          have c0 : w6'.cell? ⟨w1.heap.size, 0, none⟩ = some (.int .i64 0) := hX6.cell 0
          have c1' : w6'.cell? ⟨w1.heap.size, 1, none⟩ = some (.slice none 0 0) := hX6.cell 1
          have f0 := hX6.frozen 0
          have f1 := hX6.frozen 1
          go_wp2_with fail
          refine hK.out _ _ ?_ (fun hHeld6 => ?_)
          · (refine HKP.out _ ?_; first | exact hbD | exact hbC | exact hbB | exact hbA | exact (Below.refl _ _).drew | exact Below.refl _ _)
          clear hK K
          (try simp only [Act.put, List.setIfInBounds_toArray, List.set_cons_zero, List.set_cons_succ])
          refine doH (i := 8) rfl (by kernel_rfl) (by rfl) (fun K hK => ?_)
          go_simp
          have hbC := (hbA.setCell (p := ⟨w1.heap.size, 0, none⟩) (Nat.le_refl _) (.int .i64 j)).setCell (p := ⟨w1.heap.size, 1, none⟩) (Nat.le_refl _) (.slice ox kx cx)
          have hXE : Blk ((w6'.setCell ⟨w1.heap.size, 0, none⟩ (.int .i64 j)).setCell ⟨w1.heap.size, 1, none⟩ (.slice ox kx cx)) w1.heap.size 33 #[.int .i64 j, .slice ox kx cx] := (hX6.set_ 0 (.int .i64 j)).set_ 1 (.slice ox kx cx)
          have hOE : Own ((w6'.setCell ⟨w1.heap.size, 0, none⟩ (.int .i64 j)).setCell ⟨w1.heap.size, 1, none⟩ (.slice ox kx cx)) w1.heap.size (.slice ox kx cx) (ofM (L.take j)) := (own_far (own_far hv6 (p := ⟨w1.heap.size, 0, none⟩) (by simp) (.int .i64 j)) (p := ⟨w1.heap.size, 1, none⟩) (by simp) (.slice ox kx cx)).mono (by simp)
          obtain ⟨wE, hwE⟩ : ∃ wE, (w6'.setCell ⟨w1.heap.size, 0, none⟩ (.int .i64 j)).setCell ⟨w1.heap.size, 1, none⟩ (.slice ox kx cx) = wE := ⟨_, rfl⟩
          obtain ⟨gx, hgx⟩ : ∃ gx, w1.heap.size = gx := ⟨_, rfl⟩
          rw [hwE] at hbC hXE hOE ⊢
          rw [hgx] at hXE ⊢
          refine hK.out _ _ ?_ (fun hHeld8 => ?_)
          · (refine HKP.out _ ?_; first | exact hbD | exact hbC | exact hbB | exact hbA | exact (Below.refl _ _).drew | exact Below.refl _ _)
          clear hK K
          (try simp only [Act.put, List.setIfInBounds_toArray, List.set_cons_zero, List.set_cons_succ])
          refine wpAnyH_done (by kernel_rfl) ?_ _
          have hsxE := hOE.strs
          have hsvE := hsv1.below hbC
          have hs1E := hs1.below hbC
          have hsLE := hs1L.below hbC
          have hRE := hR1.below hbC hR1.lt
          have hbrE := hbr1.trans (hbC.mono hbr1.size)
          have HKQ := Lib.hid (show ∀ W, Below wE.heap.size wE W → ((loadVar 22 ⟨gr, 1, none⟩).run Try.prog W = .ok (.slice ov k cv) W ∧ (loadVar 3 ⟨gx, 0, none⟩).run Try.prog W = .ok (.int .i64 j) W ∧ (loadVar 22 ⟨gx, 1, none⟩).run Try.prog W = .ok (.slice ox kx cx) W) ∧ Below wE.heap.size wE W from fun W hW => ⟨⟨ld_sl ((hRE.below hW hRE.lt).cell 1), ld_int ((hXE.below hW hXE.lt).cell 0), ld_sl ((hXE.below hW hXE.lt).cell 1)⟩, hW⟩)
          clear hwE hgx hHeld8
          go_wp2
          refine wp_region_held_drew (S := fun W => ((loadVar 22 ⟨gr, 1, none⟩).run Try.prog W = .ok (.slice ov k cv) W ∧ (loadVar 3 ⟨gx, 0, none⟩).run Try.prog W = .ok (.int .i64 j) W ∧ (loadVar 22 ⟨gx, 1, none⟩).run Try.prog W = .ok (.slice ox kx cx) W) ∧ Below wE.heap.size wE W) (by kernel_rfl) ?_ (fun hHeld0 => ?_)
          · (refine HKQ.out _ ?_; first | exact hbH | exact hbG | exact hbF | exact (Below.refl _ _).drew | exact Below.refl _ _)
          apply takeH (i := 0) rfl (by kernel_rfl) (by kernel_rfl) (by kernel_rfl) (fun _ _ _ h => h) (by rfl)
          case hy => (intro w hSw; (try dsimp only at hSw); go_simp; try with_reducible rfl)
          case hS => assumption
          (try simp only [Act.put, List.setIfInBounds_toArray, List.set_cons_zero, List.set_cons_succ])
          apply takeH (i := 1) rfl (by kernel_rfl) (by kernel_rfl) (by kernel_rfl) (fun _ _ _ h => h) (by rfl)
          case hy => (intro w hSw; (try dsimp only at hSw); go_simp; try with_reducible rfl)
          case hS => assumption
          (try simp only [Act.put, List.setIfInBounds_toArray, List.set_cons_zero, List.set_cons_succ])
          apply takeH (i := 2) rfl (by kernel_rfl) (by kernel_rfl) (by kernel_rfl) (fun _ _ _ h => h) (by rfl)
          case hy => (intro w hSw; (try dsimp only at hSw); go_simp; try with_reducible rfl)
          case hS => assumption
          (try simp only [Act.put, List.setIfInBounds_toArray, List.set_cons_zero, List.set_cons_succ])
          refine doH (i := 3) rfl (by kernel_rfl) (by rfl) (fun K hK => ?_)
          go_simp
          refine (HSM1.out _ (hsvE.below hHeld0.2) (hs1E.below hHeld0.2)).mono ?_
          rintro e wF ⟨rfl, hbF'⟩
          have hbF : Below wE.heap.size wE wF := hHeld0.2.trans (hbF'.mono hHeld0.2.size)
          go_wp2_with fail
          refine hK.out _ _ ?_ (fun hHeld3 => ?_)
          · (refine HKQ.out _ ?_; first | exact hbH | exact hbG | exact hbF | exact (Below.refl _ _).drew | exact Below.refl _ _)
          clear hK K
          (try simp only [Act.put, List.setIfInBounds_toArray, List.set_cons_zero, List.set_cons_succ])
          apply takeH (i := 4) rfl (by kernel_rfl) (by kernel_rfl) (by kernel_rfl) (fun _ _ _ h => h) (by rfl)
          case hy => (intro w hSw; (try dsimp only at hSw); go_simp; try with_reducible rfl)
          case hS => assumption
          (try simp only [Act.put, List.setIfInBounds_toArray, List.set_cons_zero, List.set_cons_succ])
          apply takeH (i := 5) rfl (by kernel_rfl) (by kernel_rfl) (by kernel_rfl) (fun _ _ _ h => h) (by rfl)
          case hy => (intro w hSw; (try dsimp only at hSw); go_simp; try with_reducible rfl)
          case hS => assumption
          (try simp only [Act.put, List.setIfInBounds_toArray, List.set_cons_zero, List.set_cons_succ])
          apply takeH (i := 6) rfl (by kernel_rfl) (by kernel_rfl) (by kernel_rfl) (fun _ _ _ h => h) (by rfl)
          case hy => (intro w hSw; (try dsimp only at hSw); go_simp; try with_reducible rfl)
          case hS => assumption
          (try simp only [Act.put, List.setIfInBounds_toArray, List.set_cons_zero, List.set_cons_succ])
          apply takeH (i := 7) rfl (by kernel_rfl) (by kernel_rfl) (by kernel_rfl) (fun _ _ _ h => h) (by rfl)
          case hy => (intro w hSw; (try dsimp only at hSw); go_simp; try with_reducible rfl)
          case hS => assumption
          (try simp only [Act.put, List.setIfInBounds_toArray, List.set_cons_zero, List.set_cons_succ])
          apply takeH (i := 8) rfl (by kernel_rfl) (by kernel_rfl) (by kernel_rfl) (fun _ _ _ h => h) (by rfl)
          case hy => (intro w hSw; (try dsimp only at hSw); go_simp; try with_reducible rfl)
          case hS => assumption
          (try simp only [Act.put, List.setIfInBounds_toArray, List.set_cons_zero, List.set_cons_succ])
          apply takeH (i := 9) rfl (by kernel_rfl) (by kernel_rfl) (by kernel_rfl) (fun _ _ _ h => h) (by rfl)
          case hy => (intro w hSw; (try dsimp only at hSw); go_simp; try with_reducible rfl)
          case hS => assumption
          (try simp only [Act.put, List.setIfInBounds_toArray, List.set_cons_zero, List.set_cons_succ])
          apply takeH (i := 10) rfl (by kernel_rfl) (by kernel_rfl) (by kernel_rfl) (fun _ _ _ h => h) (by rfl)
          case hy => (intro w hSw; (try dsimp only at hSw); go_simp; try with_reducible rfl)
          case hS => assumption
          (try simp only [Act.put, List.setIfInBounds_toArray, List.set_cons_zero, List.set_cons_succ])
          apply takeH (i := 11) rfl (by kernel_rfl) (by kernel_rfl) (by kernel_rfl) (fun _ _ _ h => h) (by rfl)
          case hy => (intro w hSw; (try dsimp only at hSw); go_simp; try with_reducible rfl)
          case hS => assumption
          (try simp only [Act.put, List.setIfInBounds_toArray, List.set_cons_zero, List.set_cons_succ])
          apply takeH (i := 12) rfl (by kernel_rfl) (by kernel_rfl) (by kernel_rfl) (fun _ _ _ h => h) (by rfl)
          case hy => (intro w hSw; (try dsimp only at hSw); go_simp; try with_reducible rfl)
          case hS => assumption
          (try simp only [Act.put, List.setIfInBounds_toArray, List.set_cons_zero, List.set_cons_succ])
          apply takeH (i := 13) rfl (by kernel_rfl) (by kernel_rfl) (by kernel_rfl) (fun _ _ _ h => h) (by rfl)
          case hy => (intro w hSw; (try dsimp only at hSw); go_simp; try with_reducible rfl)
          case hS => assumption
          (try simp only [Act.put, List.setIfInBounds_toArray, List.set_cons_zero, List.set_cons_succ])
          apply takeH (i := 14) rfl (by kernel_rfl) (by kernel_rfl) (by kernel_rfl) (fun _ _ _ h => h) (by rfl)
          case hy => (intro w hSw; (try dsimp only at hSw); go_simp; try with_reducible rfl)
          case hS => assumption
          (try simp only [Act.put, List.setIfInBounds_toArray, List.set_cons_zero, List.set_cons_succ])
          apply takeH (i := 15) rfl (by kernel_rfl) (by kernel_rfl) (by kernel_rfl) (fun _ _ _ h => h) (by rfl)
          case hy => (intro w hSw; (try dsimp only at hSw); go_simp; try with_reducible rfl)
          case hS => assumption
          (try simp only [Act.put, List.setIfInBounds_toArray, List.set_cons_zero, List.set_cons_succ])
          apply takeH (i := 16) rfl (by kernel_rfl) (by kernel_rfl) (by kernel_rfl) (fun _ _ _ h => h) (by rfl)
          case hy => (intro w hSw; (try dsimp only at hSw); go_simp; try with_reducible rfl)
          case hS => assumption
          (try simp only [Act.put, List.setIfInBounds_toArray, List.set_cons_zero, List.set_cons_succ])
          apply takeH (i := 17) rfl (by kernel_rfl) (by kernel_rfl) (by kernel_rfl) (fun _ _ _ h => h) (by rfl)
          case hy => (intro w hSw; (try dsimp only at hSw); go_simp; try with_reducible rfl)
          case hS => assumption
          (try simp only [Act.put, List.setIfInBounds_toArray, List.set_cons_zero, List.set_cons_succ])
          apply takeH (i := 18) rfl (by kernel_rfl) (by kernel_rfl) (by kernel_rfl) (fun _ _ _ h => h) (by rfl)
          case hy => (intro w hSw; (try dsimp only at hSw); go_simp; try with_reducible rfl)
          case hS => assumption
          (try simp only [Act.put, List.setIfInBounds_toArray, List.set_cons_zero, List.set_cons_succ])
          refine doH (i := 19) rfl (by kernel_rfl) (by rfl) (fun K hK => ?_)
          go_simp
          refine (HRJ.out _ (hsLE.below hbF)).mono ?_
          rintro e wG ⟨vG, rfl, hvG, hbG'⟩
          obtain ⟨og, cg, hvg, hsg, _⟩ := hvG.formd
          rw [HKX.out] at hvg
          subst hvg
          have hbG : Below wE.heap.size wE wG := hbF.trans (hbG'.mono hbF.size)
          go_wp2_with fail
          refine hK.out _ _ ?_ (fun hHeld19 => ?_)
          · (refine HKQ.out _ ?_; first | exact hbH | exact hbG | exact hbF | exact (Below.refl _ _).drew | exact Below.refl _ _)
          clear hK K
          (try simp only [Act.put, List.setIfInBounds_toArray, List.set_cons_zero, List.set_cons_succ])
          refine doH (i := 20) rfl (by kernel_rfl) (by rfl) (fun K hK => ?_)
          go_simp
          refine (HSM2.out _ _ _ _ _ (hsxE.below hbG) hsg).mono ?_
          rintro e wH ⟨rfl, hbH'⟩
          have hbH : Below wE.heap.size wE wH := hbG.trans (hbH'.mono hbG.size)
          go_wp2_with fail
          refine hK.out _ _ ?_ (fun hHeld20 => ?_)
          · (refine HKQ.out _ ?_; first | exact hbH | exact hbG | exact hbF | exact (Below.refl _ _).drew | exact Below.refl _ _)
          clear hK K
          (try simp only [Act.put, List.setIfInBounds_toArray, List.set_cons_zero, List.set_cons_succ])
          apply takeH (i := 21) rfl (by kernel_rfl) (by kernel_rfl) (by kernel_rfl) (fun _ _ _ h => h) (by rfl)
          case hy => (intro w hSw; (try dsimp only at hSw); go_simp; try with_reducible rfl)
          case hS => assumption
          (try simp only [Act.put, List.setIfInBounds_toArray, List.set_cons_zero, List.set_cons_succ])
          apply takeH (i := 22) rfl (by kernel_rfl) (by kernel_rfl) (by kernel_rfl) (fun _ _ _ h => h) (by rfl)
          case hy => (intro w hSw; (try dsimp only at hSw); go_simp; try with_reducible rfl)
          case hS => assumption
          (try simp only [Act.put, List.setIfInBounds_toArray, List.set_cons_zero, List.set_cons_succ])
          refine wpAnyH_done (by kernel_rfl) ?_ _
          have hXH := hXE.below hbH hXE.lt
          have hRH := hRE.below hbH hRE.lt
          have hOH := hOE.below hbH
          have hbrH := hbrE.trans (hbH.mono hbrE.size)
          have q1 := ld_rng hXH
          have s0 : wH.cell? ⟨gr, 0, none⟩ = some (.int .i64 i) := hRH.cell 0
          have s1 : wH.cell? ⟨gr, 1, none⟩ = some (.slice ov k cv) := hRH.cell 1
          have f2 := hRH.frozen 0
          have f3 := hRH.frozen 1
          have HRN := Lib.hid ((hRH.set_ 0 (.int .i64 j)).set_ 1 (.slice ox kx cx))
          have HON := Lib.hid (own_far (own_far hOH (p := ⟨gr, 0, none⟩) hgr1 (.int .i64 j)) (p := ⟨gr, 1, none⟩) hgr1 (.slice ox kx cx))
          have HBN := Lib.hid ((hbrH.setCell (p := ⟨gr, 0, none⟩) (by show w7.heap.size ≤ gr; omega) (.int .i64 j)).setCell (p := ⟨gr, 1, none⟩) (by show w7.heap.size ≤ gr; omega) (.slice ox kx cx))
          clear HKP HKQ hXE hRE hOE hbC hbH hbG hbF hsvE hs1E hsLE hsxE hbrE hXH hRH hOH hbrH
          go_wp2
          go_roundw
          case rel => exact ⟨j, kx, w1.heap.size, cx, ox, by go_num, hjm, HRN.out, HON.out, HBN.out⟩
          case measure => simp [intOf]; omega
      · obtain rfl : i = m := by omega
        rw [HLT.out] at hown HKI
        have HW1 := Lib.hid (fun W hW => HRW.out ov k cv HKI.out (by omega) b W hW)
        have HKP := Lib.hid (show ∀ W, Below wr.heap.size wr W → ((loadVar 29 ⟨gt, 0, none⟩).run Try.prog W = .ok (.agg tabV) W ∧ (loadVar 33 ⟨gr, 0, none⟩).run Try.prog W = .ok (.agg #[.int .i64 i, .slice ov k cv]) W) ∧ Below wr.heap.size wr W from fun W hW => ⟨⟨tab_run (hTr.below hW hTr.lt), ld_rng (hRr.below hW hRr.lt)⟩, hW⟩)
        clear hTr hRr hsv
        go_wp2
        refine wp_region_held_drew (S := fun W => ((loadVar 29 ⟨gt, 0, none⟩).run Try.prog W = .ok (.agg tabV) W ∧ (loadVar 33 ⟨gr, 0, none⟩).run Try.prog W = .ok (.agg #[.int .i64 i, .slice ov k cv]) W) ∧ Below wr.heap.size wr W) (by kernel_rfl) ?_ (fun hHeld0 => ?_)
        · (refine HKP.out _ ?_; first | exact hbB | exact hbA | exact (Below.refl _ _).drew | exact Below.refl _ _)
        apply takeH (i := 0) rfl (by kernel_rfl) (by kernel_rfl) (by kernel_rfl) (fun _ _ _ h => h) (by rfl)
        case hy => (intro w hSw; (try dsimp only at hSw); go_simp; try with_reducible rfl)
        case hS => assumption
        (try simp only [Act.put, List.setIfInBounds_toArray, List.set_cons_zero, List.set_cons_succ])
        apply takeH (i := 1) rfl (by kernel_rfl) (by kernel_rfl) (by kernel_rfl) (fun _ _ _ h => h) (by rfl)
        case hy => (intro w hSw; (try dsimp only at hSw); go_simp; try with_reducible rfl)
        case hS => assumption
        (try simp only [Act.put, List.setIfInBounds_toArray, List.set_cons_zero, List.set_cons_succ])
        apply takeH (i := 3) rfl (by kernel_rfl) (by kernel_rfl) (by kernel_rfl) (fun _ _ _ h => h) (by rfl)
        case hy => (intro w hSw; (try dsimp only at hSw); go_simp; try with_reducible rfl)
        case hS => assumption
        (try simp only [Act.put, List.setIfInBounds_toArray, List.set_cons_zero, List.set_cons_succ])
        apply takeH (i := 4) rfl (by kernel_rfl) (by kernel_rfl) (by kernel_rfl) (fun _ _ _ h => h) (by rfl)
        case hy => (intro w hSw; (try dsimp only at hSw); go_simp; try with_reducible rfl)
        case hS => assumption
        (try simp only [Act.put, List.setIfInBounds_toArray, List.set_cons_zero, List.set_cons_succ])
        refine doH (i := 2) rfl (by kernel_rfl) (by rfl) (fun K hK => ?_)
        go_simp
        refine (HW1.out _ (hown.below hHeld0.2)).mono ?_
        rintro e wA ⟨rfl, hbA'⟩
        have hbA : Below wr.heap.size wr wA := hHeld0.2.trans (hbA'.mono hHeld0.2.size)
        go_wp2_with fail
        refine hK.out _ _ ?_ (fun hHeld2 => ?_)
        · (refine HKP.out _ ?_; first | exact hbB | exact hbA | exact (Below.refl _ _).drew | exact Below.refl _ _)
        clear hK K
        (try simp only [Act.put, List.setIfInBounds_toArray, List.set_cons_zero, List.set_cons_succ])
        refine doH (i := 5) rfl (by kernel_rfl) (by rfl) (fun K hK => ?_)
        go_simp
        refine (HMR.out _ (hsr.below hbA)).mono ?_
        rintro e wB ⟨rfl, hbB'⟩
        have hbB : Below wr.heap.size wr wB := hbA.trans (hbB'.mono hbA.size)
        go_wp2_with fail
        refine hK.out _ _ ?_ (fun hHeld5 => ?_)
        · (refine HKP.out _ ?_; first | exact hbB | exact hbA | exact (Below.refl _ _).drew | exact Below.refl _ _)
        clear hK K
        (try simp only [Act.put, List.setIfInBounds_toArray, List.set_cons_zero, List.set_cons_succ])
        apply takeH (i := 6) rfl (by kernel_rfl) (by kernel_rfl) (by kernel_rfl) (fun _ _ _ h => h) (by rfl)
        case hy => (intro w hSw; (try dsimp only at hSw); go_simp; try with_reducible rfl)
        case hS => assumption
        (try simp only [Act.put, List.setIfInBounds_toArray, List.set_cons_zero, List.set_cons_succ])
        apply takeH (i := 7) rfl (by kernel_rfl) (by kernel_rfl) (by kernel_rfl) (fun _ _ _ h => h) (by rfl)
        case hy => (intro w hSw; (try dsimp only at hSw); go_simp; try with_reducible rfl)
        case hS => assumption
        (try simp only [Act.put, List.setIfInBounds_toArray, List.set_cons_zero, List.set_cons_succ])
        refine wpAnyH_done (by kernel_rfl) ?_ _
        have hBf := hBr.trans (hbB.mono hBr.size)
        go_wp2
        go_ret
        exact ⟨rfl, hBf⟩
  · rw [Bool.not_eq_true] at hfew
    rw [hfew]
    clear hfew
    go_wp2_with fail
    refine (HA.out _).mono ?_
    rintro e w4 ⟨rfl, hb4⟩
    have hB4 := hB3.trans (hb4.mono hB3.size)
    clear hB3 hb4
    go_wp2
    go_ret
    exact ⟨rfl, hB4⟩
end
end Go.Proofs.Ytmokkahkfmmnmaa

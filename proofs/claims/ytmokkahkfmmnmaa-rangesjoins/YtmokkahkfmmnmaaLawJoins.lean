/-
  The walk of the law RangesJoins.
-/
import Derived.Test.YtmokkahkfmmnmaaLawAdds
import Derived.Test.YtmokkahkfmmnmaaRJoin
namespace Go.Proofs.Ytmokkahkfmmnmaa
open Go.RowKit

theorem join_any (n q : Nat) (ova : Option Addr) (ka ca : Nat) (ob : Option Addr) (k c : Nat) (x y : List ByteArray) (hx : x.length = n) (hy : y.length = q) (hn : n ≤ 64) (hq : q ≤ 64) (hka : (ofM x).length = ka) (hkc : ka ≤ ca) (hna : ova = none → ka = 0 ∧ ca = 0) (hk : (ofM y).length = k) (hkb : k ≤ c) (hzx : Sz x) (hzy : Sz y) (w : World) (hA : Strs w ova (ofM x)) (hBs : Strs w ob (ofM y)) :
    Calls Try.prog 20 #[.agg tabV, .agg #[.int .i64 n, .slice ova ka ca], .agg #[.int .i64 q, .slice ob k c]] w (RJ n q x y w) := by
  by_cases h : 0 < n ∧ lastN (strL n) < q
  · exact join_err n q ova ka ca ob k c x y hx hy hn hq hka hkc hna hk hkb hzx hzy h w hA hBs
  · by_cases h0 : n = 0
    · exact join_ok0 n q ova ka ca ob k c x y hx hy hn hq hka hkc hna hk hkb hzx hzy h0 w hA hBs
    · exact join_ok n q ova ka ca ob k c x y hx hy hn hq hka hkc hna hk hkb hzx hzy h (by omega) w hA hBs
theorem own_off {w : World} {B : Nat} {v : Value} {ss : List ByteArray} (h : Own w B v ss) {p : Addr} (hne : v.ownBlock ≠ some p.block) (u : Value) : Own (w.setCell p u) B v ss :=
  World.ownsRow.kept h (row := some p.block) ⟨rfl, rfl, rfl, by simp, fun i _ hi => Below.heap_setCell w p u i (fun e => hi (by rw [e]))⟩ (.inr hne)
section
attribute [-go_sem] loadVar
set_option maxRecDepth 100000 in
set_option maxHeartbeats 16000000 in
theorem law_joins (oa : Option Addr) (ma capa : Nat) (sa : List ByteArray) (hma : sa.length = ma) (hma2 : ma ≤ 9223372036854775807) (hsza : ∀ s ∈ sa, s.size ≤ 9223372036854775807) (_hcapa : ma ≤ capa)
    (ob : Option Addr) (mb capb : Nat) (sb : List ByteArray) (hmb : sb.length = mb) (hmb2 : mb ≤ 9223372036854775807) (hszb : ∀ s ∈ sb, s.size ≤ 9223372036854775807) (_hcapb : mb ≤ capb) (w : World) (hca : Strs w oa sa) (hcb : Strs w ob sb) :
    Calls Try.prog 5 #[.slice oa ma capa, .slice ob mb capb] w fun e w' => e = .returned (.bool true) ∧ Below w.heap.size w w' := by
  have HA := Lib.hid (fun W => awake6_any W)
  have HMK := Lib.hid (fun W => make_std W)
  have HFA : Hid (∀ W, Strs W oa sa → Calls Try.prog 9 #[.slice oa ma capa, .int .i64 32, .int .i64 60] W fun e w' => e = .returned (.bool (fewM sa 32 60)) ∧ w' = W) := Lib.hid (fun W hW => few_any oa ma capa sa hma hma2 hsza 32 60 W hW)
  have HFB : Hid (∀ W, Strs W ob sb → Calls Try.prog 9 #[.slice ob mb capb, .int .i64 32, .int .i64 60] W fun e w' => e = .returned (.bool (fewM sb 32 60)) ∧ w' = W) := Lib.hid (fun W hW => few_any ob mb capb sb hmb hmb2 hszb 32 60 W hW)
  have HFTA := Lib.hid (show fewM sa 32 60 = true → ma ≤ 32 ∧ Sz sa from fun h => by rw [← hma]; exact few_sz6 (by decide) (by decide) h)
  have HFTB := Lib.hid (show fewM sb 32 60 = true → mb ≤ 32 ∧ Sz sb from fun h => by rw [← hmb]; exact few_sz6 (by decide) (by decide) h)
  have HMA := Lib.hid hma
  have HMB := Lib.hid hmb
  have HCA := Lib.hid hca
  have HCB := Lib.hid hcb
  have z1 := zeroTable
  clear hsza hszb hca hcb hma hmb
  go_enter Try.func5, Try.ntmps5
  go_wp2_with fail
  refine (HA.out _).mono ?_
  rintro e w3 ⟨rfl, hB3⟩
  have hca3 := HCA.out.below hB3
  have hcb3 := HCB.out.below hB3
  clear HCA HCB
  go_wp2_with fail
  refine (HFA.out _ hca3).mono ?_
  rintro e w' ⟨rfl, hw⟩
  rw [hw]
  clear hw
  by_cases hfa : fewM sa 32 60 = true
  · obtain ⟨ha32, hza⟩ := HFTA.out hfa
    rw [hfa]
    clear hfa
    go_wp2_with fail
    refine (HFB.out _ hcb3).mono ?_
    rintro e w' ⟨rfl, hw⟩
    rw [hw]
    clear hw
    by_cases hfb : fewM sb 32 60 = true
    · obtain ⟨hb32, hzb⟩ := HFTB.out hfb
      rw [hfb]
      clear hfb
      have HLA := Lib.hid (fun W hW => rleaves_any oa ma capa sa HMA.out (by omega) hza W hW)
      have HLB := Lib.hid (fun W hW => rleaves_any ob mb capb sb HMB.out (by omega) hzb W hW)
      have hzx := sz_leaves6 sa
      have hzy := sz_leaves6 sb
      have HX := Lib.hid (show (sa.map leafM).length = ma by rw [List.length_map]; exact HMA.out)
      have HY := Lib.hid (show (sb.map leafM).length = mb by rw [List.length_map]; exact HMB.out)
      generalize sa.map leafM = X at *
      generalize sb.map leafM = Y at *
      go_wp2_with fail
      refine (HMK.out _).mono ?_
      rintro e w4 ⟨rfl, hb4⟩
      have hca4 := hca3.below hb4
      have hcb4 := hcb3.below hb4
      have hB4 := hB3.trans (hb4.mono hB3.size)
      clear hB3 hb4 hca3 hcb3
      have hB5 := hB4.alloc hB4.size (.cells tabV 29)
      have hT5 : Blk (w4.alloc (.cells tabV 29)) w4.heap.size 29 tabV := Blk.new _ _ _
      have hca5 := hca4.below ((Below.refl _ w4).alloc (Nat.le_refl _) (.cells tabV 29))
      have hcb5 := hcb4.below ((Below.refl _ w4).alloc (Nat.le_refl _) (.cells tabV 29))
      go_wp2_with (refine wpList_store_row rfl 29 _ _ rfl w4.heap.size tabV rfl rfl 29 zero72 (Blk.new _ _ _) (by rw [tabV_size]; exact infoTable) (by kernel_rfl) (by kernel_rfl) ?_; rw [World.setRow_alloc_new])
      generalize w4.alloc (.cells tabV 29) = w5 at *
      generalize w4.heap.size = gt at *
      clear hB4 hca4 hcb4 z1
      refine (HLA.out _ hca5).mono ?_
      rintro e w6 ⟨v, rfl, hown, hb6⟩
      obtain ⟨ox, cx, hv, hs6, hcx, hnx⟩ := hown.formd
      rw [HX.out] at hv hcx hnx
      subst hv
      have hB6 := hB5.trans (hb6.mono hB5.size)
      have hT6 := hT5.below hb6 hT5.lt
      have hcb6 := hcb5.below hb6
      clear hown hb6 hB5 hT5 hca5 hcb5 HLA
      go_wp2_with fail
      refine (HLB.out _ hcb6).mono ?_
      rintro e wz ⟨v, rfl, hown, hbz⟩
      obtain ⟨oy, cy, hv, hy7, hcy, hny⟩ := hown.formd
      rw [HY.out] at hv hcy hny
      subst hv
      have hBz := hB6.trans (hbz.mono hB6.size)
      have hTz := hT6.below hbz hT6.lt
      have hxz := hs6.below hbz
      clear hown hbz hB6 hT6 hcb6 hs6 HLB
      have HOX := Lib.hid (fun W hW => of_any ox ma cx X HX.out (by omega) hcx hzx W hW)
      have HOY := Lib.hid (fun W hW => of_any oy mb cy Y HY.out (by omega) hcy hzy W hW)
      obtain ⟨kx, hkx⟩ : ∃ kx, (ofM X).length = kx := ⟨_, rfl⟩
      obtain ⟨ky, hky⟩ : ∃ ky, (ofM Y).length = ky := ⟨_, rfl⟩
      have HKX := Lib.hid hkx
      have HKY := Lib.hid hky
      have HJ := Lib.hid (fun o1 c1 h1 h2 o2 c2 h3 W hW hW' => join_any ma mb o1 kx c1 o2 ky c2 X Y HX.out HY.out (by omega) (by omega) hkx h1 h2 hky h3 hzx hzy W hW hW')
      have HSZ := Lib.hid (fun W => sizes_any ma (by omega) W)
      obtain ⟨low, hlow⟩ : ∃ low, lastN (strL ma) = low := ⟨_, rfl⟩
      have HKP := Lib.hid (show ∀ W, Below wz.heap.size wz W → (loadVar 29 ⟨gt, 0, none⟩).run Try.prog W = .ok (.agg tabV) W ∧ Below wz.heap.size wz W from fun W hW => ⟨tab_run (hTz.below hW hTz.lt), hW⟩)
      have hb0 : Below wz.heap.size wz wz.drew := (Below.refl _ _).drew
      obtain ⟨wd, hwd⟩ : ∃ wd, wz.drew = wd := ⟨_, rfl⟩
      rw [hwd] at hb0
      obtain ⟨ls, hls⟩ : ∃ ls, (strL ma).length = ls := ⟨_, rfl⟩
      have HLS := Lib.hid hls
      have hls64 : ls ≤ 64 := by
        rw [← hls]
        have := strL_len 63 ma (by have : (2 : Nat) ^ 63 = 9223372036854775808 := by decide
                                   omega)
        omega
      have HLW := Lib.hid (show 0 < ma → 0 < ls ∧ (strL ma).getD (ls - 1) 0 = low from fun h => by
        rw [← hlow, ← hls]
        refine ⟨by rw [strL_pos h]; simp, rfl⟩)
      have HL0 := Lib.hid (show ma = 0 → ls = 0 from fun h => by rw [← hls, h, strL_zero]; rfl)
      clear hkx hky hls
      by_cases hcase : 0 < ma ∧ low < mb
      · have HRJ : Hid (∀ W e w', RJ ma mb X Y W e w' → e = .returned (.tuple #[.agg #[.int .i64 0, .slice none 0 0], .int .i64 5]) ∧ Below W.heap.size W w') := Lib.hid (fun W e w' h => by
          unfold RJ at h
          rw [hlow, if_pos hcase] at h
          exact h)
        clear hlow
        go_wp2
        refine wp_region_held_drew (S := fun W => (loadVar 29 ⟨gt, 0, none⟩).run Try.prog W = .ok (.agg tabV) W ∧ Below wz.heap.size wz W) (by kernel_rfl) ?_ (fun hHeld0 => ?_)
        · (refine HKP.out _ ?_; rw [hwd]; exact hb0)
        rw [hwd]
        rw [hwd] at hHeld0
        apply takeH (i := 0) rfl (by kernel_rfl) (by kernel_rfl) (by kernel_rfl) (fun _ _ _ h => h) (by rfl)
        case hy => (intro w hSw; (try dsimp only at hSw); go_simp; try with_reducible rfl)
        case hS => assumption
        (try simp only [Act.put, List.setIfInBounds_toArray, List.set_cons_zero, List.set_cons_succ])
        apply takeH (i := 1) rfl (by kernel_rfl) (by kernel_rfl) (by kernel_rfl) (fun _ _ _ h => h) (by rfl)
        case hy => (intro w hSw; (try dsimp only at hSw); go_simp; try with_reducible rfl)
        case hS => assumption
        (try simp only [Act.put, List.setIfInBounds_toArray, List.set_cons_zero, List.set_cons_succ])
        apply takeH (i := 2) rfl (by kernel_rfl) (by kernel_rfl) (by kernel_rfl) (fun _ _ _ h => h) (by rfl)
        case hy => (intro w hSw; (try dsimp only at hSw); go_simp; try with_reducible rfl)
        case hS => assumption
        (try simp only [Act.put, List.setIfInBounds_toArray, List.set_cons_zero, List.set_cons_succ])
        apply takeH (i := 4) rfl (by kernel_rfl) (by kernel_rfl) (by kernel_rfl) (fun _ _ _ h => h) (by rfl)
        case hy => (intro w hSw; (try dsimp only at hSw); go_simp; try with_reducible rfl)
        case hS => assumption
        (try simp only [Act.put, List.setIfInBounds_toArray, List.set_cons_zero, List.set_cons_succ])
        apply takeH (i := 5) rfl (by kernel_rfl) (by kernel_rfl) (by kernel_rfl) (fun _ _ _ h => h) (by rfl)
        case hy => (intro w hSw; (try dsimp only at hSw); go_simp; try with_reducible rfl)
        case hS => assumption
        (try simp only [Act.put, List.setIfInBounds_toArray, List.set_cons_zero, List.set_cons_succ])
        refine doH2 (i := 3) (j := 11) rfl rfl (by kernel_rfl) (by rfl) (by rfl) (fun K hK => ?_) (fun K hK => ?_)
        · go_simp
          refine (HOX.out _ (hxz.below hb0)).mono ?_
          rintro e wx3 ⟨v3, rfl, own3, hwx3'⟩
          obtain ⟨o3, c3, hv3, _⟩ := own3.formd
          rw [HKX.out] at hv3
          subst hv3
          have hwx3 : Below wz.heap.size wz wx3 := hb0.trans (hwx3'.mono hb0.size)
          go_wp2_with fail
          refine hK.out _ _ ?_ (fun hHeld3 => ?_)
          · (refine HKP.out _ ?_; exact hwx3)
          clear hK K
          (try simp only [Act.put, List.setIfInBounds_toArray, List.set_cons_zero, List.set_cons_succ])
          refine doH2 (i := 6) (j := 11) rfl rfl (by kernel_rfl) (by rfl) (by rfl) (fun K hK => ?_) (fun K hK => ?_)
          · go_simp
            refine (HOY.out _ (hy7.below hwx3)).mono ?_
            rintro e w3x6 ⟨v6, rfl, own6, hw3x6'⟩
            obtain ⟨o6, c6, hv6, _⟩ := own6.formd
            rw [HKY.out] at hv6
            subst hv6
            have hw3x6 : Below wz.heap.size wz w3x6 := hwx3.trans (hw3x6'.mono hwx3.size)
            have own3 := own3.below hw3x6'
            go_wp2_with fail
            refine hK.out _ _ ?_ (fun hHeld6 => ?_)
            · (refine HKP.out _ ?_; exact hw3x6)
            clear hK K
            (try simp only [Act.put, List.setIfInBounds_toArray, List.set_cons_zero, List.set_cons_succ])
            refine doH2 (i := 7) (j := 11) rfl rfl (by kernel_rfl) (by rfl) (by rfl) (fun K hK => ?_) (fun K hK => ?_)
            · go_simp
              obtain ⟨_, hs3, hc3, hn3⟩ := own_facts own3
              obtain ⟨_, hs6, hc6, _⟩ := own_facts own6
              refine (HJ.out o3 c3 hc3 hn3 o6 c6 hc6 _ hs3 hs6).mono ?_
              intro e w36x7 hrj
              obtain ⟨rfl, hw36x7'⟩ := HRJ.out _ _ _ hrj
              have hw36x7 : Below wz.heap.size wz w36x7 := hw3x6.trans (hw36x7'.mono hw3x6.size)
              go_wp2_with fail
              refine hK.out _ _ ?_ (fun hHeld7 => ?_)
              · (refine HKP.out _ ?_; exact hw36x7)
              clear hK K
              (try simp only [Act.put, List.setIfInBounds_toArray, List.set_cons_zero, List.set_cons_succ])
              apply takeH (i := 8) rfl (by kernel_rfl) (by kernel_rfl) (by kernel_rfl) (fun _ _ _ h => h) (by rfl)
              case hy => (intro w hSw; (try dsimp only at hSw); go_simp; try with_reducible rfl)
              case hS => assumption
              (try simp only [Act.put, List.setIfInBounds_toArray, List.set_cons_zero, List.set_cons_succ])
              apply takeH (i := 9) rfl (by kernel_rfl) (by kernel_rfl) (by kernel_rfl) (fun _ _ _ h => h) (by rfl)
              case hy => (intro w hSw; (try dsimp only at hSw); go_simp; try with_reducible rfl)
              case hS => assumption
              (try simp only [Act.put, List.setIfInBounds_toArray, List.set_cons_zero, List.set_cons_succ])
              apply takeH (i := 10) rfl (by kernel_rfl) (by kernel_rfl) (by kernel_rfl) (fun _ _ _ h => h) (by rfl)
              case hy => (intro w hSw; (try dsimp only at hSw); go_simp; try with_reducible rfl)
              case hS => assumption
              (try simp only [Act.put, List.setIfInBounds_toArray, List.set_cons_zero, List.set_cons_succ])
              refine doH (i := 11) rfl (by kernel_rfl) (by rfl) (fun K hK => ?_)
              go_simp
              have hgxz : wz.heap.size ≤ w36x7.heap.size := hw36x7.size
              have hw367x11 := hw36x7.alloc hw36x7.size (.cells #[.int .i64 0, .slice none 0 0] 33)
              have blk : Blk (w36x7.alloc (.cells #[.int .i64 0, .slice none 0 0] 33)) w36x7.heap.size 33 #[.int .i64 0, .slice none 0 0] := Blk.new _ _ _
              obtain ⟨w367x11, hw367x11e⟩ : ∃ w367x11, w36x7.alloc (.cells #[.int .i64 0, .slice none 0 0] 33) = w367x11 := ⟨_, rfl⟩
              obtain ⟨gx, hgx⟩ : ∃ gx, w36x7.heap.size = gx := ⟨_, rfl⟩
              rw [hw367x11e] at hw367x11 blk ⊢
              rw [hgx] at blk hgxz ⊢
              refine hK.out _ _ ?_ (fun hHeld11 => ?_)
              · (refine HKP.out _ ?_; exact hw367x11)
              clear hK K
              (try simp only [Act.put, List.setIfInBounds_toArray, List.set_cons_zero, List.set_cons_succ])
              have c0 : w367x11.cell? ⟨gx, 0, none⟩ = some (.int .i64 0) := blk.cell 0
              have c1 : w367x11.cell? ⟨gx, 1, none⟩ = some (.slice none 0 0) := blk.cell 1
              have f0 := blk.frozen 0
              have f1 := blk.frozen 1
              refine doH (i := 12) rfl (by kernel_rfl) (by rfl) (fun K hK => ?_)
              go_simp
              have hbE := (hw367x11.setCell (p := ⟨gx, 0, none⟩) hgxz (.int .i64 0)).setCell (p := ⟨gx, 1, none⟩) hgxz (.slice none 0 0)
              have hME : Blk ((w367x11.setCell ⟨gx, 0, none⟩ (.int .i64 0)).setCell ⟨gx, 1, none⟩ (.slice none 0 0)) gx 33 #[.int .i64 0, .slice none 0 0] := (blk.set_ 0 (.int .i64 0)).set_ 1 (.slice none 0 0)
              obtain ⟨wE, hwE⟩ : ∃ wE, (w367x11.setCell ⟨gx, 0, none⟩ (.int .i64 0)).setCell ⟨gx, 1, none⟩ (.slice none 0 0) = wE := ⟨_, rfl⟩
              rw [hwE] at hbE hME  ⊢
              refine hK.out _ _ ?_ (fun hHeld12 => ?_)
              · (refine HKP.out _ ?_; exact hbE)
              clear hK K
              (try simp only [Act.put, List.setIfInBounds_toArray, List.set_cons_zero, List.set_cons_succ])
              apply takeH (i := 13) rfl (by kernel_rfl) (by kernel_rfl) (by kernel_rfl) (fun _ _ _ h => h) (by rfl)
              case hy => (intro w hSw; (try dsimp only at hSw); go_simp; try with_reducible rfl)
              case hS => assumption
              (try simp only [Act.put, List.setIfInBounds_toArray, List.set_cons_zero, List.set_cons_succ])
              refine wpAnyH_done (by kernel_rfl) ?_ _
              have hBE := hBz.trans (hbE.mono hBz.size)
              have hME' := hME
              go_wp2_with fail
              refine (HSZ.out _).mono ?_
              rintro e wF ⟨vF, rfl, hvF, hbF⟩
              obtain ⟨hls0, hgl⟩ := HLW.out hcase.1
              obtain ⟨gs, cs, hvs, _, _, _, hcs⟩ := hvF.row (by rw [HLS.out]; exact hls0)
              rw [HLS.out] at hvs
              subst hvs
              have hcl := hcs (ls - 1) (by rw [HLS.out]; omega)
              rw [hgl] at hcl
              obtain ⟨lp, hlp⟩ : ∃ lp, ls - 1 = lp := ⟨_, rfl⟩
              rw [hlp] at hcl
              have hlq := ld_int hcl
              have hl1 : (ls : Int) - 1 = (lp : Int) := by omega
              have hl2 : (0 : Int) < (ls : Int) := by omega
              have hl3 : (lp : Int) < (ls : Int) := by omega
              have hl4 : (low : Int) < (mb : Int) := by omega
              have hMF := hME.below hbF hME.lt
              have m0 := ld_int (hMF.cell 0)
              have m1 := ld_sl (hMF.cell 1)
              have hBF := hBE.trans (hbF.mono hBE.size)
              clear hHeld12 HKP hcs hlp hvF hbF hME hME' hMF hBE hcl
              go_wp2
              go_ret
              exact ⟨rfl, hBF⟩
            · go_simp
              have hgxz : wz.heap.size ≤ w3x6.heap.size := hw3x6.size
              have hw36x11 := hw3x6.alloc hw3x6.size (.cells #[.int .i64 0, .slice none 0 0] 33)
              have blk : Blk (w3x6.alloc (.cells #[.int .i64 0, .slice none 0 0] 33)) w3x6.heap.size 33 #[.int .i64 0, .slice none 0 0] := Blk.new _ _ _
              have own3 : Own (w3x6.alloc (.cells #[.int .i64 0, .slice none 0 0] 33)) _ (.slice o3 kx c3) (ofM X) := World.ownsRow.alloc own3 _
              have own6 : Own (w3x6.alloc (.cells #[.int .i64 0, .slice none 0 0] 33)) _ (.slice o6 ky c6) (ofM Y) := World.ownsRow.alloc own6 _
              obtain ⟨w36x11, hw36x11e⟩ : ∃ w36x11, w3x6.alloc (.cells #[.int .i64 0, .slice none 0 0] 33) = w36x11 := ⟨_, rfl⟩
              obtain ⟨gx, hgx⟩ : ∃ gx, w3x6.heap.size = gx := ⟨_, rfl⟩
              rw [hw36x11e] at hw36x11 blk ⊢
              rw [hgx] at blk hgxz ⊢
              rw [hw36x11e] at own3
              rw [hw36x11e] at own6
              refine hK.out _ _ ?_ (fun hHeld11 => ?_)
              · (refine HKP.out _ ?_; exact hw36x11)
              clear hK K
              (try simp only [Act.put, List.setIfInBounds_toArray, List.set_cons_zero, List.set_cons_succ])
              refine doH (i := 7) rfl (by kernel_rfl) (by rfl) (fun K hK => ?_)
              go_simp
              have hgxl := blk.lt
              obtain ⟨_, hs3, hc3, hn3⟩ := own_facts own3
              obtain ⟨_, hs6, hc6, _⟩ := own_facts own6
              refine (HJ.out o3 c3 hc3 hn3 o6 c6 hc6 _ hs3 hs6).mono ?_
              intro e w3611x7 hrj
              obtain ⟨rfl, hw3611x7'⟩ := HRJ.out _ _ _ hrj
              have hw3611x7 : Below wz.heap.size wz w3611x7 := hw36x11.trans (hw3611x7'.mono hw36x11.size)
              have blk := blk.below hw3611x7' blk.lt
              go_wp2_with fail
              refine hK.out _ _ ?_ (fun hHeld7 => ?_)
              · (refine HKP.out _ ?_; exact hw3611x7)
              clear hK K
              (try simp only [Act.put, List.setIfInBounds_toArray, List.set_cons_zero, List.set_cons_succ])
              apply takeH (i := 8) rfl (by kernel_rfl) (by kernel_rfl) (by kernel_rfl) (fun _ _ _ h => h) (by rfl)
              case hy => (intro w hSw; (try dsimp only at hSw); go_simp; try with_reducible rfl)
              case hS => assumption
              (try simp only [Act.put, List.setIfInBounds_toArray, List.set_cons_zero, List.set_cons_succ])
              apply takeH (i := 9) rfl (by kernel_rfl) (by kernel_rfl) (by kernel_rfl) (fun _ _ _ h => h) (by rfl)
              case hy => (intro w hSw; (try dsimp only at hSw); go_simp; try with_reducible rfl)
              case hS => assumption
              (try simp only [Act.put, List.setIfInBounds_toArray, List.set_cons_zero, List.set_cons_succ])
              apply takeH (i := 10) rfl (by kernel_rfl) (by kernel_rfl) (by kernel_rfl) (fun _ _ _ h => h) (by rfl)
              case hy => (intro w hSw; (try dsimp only at hSw); go_simp; try with_reducible rfl)
              case hS => assumption
              (try simp only [Act.put, List.setIfInBounds_toArray, List.set_cons_zero, List.set_cons_succ])
              have c0 : w3611x7.cell? ⟨gx, 0, none⟩ = some (.int .i64 0) := blk.cell 0
              have c1 : w3611x7.cell? ⟨gx, 1, none⟩ = some (.slice none 0 0) := blk.cell 1
              have f0 := blk.frozen 0
              have f1 := blk.frozen 1
              refine doH (i := 12) rfl (by kernel_rfl) (by rfl) (fun K hK => ?_)
              go_simp
              have hbE := (hw3611x7.setCell (p := ⟨gx, 0, none⟩) hgxz (.int .i64 0)).setCell (p := ⟨gx, 1, none⟩) hgxz (.slice none 0 0)
              have hME : Blk ((w3611x7.setCell ⟨gx, 0, none⟩ (.int .i64 0)).setCell ⟨gx, 1, none⟩ (.slice none 0 0)) gx 33 #[.int .i64 0, .slice none 0 0] := (blk.set_ 0 (.int .i64 0)).set_ 1 (.slice none 0 0)
              obtain ⟨wE, hwE⟩ : ∃ wE, (w3611x7.setCell ⟨gx, 0, none⟩ (.int .i64 0)).setCell ⟨gx, 1, none⟩ (.slice none 0 0) = wE := ⟨_, rfl⟩
              rw [hwE] at hbE hME  ⊢
              refine hK.out _ _ ?_ (fun hHeld12 => ?_)
              · (refine HKP.out _ ?_; exact hbE)
              clear hK K
              (try simp only [Act.put, List.setIfInBounds_toArray, List.set_cons_zero, List.set_cons_succ])
              apply takeH (i := 13) rfl (by kernel_rfl) (by kernel_rfl) (by kernel_rfl) (fun _ _ _ h => h) (by rfl)
              case hy => (intro w hSw; (try dsimp only at hSw); go_simp; try with_reducible rfl)
              case hS => assumption
              (try simp only [Act.put, List.setIfInBounds_toArray, List.set_cons_zero, List.set_cons_succ])
              refine wpAnyH_done (by kernel_rfl) ?_ _
              have hBE := hBz.trans (hbE.mono hBz.size)
              have hME' := hME
              go_wp2_with fail
              refine (HSZ.out _).mono ?_
              rintro e wF ⟨vF, rfl, hvF, hbF⟩
              obtain ⟨hls0, hgl⟩ := HLW.out hcase.1
              obtain ⟨gs, cs, hvs, _, _, _, hcs⟩ := hvF.row (by rw [HLS.out]; exact hls0)
              rw [HLS.out] at hvs
              subst hvs
              have hcl := hcs (ls - 1) (by rw [HLS.out]; omega)
              rw [hgl] at hcl
              obtain ⟨lp, hlp⟩ : ∃ lp, ls - 1 = lp := ⟨_, rfl⟩
              rw [hlp] at hcl
              have hlq := ld_int hcl
              have hl1 : (ls : Int) - 1 = (lp : Int) := by omega
              have hl2 : (0 : Int) < (ls : Int) := by omega
              have hl3 : (lp : Int) < (ls : Int) := by omega
              have hl4 : (low : Int) < (mb : Int) := by omega
              have hMF := hME.below hbF hME.lt
              have m0 := ld_int (hMF.cell 0)
              have m1 := ld_sl (hMF.cell 1)
              have hBF := hBE.trans (hbF.mono hBE.size)
              clear hHeld12 HKP hcs hlp hvF hbF hME hME' hMF hBE hcl
              go_wp2
              go_ret
              exact ⟨rfl, hBF⟩
          · go_simp
            have hgxz : wz.heap.size ≤ wx3.heap.size := hwx3.size
            have hw3x11 := hwx3.alloc hwx3.size (.cells #[.int .i64 0, .slice none 0 0] 33)
            have blk : Blk (wx3.alloc (.cells #[.int .i64 0, .slice none 0 0] 33)) wx3.heap.size 33 #[.int .i64 0, .slice none 0 0] := Blk.new _ _ _
            have own3 : Own (wx3.alloc (.cells #[.int .i64 0, .slice none 0 0] 33)) _ (.slice o3 kx c3) (ofM X) := World.ownsRow.alloc own3 _
            obtain ⟨w3x11, hw3x11e⟩ : ∃ w3x11, wx3.alloc (.cells #[.int .i64 0, .slice none 0 0] 33) = w3x11 := ⟨_, rfl⟩
            obtain ⟨gx, hgx⟩ : ∃ gx, wx3.heap.size = gx := ⟨_, rfl⟩
            rw [hw3x11e] at hw3x11 blk ⊢
            rw [hgx] at blk hgxz ⊢
            rw [hw3x11e] at own3
            refine hK.out _ _ ?_ (fun hHeld11 => ?_)
            · (refine HKP.out _ ?_; exact hw3x11)
            clear hK K
            (try simp only [Act.put, List.setIfInBounds_toArray, List.set_cons_zero, List.set_cons_succ])
            refine doH (i := 6) rfl (by kernel_rfl) (by rfl) (fun K hK => ?_)
            go_simp
            refine (HOY.out _ (hy7.below hw3x11)).mono ?_
            rintro e w311x6 ⟨v6, rfl, own6, hw311x6'⟩
            obtain ⟨o6, c6, hv6, _⟩ := own6.formd
            rw [HKY.out] at hv6
            subst hv6
            have hw311x6 : Below wz.heap.size wz w311x6 := hw3x11.trans (hw311x6'.mono hw3x11.size)
            have own3 := own3.below hw311x6'
            have blk := blk.below hw311x6' blk.lt
            go_wp2_with fail
            refine hK.out _ _ ?_ (fun hHeld6 => ?_)
            · (refine HKP.out _ ?_; exact hw311x6)
            clear hK K
            (try simp only [Act.put, List.setIfInBounds_toArray, List.set_cons_zero, List.set_cons_succ])
            refine doH (i := 7) rfl (by kernel_rfl) (by rfl) (fun K hK => ?_)
            go_simp
            have hgxl := blk.lt
            obtain ⟨_, hs3, hc3, hn3⟩ := own_facts own3
            obtain ⟨_, hs6, hc6, _⟩ := own_facts own6
            refine (HJ.out o3 c3 hc3 hn3 o6 c6 hc6 _ hs3 hs6).mono ?_
            intro e w3116x7 hrj
            obtain ⟨rfl, hw3116x7'⟩ := HRJ.out _ _ _ hrj
            have hw3116x7 : Below wz.heap.size wz w3116x7 := hw311x6.trans (hw3116x7'.mono hw311x6.size)
            have blk := blk.below hw3116x7' blk.lt
            go_wp2_with fail
            refine hK.out _ _ ?_ (fun hHeld7 => ?_)
            · (refine HKP.out _ ?_; exact hw3116x7)
            clear hK K
            (try simp only [Act.put, List.setIfInBounds_toArray, List.set_cons_zero, List.set_cons_succ])
            apply takeH (i := 8) rfl (by kernel_rfl) (by kernel_rfl) (by kernel_rfl) (fun _ _ _ h => h) (by rfl)
            case hy => (intro w hSw; (try dsimp only at hSw); go_simp; try with_reducible rfl)
            case hS => assumption
            (try simp only [Act.put, List.setIfInBounds_toArray, List.set_cons_zero, List.set_cons_succ])
            apply takeH (i := 9) rfl (by kernel_rfl) (by kernel_rfl) (by kernel_rfl) (fun _ _ _ h => h) (by rfl)
            case hy => (intro w hSw; (try dsimp only at hSw); go_simp; try with_reducible rfl)
            case hS => assumption
            (try simp only [Act.put, List.setIfInBounds_toArray, List.set_cons_zero, List.set_cons_succ])
            apply takeH (i := 10) rfl (by kernel_rfl) (by kernel_rfl) (by kernel_rfl) (fun _ _ _ h => h) (by rfl)
            case hy => (intro w hSw; (try dsimp only at hSw); go_simp; try with_reducible rfl)
            case hS => assumption
            (try simp only [Act.put, List.setIfInBounds_toArray, List.set_cons_zero, List.set_cons_succ])
            have c0 : w3116x7.cell? ⟨gx, 0, none⟩ = some (.int .i64 0) := blk.cell 0
            have c1 : w3116x7.cell? ⟨gx, 1, none⟩ = some (.slice none 0 0) := blk.cell 1
            have f0 := blk.frozen 0
            have f1 := blk.frozen 1
            refine doH (i := 12) rfl (by kernel_rfl) (by rfl) (fun K hK => ?_)
            go_simp
            have hbE := (hw3116x7.setCell (p := ⟨gx, 0, none⟩) hgxz (.int .i64 0)).setCell (p := ⟨gx, 1, none⟩) hgxz (.slice none 0 0)
            have hME : Blk ((w3116x7.setCell ⟨gx, 0, none⟩ (.int .i64 0)).setCell ⟨gx, 1, none⟩ (.slice none 0 0)) gx 33 #[.int .i64 0, .slice none 0 0] := (blk.set_ 0 (.int .i64 0)).set_ 1 (.slice none 0 0)
            obtain ⟨wE, hwE⟩ : ∃ wE, (w3116x7.setCell ⟨gx, 0, none⟩ (.int .i64 0)).setCell ⟨gx, 1, none⟩ (.slice none 0 0) = wE := ⟨_, rfl⟩
            rw [hwE] at hbE hME  ⊢
            refine hK.out _ _ ?_ (fun hHeld12 => ?_)
            · (refine HKP.out _ ?_; exact hbE)
            clear hK K
            (try simp only [Act.put, List.setIfInBounds_toArray, List.set_cons_zero, List.set_cons_succ])
            apply takeH (i := 13) rfl (by kernel_rfl) (by kernel_rfl) (by kernel_rfl) (fun _ _ _ h => h) (by rfl)
            case hy => (intro w hSw; (try dsimp only at hSw); go_simp; try with_reducible rfl)
            case hS => assumption
            (try simp only [Act.put, List.setIfInBounds_toArray, List.set_cons_zero, List.set_cons_succ])
            refine wpAnyH_done (by kernel_rfl) ?_ _
            have hBE := hBz.trans (hbE.mono hBz.size)
            have hME' := hME
            go_wp2_with fail
            refine (HSZ.out _).mono ?_
            rintro e wF ⟨vF, rfl, hvF, hbF⟩
            obtain ⟨hls0, hgl⟩ := HLW.out hcase.1
            obtain ⟨gs, cs, hvs, _, _, _, hcs⟩ := hvF.row (by rw [HLS.out]; exact hls0)
            rw [HLS.out] at hvs
            subst hvs
            have hcl := hcs (ls - 1) (by rw [HLS.out]; omega)
            rw [hgl] at hcl
            obtain ⟨lp, hlp⟩ : ∃ lp, ls - 1 = lp := ⟨_, rfl⟩
            rw [hlp] at hcl
            have hlq := ld_int hcl
            have hl1 : (ls : Int) - 1 = (lp : Int) := by omega
            have hl2 : (0 : Int) < (ls : Int) := by omega
            have hl3 : (lp : Int) < (ls : Int) := by omega
            have hl4 : (low : Int) < (mb : Int) := by omega
            have hMF := hME.below hbF hME.lt
            have m0 := ld_int (hMF.cell 0)
            have m1 := ld_sl (hMF.cell 1)
            have hBF := hBE.trans (hbF.mono hBE.size)
            clear hHeld12 HKP hcs hlp hvF hbF hME hME' hMF hBE hcl
            go_wp2
            go_ret
            exact ⟨rfl, hBF⟩
        · go_simp
          have hgxz : wz.heap.size ≤ wd.heap.size := hb0.size
          have hwx11 := hb0.alloc hb0.size (.cells #[.int .i64 0, .slice none 0 0] 33)
          have blk : Blk (wd.alloc (.cells #[.int .i64 0, .slice none 0 0] 33)) wd.heap.size 33 #[.int .i64 0, .slice none 0 0] := Blk.new _ _ _
          obtain ⟨wx11, hwx11e⟩ : ∃ wx11, wd.alloc (.cells #[.int .i64 0, .slice none 0 0] 33) = wx11 := ⟨_, rfl⟩
          obtain ⟨gx, hgx⟩ : ∃ gx, wd.heap.size = gx := ⟨_, rfl⟩
          rw [hwx11e] at hwx11 blk ⊢
          rw [hgx] at blk hgxz ⊢
          refine hK.out _ _ ?_ (fun hHeld11 => ?_)
          · (refine HKP.out _ ?_; exact hwx11)
          clear hK K
          (try simp only [Act.put, List.setIfInBounds_toArray, List.set_cons_zero, List.set_cons_succ])
          refine doH (i := 3) rfl (by kernel_rfl) (by rfl) (fun K hK => ?_)
          go_simp
          refine (HOX.out _ (hxz.below hwx11)).mono ?_
          rintro e w11x3 ⟨v3, rfl, own3, hw11x3'⟩
          obtain ⟨o3, c3, hv3, _⟩ := own3.formd
          rw [HKX.out] at hv3
          subst hv3
          have hw11x3 : Below wz.heap.size wz w11x3 := hwx11.trans (hw11x3'.mono hwx11.size)
          have blk := blk.below hw11x3' blk.lt
          go_wp2_with fail
          refine hK.out _ _ ?_ (fun hHeld3 => ?_)
          · (refine HKP.out _ ?_; exact hw11x3)
          clear hK K
          (try simp only [Act.put, List.setIfInBounds_toArray, List.set_cons_zero, List.set_cons_succ])
          refine doH (i := 6) rfl (by kernel_rfl) (by rfl) (fun K hK => ?_)
          go_simp
          refine (HOY.out _ (hy7.below hw11x3)).mono ?_
          rintro e w113x6 ⟨v6, rfl, own6, hw113x6'⟩
          obtain ⟨o6, c6, hv6, _⟩ := own6.formd
          rw [HKY.out] at hv6
          subst hv6
          have hw113x6 : Below wz.heap.size wz w113x6 := hw11x3.trans (hw113x6'.mono hw11x3.size)
          have own3 := own3.below hw113x6'
          have blk := blk.below hw113x6' blk.lt
          go_wp2_with fail
          refine hK.out _ _ ?_ (fun hHeld6 => ?_)
          · (refine HKP.out _ ?_; exact hw113x6)
          clear hK K
          (try simp only [Act.put, List.setIfInBounds_toArray, List.set_cons_zero, List.set_cons_succ])
          refine doH (i := 7) rfl (by kernel_rfl) (by rfl) (fun K hK => ?_)
          go_simp
          have hgxl := blk.lt
          obtain ⟨_, hs3, hc3, hn3⟩ := own_facts own3
          obtain ⟨_, hs6, hc6, _⟩ := own_facts own6
          refine (HJ.out o3 c3 hc3 hn3 o6 c6 hc6 _ hs3 hs6).mono ?_
          intro e w1136x7 hrj
          obtain ⟨rfl, hw1136x7'⟩ := HRJ.out _ _ _ hrj
          have hw1136x7 : Below wz.heap.size wz w1136x7 := hw113x6.trans (hw1136x7'.mono hw113x6.size)
          have blk := blk.below hw1136x7' blk.lt
          go_wp2_with fail
          refine hK.out _ _ ?_ (fun hHeld7 => ?_)
          · (refine HKP.out _ ?_; exact hw1136x7)
          clear hK K
          (try simp only [Act.put, List.setIfInBounds_toArray, List.set_cons_zero, List.set_cons_succ])
          apply takeH (i := 8) rfl (by kernel_rfl) (by kernel_rfl) (by kernel_rfl) (fun _ _ _ h => h) (by rfl)
          case hy => (intro w hSw; (try dsimp only at hSw); go_simp; try with_reducible rfl)
          case hS => assumption
          (try simp only [Act.put, List.setIfInBounds_toArray, List.set_cons_zero, List.set_cons_succ])
          apply takeH (i := 9) rfl (by kernel_rfl) (by kernel_rfl) (by kernel_rfl) (fun _ _ _ h => h) (by rfl)
          case hy => (intro w hSw; (try dsimp only at hSw); go_simp; try with_reducible rfl)
          case hS => assumption
          (try simp only [Act.put, List.setIfInBounds_toArray, List.set_cons_zero, List.set_cons_succ])
          apply takeH (i := 10) rfl (by kernel_rfl) (by kernel_rfl) (by kernel_rfl) (fun _ _ _ h => h) (by rfl)
          case hy => (intro w hSw; (try dsimp only at hSw); go_simp; try with_reducible rfl)
          case hS => assumption
          (try simp only [Act.put, List.setIfInBounds_toArray, List.set_cons_zero, List.set_cons_succ])
          have c0 : w1136x7.cell? ⟨gx, 0, none⟩ = some (.int .i64 0) := blk.cell 0
          have c1 : w1136x7.cell? ⟨gx, 1, none⟩ = some (.slice none 0 0) := blk.cell 1
          have f0 := blk.frozen 0
          have f1 := blk.frozen 1
          refine doH (i := 12) rfl (by kernel_rfl) (by rfl) (fun K hK => ?_)
          go_simp
          have hbE := (hw1136x7.setCell (p := ⟨gx, 0, none⟩) hgxz (.int .i64 0)).setCell (p := ⟨gx, 1, none⟩) hgxz (.slice none 0 0)
          have hME : Blk ((w1136x7.setCell ⟨gx, 0, none⟩ (.int .i64 0)).setCell ⟨gx, 1, none⟩ (.slice none 0 0)) gx 33 #[.int .i64 0, .slice none 0 0] := (blk.set_ 0 (.int .i64 0)).set_ 1 (.slice none 0 0)
          obtain ⟨wE, hwE⟩ : ∃ wE, (w1136x7.setCell ⟨gx, 0, none⟩ (.int .i64 0)).setCell ⟨gx, 1, none⟩ (.slice none 0 0) = wE := ⟨_, rfl⟩
          rw [hwE] at hbE hME  ⊢
          refine hK.out _ _ ?_ (fun hHeld12 => ?_)
          · (refine HKP.out _ ?_; exact hbE)
          clear hK K
          (try simp only [Act.put, List.setIfInBounds_toArray, List.set_cons_zero, List.set_cons_succ])
          apply takeH (i := 13) rfl (by kernel_rfl) (by kernel_rfl) (by kernel_rfl) (fun _ _ _ h => h) (by rfl)
          case hy => (intro w hSw; (try dsimp only at hSw); go_simp; try with_reducible rfl)
          case hS => assumption
          (try simp only [Act.put, List.setIfInBounds_toArray, List.set_cons_zero, List.set_cons_succ])
          refine wpAnyH_done (by kernel_rfl) ?_ _
          have hBE := hBz.trans (hbE.mono hBz.size)
          have hME' := hME
          go_wp2_with fail
          refine (HSZ.out _).mono ?_
          rintro e wF ⟨vF, rfl, hvF, hbF⟩
          obtain ⟨hls0, hgl⟩ := HLW.out hcase.1
          obtain ⟨gs, cs, hvs, _, _, _, hcs⟩ := hvF.row (by rw [HLS.out]; exact hls0)
          rw [HLS.out] at hvs
          subst hvs
          have hcl := hcs (ls - 1) (by rw [HLS.out]; omega)
          rw [hgl] at hcl
          obtain ⟨lp, hlp⟩ : ∃ lp, ls - 1 = lp := ⟨_, rfl⟩
          rw [hlp] at hcl
          have hlq := ld_int hcl
          have hl1 : (ls : Int) - 1 = (lp : Int) := by omega
          have hl2 : (0 : Int) < (ls : Int) := by omega
          have hl3 : (lp : Int) < (ls : Int) := by omega
          have hl4 : (low : Int) < (mb : Int) := by omega
          have hMF := hME.below hbF hME.lt
          have m0 := ld_int (hMF.cell 0)
          have m1 := ld_sl (hMF.cell 1)
          have hBF := hBE.trans (hbF.mono hBE.size)
          clear hHeld12 HKP hcs hlp hvF hbF hME hME' hMF hBE hcl
          go_wp2
          go_ret
          exact ⟨rfl, hBF⟩
      · have HRJ : Hid (∀ W e w', RJ ma mb X Y W e w' → (∃ v, e = .returned (.tuple #[.agg #[.int .i64 ((ma + mb : Nat) : Int), v], .int .i64 0]) ∧ Own w' W.heap.size v (ofM (X ++ Y))) ∧ Below W.heap.size W w') := Lib.hid (fun W e w' h => by
          unfold RJ at h
          rw [hlow, if_neg hcase] at h
          exact h)
        clear hlow
        have HXY := Lib.hid (show (X ++ Y).length = ma + mb by rw [List.length_append, HX.out, HY.out])
        have hzxy : Sz (X ++ Y) := by
          intro u hu
          rcases List.mem_append.1 hu with h | h
          · exact hzx u h
          · exact hzy u h
        obtain ⟨N, hN⟩ : ∃ N : Nat, ma + mb = N := ⟨_, rfl⟩
        rw [hN] at HRJ HXY
        have hN64 : N ≤ 64 := by omega
        obtain ⟨kn, hkn⟩ : ∃ kn, (ofM (X ++ Y)).length = kn := ⟨_, rfl⟩
        have HKN := Lib.hid hkn
        have hkn64 : kn ≤ 64 := by
          rw [← hkn, ofM_length, HXY.out]
          have := strL_len 63 N (by have : (2 : Nat) ^ 63 = 9223372036854775808 := by decide
                                    omega)
          omega
        have HROF := Lib.hid (fun o c (hc : N ≤ c) W hW => rof_any o N c (X ++ Y) HXY.out (by omega) hc hzxy W hW)
        have HSAME := Lib.hid (fun o1 o2 c1 c2 W hW hW' => rsame_eq o1 o2 kn c1 c2 (ofM (X ++ Y)) HKN.out (by omega) W hW hW')
        clear hkn hN
        go_wp2
        refine wp_region_held_drew (S := fun W => (loadVar 29 ⟨gt, 0, none⟩).run Try.prog W = .ok (.agg tabV) W ∧ Below wz.heap.size wz W) (by kernel_rfl) ?_ (fun hHeld0 => ?_)
        · (refine HKP.out _ ?_; rw [hwd]; exact hb0)
        rw [hwd]
        rw [hwd] at hHeld0
        apply takeH (i := 0) rfl (by kernel_rfl) (by kernel_rfl) (by kernel_rfl) (fun _ _ _ h => h) (by rfl)
        case hy => (intro w hSw; (try dsimp only at hSw); go_simp; try with_reducible rfl)
        case hS => assumption
        (try simp only [Act.put, List.setIfInBounds_toArray, List.set_cons_zero, List.set_cons_succ])
        apply takeH (i := 1) rfl (by kernel_rfl) (by kernel_rfl) (by kernel_rfl) (fun _ _ _ h => h) (by rfl)
        case hy => (intro w hSw; (try dsimp only at hSw); go_simp; try with_reducible rfl)
        case hS => assumption
        (try simp only [Act.put, List.setIfInBounds_toArray, List.set_cons_zero, List.set_cons_succ])
        apply takeH (i := 2) rfl (by kernel_rfl) (by kernel_rfl) (by kernel_rfl) (fun _ _ _ h => h) (by rfl)
        case hy => (intro w hSw; (try dsimp only at hSw); go_simp; try with_reducible rfl)
        case hS => assumption
        (try simp only [Act.put, List.setIfInBounds_toArray, List.set_cons_zero, List.set_cons_succ])
        apply takeH (i := 4) rfl (by kernel_rfl) (by kernel_rfl) (by kernel_rfl) (fun _ _ _ h => h) (by rfl)
        case hy => (intro w hSw; (try dsimp only at hSw); go_simp; try with_reducible rfl)
        case hS => assumption
        (try simp only [Act.put, List.setIfInBounds_toArray, List.set_cons_zero, List.set_cons_succ])
        apply takeH (i := 5) rfl (by kernel_rfl) (by kernel_rfl) (by kernel_rfl) (fun _ _ _ h => h) (by rfl)
        case hy => (intro w hSw; (try dsimp only at hSw); go_simp; try with_reducible rfl)
        case hS => assumption
        (try simp only [Act.put, List.setIfInBounds_toArray, List.set_cons_zero, List.set_cons_succ])
        refine doH2 (i := 3) (j := 11) rfl rfl (by kernel_rfl) (by rfl) (by rfl) (fun K hK => ?_) (fun K hK => ?_)
        · go_simp
          refine (HOX.out _ (hxz.below hb0)).mono ?_
          rintro e wx3 ⟨v3, rfl, own3, hwx3'⟩
          obtain ⟨o3, c3, hv3, _⟩ := own3.formd
          rw [HKX.out] at hv3
          subst hv3
          have hwx3 : Below wz.heap.size wz wx3 := hb0.trans (hwx3'.mono hb0.size)
          go_wp2_with fail
          refine hK.out _ _ ?_ (fun hHeld3 => ?_)
          · (refine HKP.out _ ?_; exact hwx3)
          clear hK K
          (try simp only [Act.put, List.setIfInBounds_toArray, List.set_cons_zero, List.set_cons_succ])
          refine doH2 (i := 6) (j := 11) rfl rfl (by kernel_rfl) (by rfl) (by rfl) (fun K hK => ?_) (fun K hK => ?_)
          · go_simp
            refine (HOY.out _ (hy7.below hwx3)).mono ?_
            rintro e w3x6 ⟨v6, rfl, own6, hw3x6'⟩
            obtain ⟨o6, c6, hv6, _⟩ := own6.formd
            rw [HKY.out] at hv6
            subst hv6
            have hw3x6 : Below wz.heap.size wz w3x6 := hwx3.trans (hw3x6'.mono hwx3.size)
            have own3 := own3.below hw3x6'
            go_wp2_with fail
            refine hK.out _ _ ?_ (fun hHeld6 => ?_)
            · (refine HKP.out _ ?_; exact hw3x6)
            clear hK K
            (try simp only [Act.put, List.setIfInBounds_toArray, List.set_cons_zero, List.set_cons_succ])
            refine doH2 (i := 7) (j := 11) rfl rfl (by kernel_rfl) (by rfl) (by rfl) (fun K hK => ?_) (fun K hK => ?_)
            · go_simp
              obtain ⟨_, hs3, hc3, hn3⟩ := own_facts own3
              obtain ⟨_, hs6, hc6, _⟩ := own_facts own6
              refine (HJ.out o3 c3 hc3 hn3 o6 c6 hc6 _ hs3 hs6).mono ?_
              intro e w36x7 hrj
              obtain ⟨⟨v7, rfl, own7⟩, hw36x7'⟩ := HRJ.out _ _ _ hrj
              obtain ⟨o7, c7, hv7, _⟩ := own7.formd
              rw [HKN.out] at hv7
              subst hv7
              have hw36x7 : Below wz.heap.size wz w36x7 := hw3x6.trans (hw36x7'.mono hw3x6.size)
              go_wp2_with fail
              refine hK.out _ _ ?_ (fun hHeld7 => ?_)
              · (refine HKP.out _ ?_; exact hw36x7)
              clear hK K
              (try simp only [Act.put, List.setIfInBounds_toArray, List.set_cons_zero, List.set_cons_succ])
              apply takeH (i := 8) rfl (by kernel_rfl) (by kernel_rfl) (by kernel_rfl) (fun _ _ _ h => h) (by rfl)
              case hy => (intro w hSw; (try dsimp only at hSw); go_simp; try with_reducible rfl)
              case hS => assumption
              (try simp only [Act.put, List.setIfInBounds_toArray, List.set_cons_zero, List.set_cons_succ])
              apply takeH (i := 9) rfl (by kernel_rfl) (by kernel_rfl) (by kernel_rfl) (fun _ _ _ h => h) (by rfl)
              case hy => (intro w hSw; (try dsimp only at hSw); go_simp; try with_reducible rfl)
              case hS => assumption
              (try simp only [Act.put, List.setIfInBounds_toArray, List.set_cons_zero, List.set_cons_succ])
              apply takeH (i := 10) rfl (by kernel_rfl) (by kernel_rfl) (by kernel_rfl) (fun _ _ _ h => h) (by rfl)
              case hy => (intro w hSw; (try dsimp only at hSw); go_simp; try with_reducible rfl)
              case hS => assumption
              (try simp only [Act.put, List.setIfInBounds_toArray, List.set_cons_zero, List.set_cons_succ])
              refine doH (i := 11) rfl (by kernel_rfl) (by rfl) (fun K hK => ?_)
              go_simp
              have hgxz : wz.heap.size ≤ w36x7.heap.size := hw36x7.size
              have hw367x11 := hw36x7.alloc hw36x7.size (.cells #[.int .i64 0, .slice none 0 0] 33)
              have blk : Blk (w36x7.alloc (.cells #[.int .i64 0, .slice none 0 0] 33)) w36x7.heap.size 33 #[.int .i64 0, .slice none 0 0] := Blk.new _ _ _
              have hg7 : ∀ g, (Value.slice o7 kn c7).ownBlock = some g → g ≠ w36x7.heap.size := fun g hg e => by have := (World.ownsRow.lt own7 g hg).2; omega
              have own7 : Own (w36x7.alloc (.cells #[.int .i64 0, .slice none 0 0] 33)) _ (.slice o7 kn c7) (ofM (X ++ Y)) := World.ownsRow.alloc own7 _
              obtain ⟨w367x11, hw367x11e⟩ : ∃ w367x11, w36x7.alloc (.cells #[.int .i64 0, .slice none 0 0] 33) = w367x11 := ⟨_, rfl⟩
              obtain ⟨gx, hgx⟩ : ∃ gx, w36x7.heap.size = gx := ⟨_, rfl⟩
              rw [hw367x11e] at hw367x11 blk ⊢
              rw [hgx] at blk hgxz ⊢
              rw [hw367x11e] at own7
              rw [hgx] at hg7
              refine hK.out _ _ ?_ (fun hHeld11 => ?_)
              · (refine HKP.out _ ?_; exact hw367x11)
              clear hK K
              (try simp only [Act.put, List.setIfInBounds_toArray, List.set_cons_zero, List.set_cons_succ])
              have c0 : w367x11.cell? ⟨gx, 0, none⟩ = some (.int .i64 0) := blk.cell 0
              have c1 : w367x11.cell? ⟨gx, 1, none⟩ = some (.slice none 0 0) := blk.cell 1
              have f0 := blk.frozen 0
              have f1 := blk.frozen 1
              refine doH (i := 12) rfl (by kernel_rfl) (by rfl) (fun K hK => ?_)
              go_simp
              have hbE := (hw367x11.setCell (p := ⟨gx, 0, none⟩) hgxz (.int .i64 N)).setCell (p := ⟨gx, 1, none⟩) hgxz (.slice o7 kn c7)
              have hME : Blk ((w367x11.setCell ⟨gx, 0, none⟩ (.int .i64 N)).setCell ⟨gx, 1, none⟩ (.slice o7 kn c7)) gx 33 #[.int .i64 N, .slice o7 kn c7] := (blk.set_ 0 (.int .i64 N)).set_ 1 (.slice o7 kn c7)
              have hOE := own_off (own_off own7 (p := ⟨gx, 0, none⟩) (fun e => hg7 _ e rfl) (.int .i64 N)) (p := ⟨gx, 1, none⟩) (fun e => hg7 _ e rfl) (.slice o7 kn c7)
              obtain ⟨wE, hwE⟩ : ∃ wE, (w367x11.setCell ⟨gx, 0, none⟩ (.int .i64 N)).setCell ⟨gx, 1, none⟩ (.slice o7 kn c7) = wE := ⟨_, rfl⟩
              rw [hwE] at hbE hME hOE ⊢
              refine hK.out _ _ ?_ (fun hHeld12 => ?_)
              · (refine HKP.out _ ?_; exact hbE)
              clear hK K
              (try simp only [Act.put, List.setIfInBounds_toArray, List.set_cons_zero, List.set_cons_succ])
              apply takeH (i := 13) rfl (by kernel_rfl) (by kernel_rfl) (by kernel_rfl) (fun _ _ _ h => h) (by rfl)
              case hy => (intro w hSw; (try dsimp only at hSw); go_simp; try with_reducible rfl)
              case hS => assumption
              (try simp only [Act.put, List.setIfInBounds_toArray, List.set_cons_zero, List.set_cons_succ])
              refine wpAnyH_done (by kernel_rfl) ?_ _
              have hBE := hBz.trans (hbE.mono hBz.size)
              go_wp2_with fail
              refine (HSZ.out _).mono ?_
              rintro e wF ⟨vF, rfl, hvF, hbF⟩
              obtain ⟨os, cs, hvs, hIs, _⟩ := hvF.formc
              rw [HLS.out] at hvs
              subst hvs
              have hBF := hBE.trans (hbF.mono hBE.size)
              have hMF := hME.below hbF hME.lt
              have hOF := hOE.below hbF
              have hxF := (hxz.below hbE).below hbF
              have hyF := (hy7.below hbE).below hbF
              obtain ⟨wa, hwa⟩ : ∃ wa, wF.alloc (.cells #[] 9) = wa := ⟨_, rfl⟩
              have hba : Below wF.heap.size wF wa := by rw [← hwa]; exact (Below.refl _ _).alloc (Nat.le_refl _) _
              have hm0 : Own wa wF.heap.size (.slice (some ⟨wF.heap.size, 0, none⟩) 0 0) [] := by rw [← hwa]; exact World.ownsRow_made wF #[] 0 (Nat.le_refl _) (by unfold maxLen; omega) rfl
              obtain ⟨va1, wb, hra, ownb, hgb, _⟩ := append_strs hm0 ox ma cx HX.out (hxF.below hba) hnx (by simp; omega) hba.size
              have hbb := own_below2 hba hm0 (Nat.le_refl _) hgb
              rw [List.nil_append] at ownb
              obtain ⟨vb1, wc, hrb, ownc, hgc, _⟩ := append_strs ownb oy mb cy HY.out (hyF.below hbb) hny (by rw [HX.out]; omega) hbb.size
              have hbc := own_below2 hbb ownb (Nat.le_refl _) hgc
              obtain ⟨oc, cc, hvc, hsc, hcc, _⟩ := ownc.formd
              rw [HXY.out] at hvc hcc
              subst hvc
              have HWA := Lib.hid hwa
              have hMc := hMF.below hbc hMF.lt
              have hBc := hBF.trans (hbc.mono hBF.size)
              have hsOc := (hOF.below hbc).strs
              have HKQ := Lib.hid (show ∀ W, Below wc.heap.size wc W → ((loadVar 3 ⟨gx, 0, none⟩).run Try.prog W = .ok (.int .i64 N) W ∧ (loadVar 22 ⟨gx, 1, none⟩).run Try.prog W = .ok (.slice o7 kn c7) W) ∧ Below wc.heap.size wc W from fun W hW => ⟨⟨ld_int ((hMc.below hW hMc.lt).cell 0), ld_sl ((hMc.below hW hMc.lt).cell 1)⟩, hW⟩)
              have hI0 := hIs
              clear hHeld12 HKP hvF hME hMF hOE hOF hBE hwa hm0 hgb hgc ownb ownc hba hbb hMc hBF hxF hyF
              by_cases hma0 : 0 < ma
              · obtain ⟨hls0, hgl⟩ := HLW.out hma0
                obtain ⟨lp, hlp⟩ : ∃ lp, ls - 1 = lp := ⟨_, rfl⟩
                rw [hlp] at hgl
                obtain ⟨adr, rfl, _, hcl⟩ := hI0 lp (by rw [HLS.out]; omega)
                rw [hgl] at hcl
                have hlq := ld_int hcl
                have hl1 : (ls : Int) - 1 = (lp : Int) := by omega
                have hl2 : (0 : Int) < (ls : Int) := by omega
                have hl3 : (lp : Int) < (ls : Int) := by omega
                have hl4 : ¬ (low : Int) < (mb : Int) := by omega
                clear hIs hI0 hlp hcl
                go_wp2_with (first | rw [HWA.out] | (at_builtin; refine Lib.wpList_append_run _ rfl _ _ 22 22 rfl _ _ rfl rfl _ _ hra ?_) | (at_builtin; refine Lib.wpList_append_run _ rfl _ _ 22 22 rfl _ _ rfl rfl _ _ hrb ?_))
                refine wp_region_held_drew (S := fun W => ((loadVar 3 ⟨gx, 0, none⟩).run Try.prog W = .ok (.int .i64 N) W ∧ (loadVar 22 ⟨gx, 1, none⟩).run Try.prog W = .ok (.slice o7 kn c7) W) ∧ Below wc.heap.size wc W) (by kernel_rfl) ?_ (fun hHeld0 => ?_)
                · (refine HKQ.out _ ?_; first | exact hbH | exact hbG | exact (Below.refl _ _).drew | exact Below.refl _ _)
                apply takeH (i := 0) rfl (by kernel_rfl) (by kernel_rfl) (by kernel_rfl) (fun _ _ _ h => h) (by rfl)
                case hy => (intro w hSw; (try dsimp only at hSw); go_simp; try with_reducible rfl)
                case hS => assumption
                (try simp only [Act.put, List.setIfInBounds_toArray, List.set_cons_zero, List.set_cons_succ])
                apply takeH (i := 1) rfl (by kernel_rfl) (by kernel_rfl) (by kernel_rfl) (fun _ _ _ h => h) (by rfl)
                case hy => (intro w hSw; (try dsimp only at hSw); go_simp; try with_reducible rfl)
                case hS => assumption
                (try simp only [Act.put, List.setIfInBounds_toArray, List.set_cons_zero, List.set_cons_succ])
                apply takeH (i := 2) rfl (by kernel_rfl) (by kernel_rfl) (by kernel_rfl) (fun _ _ _ h => h) (by rfl)
                case hy => (intro w hSw; (try dsimp only at hSw); go_simp; try with_reducible rfl)
                case hS => assumption
                (try simp only [Act.put, List.setIfInBounds_toArray, List.set_cons_zero, List.set_cons_succ])
                apply takeH (i := 3) rfl (by kernel_rfl) (by kernel_rfl) (by kernel_rfl) (fun _ _ _ h => h) (by rfl)
                case hy => (intro w hSw; (try dsimp only at hSw); go_simp; try with_reducible rfl)
                case hS => assumption
                (try simp only [Act.put, List.setIfInBounds_toArray, List.set_cons_zero, List.set_cons_succ])
                apply takeH (i := 4) rfl (by kernel_rfl) (by kernel_rfl) (by kernel_rfl) (fun _ _ _ h => h) (by rfl)
                case hy => (intro w hSw; (try dsimp only at hSw); go_simp; try with_reducible rfl)
                case hS => assumption
                (try simp only [Act.put, List.setIfInBounds_toArray, List.set_cons_zero, List.set_cons_succ])
                apply takeH (i := 5) rfl (by kernel_rfl) (by kernel_rfl) (by kernel_rfl) (fun _ _ _ h => h) (by rfl)
                case hy => (intro w hSw; (try dsimp only at hSw); go_simp; try with_reducible rfl)
                case hS => assumption
                (try simp only [Act.put, List.setIfInBounds_toArray, List.set_cons_zero, List.set_cons_succ])
                apply takeH (i := 6) rfl (by kernel_rfl) (by kernel_rfl) (by kernel_rfl) (fun _ _ _ h => h) (by rfl)
                case hy => (intro w hSw; (try dsimp only at hSw); go_simp; try with_reducible rfl)
                case hS => assumption
                (try simp only [Act.put, List.setIfInBounds_toArray, List.set_cons_zero, List.set_cons_succ])
                apply takeH (i := 7) rfl (by kernel_rfl) (by kernel_rfl) (by kernel_rfl) (fun _ _ _ h => h) (by rfl)
                case hy => (intro w hSw; (try dsimp only at hSw); go_simp; try with_reducible rfl)
                case hS => assumption
                (try simp only [Act.put, List.setIfInBounds_toArray, List.set_cons_zero, List.set_cons_succ])
                apply takeH (i := 8) rfl (by kernel_rfl) (by kernel_rfl) (by kernel_rfl) (fun _ _ _ h => h) (by rfl)
                case hy => (intro w hSw; (try dsimp only at hSw); go_simp; try with_reducible rfl)
                case hS => assumption
                (try simp only [Act.put, List.setIfInBounds_toArray, List.set_cons_zero, List.set_cons_succ])
                apply takeH (i := 9) rfl (by kernel_rfl) (by kernel_rfl) (by kernel_rfl) (fun _ _ _ h => h) (by rfl)
                case hy => (intro w hSw; (try dsimp only at hSw); go_simp; try with_reducible rfl)
                case hS => assumption
                (try simp only [Act.put, List.setIfInBounds_toArray, List.set_cons_zero, List.set_cons_succ])
                apply takeH (i := 10) rfl (by kernel_rfl) (by kernel_rfl) (by kernel_rfl) (fun _ _ _ h => h) (by rfl)
                case hy => (intro w hSw; (try dsimp only at hSw); go_simp; try with_reducible rfl)
                case hS => assumption
                (try simp only [Act.put, List.setIfInBounds_toArray, List.set_cons_zero, List.set_cons_succ])
                apply takeH (i := 11) rfl (by kernel_rfl) (by kernel_rfl) (by kernel_rfl) (fun _ _ _ h => h) (by rfl)
                case hy => (intro w hSw; (try dsimp only at hSw); go_simp; try with_reducible rfl)
                case hS => assumption
                (try simp only [Act.put, List.setIfInBounds_toArray, List.set_cons_zero, List.set_cons_succ])
                apply takeH (i := 12) rfl (by kernel_rfl) (by kernel_rfl) (by kernel_rfl) (fun _ _ _ h => h) (by rfl)
                case hy => (intro w hSw; (try dsimp only at hSw); go_simp; try with_reducible rfl)
                case hS => assumption
                (try simp only [Act.put, List.setIfInBounds_toArray, List.set_cons_zero, List.set_cons_succ])
                refine doH (i := 13) rfl (by kernel_rfl) (by rfl) (fun K hK => ?_)
                go_simp
                refine (HROF.out _ _ hcc _ (hsc.below hHeld0.2)).mono ?_
                rintro e wG ⟨vG, rfl, hvG, hbG'⟩
                obtain ⟨og, cg, hvg, hsg, _⟩ := hvG.formd
                rw [HKN.out] at hvg
                subst hvg
                have hbG : Below wc.heap.size wc wG := hHeld0.2.trans (hbG'.mono hHeld0.2.size)
                go_wp2_with fail
                refine hK.out _ _ ?_ (fun hHeld13 => ?_)
                · (refine HKQ.out _ ?_; first | exact hbH | exact hbG | exact (Below.refl _ _).drew | exact Below.refl _ _)
                clear hK K
                (try simp only [Act.put, List.setIfInBounds_toArray, List.set_cons_zero, List.set_cons_succ])
                refine doH (i := 14) rfl (by kernel_rfl) (by rfl) (fun K hK => ?_)
                go_simp
                refine (HSAME.out _ _ _ _ _ (hsOc.below hbG) hsg).mono ?_
                rintro e wH ⟨rfl, hbH'⟩
                have hbH : Below wc.heap.size wc wH := hbG.trans (hbH'.mono hbG.size)
                go_wp2_with fail
                refine hK.out _ _ ?_ (fun hHeld14 => ?_)
                · (refine HKQ.out _ ?_; first | exact hbH | exact hbG | exact (Below.refl _ _).drew | exact Below.refl _ _)
                clear hK K
                (try simp only [Act.put, List.setIfInBounds_toArray, List.set_cons_zero, List.set_cons_succ])
                apply takeH (i := 15) rfl (by kernel_rfl) (by kernel_rfl) (by kernel_rfl) (fun _ _ _ h => h) (by rfl)
                case hy => (intro w hSw; (try dsimp only at hSw); go_simp; try with_reducible rfl)
                case hS => assumption
                (try simp only [Act.put, List.setIfInBounds_toArray, List.set_cons_zero, List.set_cons_succ])
                apply takeH (i := 16) rfl (by kernel_rfl) (by kernel_rfl) (by kernel_rfl) (fun _ _ _ h => h) (by rfl)
                case hy => (intro w hSw; (try dsimp only at hSw); go_simp; try with_reducible rfl)
                case hS => assumption
                (try simp only [Act.put, List.setIfInBounds_toArray, List.set_cons_zero, List.set_cons_succ])
                refine wpAnyH_done (by kernel_rfl) ?_ _
                have hBf := hBc.trans (hbH.mono hBc.size)
                go_wp2
                go_ret
                exact ⟨rfl, hBf⟩
              · have hls0 := HL0.out (by omega)
                subst hls0
                clear hIs hI0
                go_wp2_with (first | rw [HWA.out] | (at_builtin; refine Lib.wpList_append_run _ rfl _ _ 22 22 rfl _ _ rfl rfl _ _ hra ?_) | (at_builtin; refine Lib.wpList_append_run _ rfl _ _ 22 22 rfl _ _ rfl rfl _ _ hrb ?_))
                refine wp_region_held_drew (S := fun W => ((loadVar 3 ⟨gx, 0, none⟩).run Try.prog W = .ok (.int .i64 N) W ∧ (loadVar 22 ⟨gx, 1, none⟩).run Try.prog W = .ok (.slice o7 kn c7) W) ∧ Below wc.heap.size wc W) (by kernel_rfl) ?_ (fun hHeld0 => ?_)
                · (refine HKQ.out _ ?_; first | exact hbH | exact hbG | exact (Below.refl _ _).drew | exact Below.refl _ _)
                apply takeH (i := 0) rfl (by kernel_rfl) (by kernel_rfl) (by kernel_rfl) (fun _ _ _ h => h) (by rfl)
                case hy => (intro w hSw; (try dsimp only at hSw); go_simp; try with_reducible rfl)
                case hS => assumption
                (try simp only [Act.put, List.setIfInBounds_toArray, List.set_cons_zero, List.set_cons_succ])
                apply takeH (i := 1) rfl (by kernel_rfl) (by kernel_rfl) (by kernel_rfl) (fun _ _ _ h => h) (by rfl)
                case hy => (intro w hSw; (try dsimp only at hSw); go_simp; try with_reducible rfl)
                case hS => assumption
                (try simp only [Act.put, List.setIfInBounds_toArray, List.set_cons_zero, List.set_cons_succ])
                apply takeH (i := 2) rfl (by kernel_rfl) (by kernel_rfl) (by kernel_rfl) (fun _ _ _ h => h) (by rfl)
                case hy => (intro w hSw; (try dsimp only at hSw); go_simp; try with_reducible rfl)
                case hS => assumption
                (try simp only [Act.put, List.setIfInBounds_toArray, List.set_cons_zero, List.set_cons_succ])
                apply takeH (i := 3) rfl (by kernel_rfl) (by kernel_rfl) (by kernel_rfl) (fun _ _ _ h => h) (by rfl)
                case hy => (intro w hSw; (try dsimp only at hSw); go_simp; try with_reducible rfl)
                case hS => assumption
                (try simp only [Act.put, List.setIfInBounds_toArray, List.set_cons_zero, List.set_cons_succ])
                apply takeH (i := 4) rfl (by kernel_rfl) (by kernel_rfl) (by kernel_rfl) (fun _ _ _ h => h) (by rfl)
                case hy => (intro w hSw; (try dsimp only at hSw); go_simp; try with_reducible rfl)
                case hS => assumption
                (try simp only [Act.put, List.setIfInBounds_toArray, List.set_cons_zero, List.set_cons_succ])
                apply takeH (i := 5) rfl (by kernel_rfl) (by kernel_rfl) (by kernel_rfl) (fun _ _ _ h => h) (by rfl)
                case hy => (intro w hSw; (try dsimp only at hSw); go_simp; try with_reducible rfl)
                case hS => assumption
                (try simp only [Act.put, List.setIfInBounds_toArray, List.set_cons_zero, List.set_cons_succ])
                apply takeH (i := 6) rfl (by kernel_rfl) (by kernel_rfl) (by kernel_rfl) (fun _ _ _ h => h) (by rfl)
                case hy => (intro w hSw; (try dsimp only at hSw); go_simp; try with_reducible rfl)
                case hS => assumption
                (try simp only [Act.put, List.setIfInBounds_toArray, List.set_cons_zero, List.set_cons_succ])
                apply takeH (i := 7) rfl (by kernel_rfl) (by kernel_rfl) (by kernel_rfl) (fun _ _ _ h => h) (by rfl)
                case hy => (intro w hSw; (try dsimp only at hSw); go_simp; try with_reducible rfl)
                case hS => assumption
                (try simp only [Act.put, List.setIfInBounds_toArray, List.set_cons_zero, List.set_cons_succ])
                apply takeH (i := 8) rfl (by kernel_rfl) (by kernel_rfl) (by kernel_rfl) (fun _ _ _ h => h) (by rfl)
                case hy => (intro w hSw; (try dsimp only at hSw); go_simp; try with_reducible rfl)
                case hS => assumption
                (try simp only [Act.put, List.setIfInBounds_toArray, List.set_cons_zero, List.set_cons_succ])
                apply takeH (i := 9) rfl (by kernel_rfl) (by kernel_rfl) (by kernel_rfl) (fun _ _ _ h => h) (by rfl)
                case hy => (intro w hSw; (try dsimp only at hSw); go_simp; try with_reducible rfl)
                case hS => assumption
                (try simp only [Act.put, List.setIfInBounds_toArray, List.set_cons_zero, List.set_cons_succ])
                apply takeH (i := 10) rfl (by kernel_rfl) (by kernel_rfl) (by kernel_rfl) (fun _ _ _ h => h) (by rfl)
                case hy => (intro w hSw; (try dsimp only at hSw); go_simp; try with_reducible rfl)
                case hS => assumption
                (try simp only [Act.put, List.setIfInBounds_toArray, List.set_cons_zero, List.set_cons_succ])
                apply takeH (i := 11) rfl (by kernel_rfl) (by kernel_rfl) (by kernel_rfl) (fun _ _ _ h => h) (by rfl)
                case hy => (intro w hSw; (try dsimp only at hSw); go_simp; try with_reducible rfl)
                case hS => assumption
                (try simp only [Act.put, List.setIfInBounds_toArray, List.set_cons_zero, List.set_cons_succ])
                apply takeH (i := 12) rfl (by kernel_rfl) (by kernel_rfl) (by kernel_rfl) (fun _ _ _ h => h) (by rfl)
                case hy => (intro w hSw; (try dsimp only at hSw); go_simp; try with_reducible rfl)
                case hS => assumption
                (try simp only [Act.put, List.setIfInBounds_toArray, List.set_cons_zero, List.set_cons_succ])
                refine doH (i := 13) rfl (by kernel_rfl) (by rfl) (fun K hK => ?_)
                go_simp
                refine (HROF.out _ _ hcc _ (hsc.below hHeld0.2)).mono ?_
                rintro e wG ⟨vG, rfl, hvG, hbG'⟩
                obtain ⟨og, cg, hvg, hsg, _⟩ := hvG.formd
                rw [HKN.out] at hvg
                subst hvg
                have hbG : Below wc.heap.size wc wG := hHeld0.2.trans (hbG'.mono hHeld0.2.size)
                go_wp2_with fail
                refine hK.out _ _ ?_ (fun hHeld13 => ?_)
                · (refine HKQ.out _ ?_; first | exact hbH | exact hbG | exact (Below.refl _ _).drew | exact Below.refl _ _)
                clear hK K
                (try simp only [Act.put, List.setIfInBounds_toArray, List.set_cons_zero, List.set_cons_succ])
                refine doH (i := 14) rfl (by kernel_rfl) (by rfl) (fun K hK => ?_)
                go_simp
                refine (HSAME.out _ _ _ _ _ (hsOc.below hbG) hsg).mono ?_
                rintro e wH ⟨rfl, hbH'⟩
                have hbH : Below wc.heap.size wc wH := hbG.trans (hbH'.mono hbG.size)
                go_wp2_with fail
                refine hK.out _ _ ?_ (fun hHeld14 => ?_)
                · (refine HKQ.out _ ?_; first | exact hbH | exact hbG | exact (Below.refl _ _).drew | exact Below.refl _ _)
                clear hK K
                (try simp only [Act.put, List.setIfInBounds_toArray, List.set_cons_zero, List.set_cons_succ])
                apply takeH (i := 15) rfl (by kernel_rfl) (by kernel_rfl) (by kernel_rfl) (fun _ _ _ h => h) (by rfl)
                case hy => (intro w hSw; (try dsimp only at hSw); go_simp; try with_reducible rfl)
                case hS => assumption
                (try simp only [Act.put, List.setIfInBounds_toArray, List.set_cons_zero, List.set_cons_succ])
                apply takeH (i := 16) rfl (by kernel_rfl) (by kernel_rfl) (by kernel_rfl) (fun _ _ _ h => h) (by rfl)
                case hy => (intro w hSw; (try dsimp only at hSw); go_simp; try with_reducible rfl)
                case hS => assumption
                (try simp only [Act.put, List.setIfInBounds_toArray, List.set_cons_zero, List.set_cons_succ])
                refine wpAnyH_done (by kernel_rfl) ?_ _
                have hBf := hBc.trans (hbH.mono hBc.size)
                go_wp2
                go_ret
                exact ⟨rfl, hBf⟩
            · go_simp
              have hgxz : wz.heap.size ≤ w3x6.heap.size := hw3x6.size
              have hw36x11 := hw3x6.alloc hw3x6.size (.cells #[.int .i64 0, .slice none 0 0] 33)
              have blk : Blk (w3x6.alloc (.cells #[.int .i64 0, .slice none 0 0] 33)) w3x6.heap.size 33 #[.int .i64 0, .slice none 0 0] := Blk.new _ _ _
              have own3 : Own (w3x6.alloc (.cells #[.int .i64 0, .slice none 0 0] 33)) _ (.slice o3 kx c3) (ofM X) := World.ownsRow.alloc own3 _
              have own6 : Own (w3x6.alloc (.cells #[.int .i64 0, .slice none 0 0] 33)) _ (.slice o6 ky c6) (ofM Y) := World.ownsRow.alloc own6 _
              obtain ⟨w36x11, hw36x11e⟩ : ∃ w36x11, w3x6.alloc (.cells #[.int .i64 0, .slice none 0 0] 33) = w36x11 := ⟨_, rfl⟩
              obtain ⟨gx, hgx⟩ : ∃ gx, w3x6.heap.size = gx := ⟨_, rfl⟩
              rw [hw36x11e] at hw36x11 blk ⊢
              rw [hgx] at blk hgxz ⊢
              rw [hw36x11e] at own3
              rw [hw36x11e] at own6
              refine hK.out _ _ ?_ (fun hHeld11 => ?_)
              · (refine HKP.out _ ?_; exact hw36x11)
              clear hK K
              (try simp only [Act.put, List.setIfInBounds_toArray, List.set_cons_zero, List.set_cons_succ])
              refine doH (i := 7) rfl (by kernel_rfl) (by rfl) (fun K hK => ?_)
              go_simp
              have hgxl := blk.lt
              obtain ⟨_, hs3, hc3, hn3⟩ := own_facts own3
              obtain ⟨_, hs6, hc6, _⟩ := own_facts own6
              refine (HJ.out o3 c3 hc3 hn3 o6 c6 hc6 _ hs3 hs6).mono ?_
              intro e w3611x7 hrj
              obtain ⟨⟨v7, rfl, own7⟩, hw3611x7'⟩ := HRJ.out _ _ _ hrj
              obtain ⟨o7, c7, hv7, _⟩ := own7.formd
              rw [HKN.out] at hv7
              subst hv7
              have hw3611x7 : Below wz.heap.size wz w3611x7 := hw36x11.trans (hw3611x7'.mono hw36x11.size)
              have blk := blk.below hw3611x7' blk.lt
              go_wp2_with fail
              refine hK.out _ _ ?_ (fun hHeld7 => ?_)
              · (refine HKP.out _ ?_; exact hw3611x7)
              clear hK K
              (try simp only [Act.put, List.setIfInBounds_toArray, List.set_cons_zero, List.set_cons_succ])
              apply takeH (i := 8) rfl (by kernel_rfl) (by kernel_rfl) (by kernel_rfl) (fun _ _ _ h => h) (by rfl)
              case hy => (intro w hSw; (try dsimp only at hSw); go_simp; try with_reducible rfl)
              case hS => assumption
              (try simp only [Act.put, List.setIfInBounds_toArray, List.set_cons_zero, List.set_cons_succ])
              apply takeH (i := 9) rfl (by kernel_rfl) (by kernel_rfl) (by kernel_rfl) (fun _ _ _ h => h) (by rfl)
              case hy => (intro w hSw; (try dsimp only at hSw); go_simp; try with_reducible rfl)
              case hS => assumption
              (try simp only [Act.put, List.setIfInBounds_toArray, List.set_cons_zero, List.set_cons_succ])
              apply takeH (i := 10) rfl (by kernel_rfl) (by kernel_rfl) (by kernel_rfl) (fun _ _ _ h => h) (by rfl)
              case hy => (intro w hSw; (try dsimp only at hSw); go_simp; try with_reducible rfl)
              case hS => assumption
              (try simp only [Act.put, List.setIfInBounds_toArray, List.set_cons_zero, List.set_cons_succ])
              have hg7 : ∀ g, (Value.slice o7 kn c7).ownBlock = some g → g ≠ gx := fun g hg e => by have h1 := (World.ownsRow.lt own7 g hg).1; have h2 := hgxl; omega
              have c0 : w3611x7.cell? ⟨gx, 0, none⟩ = some (.int .i64 0) := blk.cell 0
              have c1 : w3611x7.cell? ⟨gx, 1, none⟩ = some (.slice none 0 0) := blk.cell 1
              have f0 := blk.frozen 0
              have f1 := blk.frozen 1
              refine doH (i := 12) rfl (by kernel_rfl) (by rfl) (fun K hK => ?_)
              go_simp
              have hbE := (hw3611x7.setCell (p := ⟨gx, 0, none⟩) hgxz (.int .i64 N)).setCell (p := ⟨gx, 1, none⟩) hgxz (.slice o7 kn c7)
              have hME : Blk ((w3611x7.setCell ⟨gx, 0, none⟩ (.int .i64 N)).setCell ⟨gx, 1, none⟩ (.slice o7 kn c7)) gx 33 #[.int .i64 N, .slice o7 kn c7] := (blk.set_ 0 (.int .i64 N)).set_ 1 (.slice o7 kn c7)
              have hOE := own_off (own_off own7 (p := ⟨gx, 0, none⟩) (fun e => hg7 _ e rfl) (.int .i64 N)) (p := ⟨gx, 1, none⟩) (fun e => hg7 _ e rfl) (.slice o7 kn c7)
              obtain ⟨wE, hwE⟩ : ∃ wE, (w3611x7.setCell ⟨gx, 0, none⟩ (.int .i64 N)).setCell ⟨gx, 1, none⟩ (.slice o7 kn c7) = wE := ⟨_, rfl⟩
              rw [hwE] at hbE hME hOE ⊢
              refine hK.out _ _ ?_ (fun hHeld12 => ?_)
              · (refine HKP.out _ ?_; exact hbE)
              clear hK K
              (try simp only [Act.put, List.setIfInBounds_toArray, List.set_cons_zero, List.set_cons_succ])
              apply takeH (i := 13) rfl (by kernel_rfl) (by kernel_rfl) (by kernel_rfl) (fun _ _ _ h => h) (by rfl)
              case hy => (intro w hSw; (try dsimp only at hSw); go_simp; try with_reducible rfl)
              case hS => assumption
              (try simp only [Act.put, List.setIfInBounds_toArray, List.set_cons_zero, List.set_cons_succ])
              refine wpAnyH_done (by kernel_rfl) ?_ _
              have hBE := hBz.trans (hbE.mono hBz.size)
              go_wp2_with fail
              refine (HSZ.out _).mono ?_
              rintro e wF ⟨vF, rfl, hvF, hbF⟩
              obtain ⟨os, cs, hvs, hIs, _⟩ := hvF.formc
              rw [HLS.out] at hvs
              subst hvs
              have hBF := hBE.trans (hbF.mono hBE.size)
              have hMF := hME.below hbF hME.lt
              have hOF := hOE.below hbF
              have hxF := (hxz.below hbE).below hbF
              have hyF := (hy7.below hbE).below hbF
              obtain ⟨wa, hwa⟩ : ∃ wa, wF.alloc (.cells #[] 9) = wa := ⟨_, rfl⟩
              have hba : Below wF.heap.size wF wa := by rw [← hwa]; exact (Below.refl _ _).alloc (Nat.le_refl _) _
              have hm0 : Own wa wF.heap.size (.slice (some ⟨wF.heap.size, 0, none⟩) 0 0) [] := by rw [← hwa]; exact World.ownsRow_made wF #[] 0 (Nat.le_refl _) (by unfold maxLen; omega) rfl
              obtain ⟨va1, wb, hra, ownb, hgb, _⟩ := append_strs hm0 ox ma cx HX.out (hxF.below hba) hnx (by simp; omega) hba.size
              have hbb := own_below2 hba hm0 (Nat.le_refl _) hgb
              rw [List.nil_append] at ownb
              obtain ⟨vb1, wc, hrb, ownc, hgc, _⟩ := append_strs ownb oy mb cy HY.out (hyF.below hbb) hny (by rw [HX.out]; omega) hbb.size
              have hbc := own_below2 hbb ownb (Nat.le_refl _) hgc
              obtain ⟨oc, cc, hvc, hsc, hcc, _⟩ := ownc.formd
              rw [HXY.out] at hvc hcc
              subst hvc
              have HWA := Lib.hid hwa
              have hMc := hMF.below hbc hMF.lt
              have hBc := hBF.trans (hbc.mono hBF.size)
              have hsOc := (hOF.below hbc).strs
              have HKQ := Lib.hid (show ∀ W, Below wc.heap.size wc W → ((loadVar 3 ⟨gx, 0, none⟩).run Try.prog W = .ok (.int .i64 N) W ∧ (loadVar 22 ⟨gx, 1, none⟩).run Try.prog W = .ok (.slice o7 kn c7) W) ∧ Below wc.heap.size wc W from fun W hW => ⟨⟨ld_int ((hMc.below hW hMc.lt).cell 0), ld_sl ((hMc.below hW hMc.lt).cell 1)⟩, hW⟩)
              have hI0 := hIs
              clear hHeld12 HKP hvF hME hMF hOE hOF hBE hwa hm0 hgb hgc ownb ownc hba hbb hMc hBF hxF hyF
              by_cases hma0 : 0 < ma
              · obtain ⟨hls0, hgl⟩ := HLW.out hma0
                obtain ⟨lp, hlp⟩ : ∃ lp, ls - 1 = lp := ⟨_, rfl⟩
                rw [hlp] at hgl
                obtain ⟨adr, rfl, _, hcl⟩ := hI0 lp (by rw [HLS.out]; omega)
                rw [hgl] at hcl
                have hlq := ld_int hcl
                have hl1 : (ls : Int) - 1 = (lp : Int) := by omega
                have hl2 : (0 : Int) < (ls : Int) := by omega
                have hl3 : (lp : Int) < (ls : Int) := by omega
                have hl4 : ¬ (low : Int) < (mb : Int) := by omega
                clear hIs hI0 hlp hcl
                go_wp2_with (first | rw [HWA.out] | (at_builtin; refine Lib.wpList_append_run _ rfl _ _ 22 22 rfl _ _ rfl rfl _ _ hra ?_) | (at_builtin; refine Lib.wpList_append_run _ rfl _ _ 22 22 rfl _ _ rfl rfl _ _ hrb ?_))
                refine wp_region_held_drew (S := fun W => ((loadVar 3 ⟨gx, 0, none⟩).run Try.prog W = .ok (.int .i64 N) W ∧ (loadVar 22 ⟨gx, 1, none⟩).run Try.prog W = .ok (.slice o7 kn c7) W) ∧ Below wc.heap.size wc W) (by kernel_rfl) ?_ (fun hHeld0 => ?_)
                · (refine HKQ.out _ ?_; first | exact hbH | exact hbG | exact (Below.refl _ _).drew | exact Below.refl _ _)
                apply takeH (i := 0) rfl (by kernel_rfl) (by kernel_rfl) (by kernel_rfl) (fun _ _ _ h => h) (by rfl)
                case hy => (intro w hSw; (try dsimp only at hSw); go_simp; try with_reducible rfl)
                case hS => assumption
                (try simp only [Act.put, List.setIfInBounds_toArray, List.set_cons_zero, List.set_cons_succ])
                apply takeH (i := 1) rfl (by kernel_rfl) (by kernel_rfl) (by kernel_rfl) (fun _ _ _ h => h) (by rfl)
                case hy => (intro w hSw; (try dsimp only at hSw); go_simp; try with_reducible rfl)
                case hS => assumption
                (try simp only [Act.put, List.setIfInBounds_toArray, List.set_cons_zero, List.set_cons_succ])
                apply takeH (i := 2) rfl (by kernel_rfl) (by kernel_rfl) (by kernel_rfl) (fun _ _ _ h => h) (by rfl)
                case hy => (intro w hSw; (try dsimp only at hSw); go_simp; try with_reducible rfl)
                case hS => assumption
                (try simp only [Act.put, List.setIfInBounds_toArray, List.set_cons_zero, List.set_cons_succ])
                apply takeH (i := 3) rfl (by kernel_rfl) (by kernel_rfl) (by kernel_rfl) (fun _ _ _ h => h) (by rfl)
                case hy => (intro w hSw; (try dsimp only at hSw); go_simp; try with_reducible rfl)
                case hS => assumption
                (try simp only [Act.put, List.setIfInBounds_toArray, List.set_cons_zero, List.set_cons_succ])
                apply takeH (i := 4) rfl (by kernel_rfl) (by kernel_rfl) (by kernel_rfl) (fun _ _ _ h => h) (by rfl)
                case hy => (intro w hSw; (try dsimp only at hSw); go_simp; try with_reducible rfl)
                case hS => assumption
                (try simp only [Act.put, List.setIfInBounds_toArray, List.set_cons_zero, List.set_cons_succ])
                apply takeH (i := 5) rfl (by kernel_rfl) (by kernel_rfl) (by kernel_rfl) (fun _ _ _ h => h) (by rfl)
                case hy => (intro w hSw; (try dsimp only at hSw); go_simp; try with_reducible rfl)
                case hS => assumption
                (try simp only [Act.put, List.setIfInBounds_toArray, List.set_cons_zero, List.set_cons_succ])
                apply takeH (i := 6) rfl (by kernel_rfl) (by kernel_rfl) (by kernel_rfl) (fun _ _ _ h => h) (by rfl)
                case hy => (intro w hSw; (try dsimp only at hSw); go_simp; try with_reducible rfl)
                case hS => assumption
                (try simp only [Act.put, List.setIfInBounds_toArray, List.set_cons_zero, List.set_cons_succ])
                apply takeH (i := 7) rfl (by kernel_rfl) (by kernel_rfl) (by kernel_rfl) (fun _ _ _ h => h) (by rfl)
                case hy => (intro w hSw; (try dsimp only at hSw); go_simp; try with_reducible rfl)
                case hS => assumption
                (try simp only [Act.put, List.setIfInBounds_toArray, List.set_cons_zero, List.set_cons_succ])
                apply takeH (i := 8) rfl (by kernel_rfl) (by kernel_rfl) (by kernel_rfl) (fun _ _ _ h => h) (by rfl)
                case hy => (intro w hSw; (try dsimp only at hSw); go_simp; try with_reducible rfl)
                case hS => assumption
                (try simp only [Act.put, List.setIfInBounds_toArray, List.set_cons_zero, List.set_cons_succ])
                apply takeH (i := 9) rfl (by kernel_rfl) (by kernel_rfl) (by kernel_rfl) (fun _ _ _ h => h) (by rfl)
                case hy => (intro w hSw; (try dsimp only at hSw); go_simp; try with_reducible rfl)
                case hS => assumption
                (try simp only [Act.put, List.setIfInBounds_toArray, List.set_cons_zero, List.set_cons_succ])
                apply takeH (i := 10) rfl (by kernel_rfl) (by kernel_rfl) (by kernel_rfl) (fun _ _ _ h => h) (by rfl)
                case hy => (intro w hSw; (try dsimp only at hSw); go_simp; try with_reducible rfl)
                case hS => assumption
                (try simp only [Act.put, List.setIfInBounds_toArray, List.set_cons_zero, List.set_cons_succ])
                apply takeH (i := 11) rfl (by kernel_rfl) (by kernel_rfl) (by kernel_rfl) (fun _ _ _ h => h) (by rfl)
                case hy => (intro w hSw; (try dsimp only at hSw); go_simp; try with_reducible rfl)
                case hS => assumption
                (try simp only [Act.put, List.setIfInBounds_toArray, List.set_cons_zero, List.set_cons_succ])
                apply takeH (i := 12) rfl (by kernel_rfl) (by kernel_rfl) (by kernel_rfl) (fun _ _ _ h => h) (by rfl)
                case hy => (intro w hSw; (try dsimp only at hSw); go_simp; try with_reducible rfl)
                case hS => assumption
                (try simp only [Act.put, List.setIfInBounds_toArray, List.set_cons_zero, List.set_cons_succ])
                refine doH (i := 13) rfl (by kernel_rfl) (by rfl) (fun K hK => ?_)
                go_simp
                refine (HROF.out _ _ hcc _ (hsc.below hHeld0.2)).mono ?_
                rintro e wG ⟨vG, rfl, hvG, hbG'⟩
                obtain ⟨og, cg, hvg, hsg, _⟩ := hvG.formd
                rw [HKN.out] at hvg
                subst hvg
                have hbG : Below wc.heap.size wc wG := hHeld0.2.trans (hbG'.mono hHeld0.2.size)
                go_wp2_with fail
                refine hK.out _ _ ?_ (fun hHeld13 => ?_)
                · (refine HKQ.out _ ?_; first | exact hbH | exact hbG | exact (Below.refl _ _).drew | exact Below.refl _ _)
                clear hK K
                (try simp only [Act.put, List.setIfInBounds_toArray, List.set_cons_zero, List.set_cons_succ])
                refine doH (i := 14) rfl (by kernel_rfl) (by rfl) (fun K hK => ?_)
                go_simp
                refine (HSAME.out _ _ _ _ _ (hsOc.below hbG) hsg).mono ?_
                rintro e wH ⟨rfl, hbH'⟩
                have hbH : Below wc.heap.size wc wH := hbG.trans (hbH'.mono hbG.size)
                go_wp2_with fail
                refine hK.out _ _ ?_ (fun hHeld14 => ?_)
                · (refine HKQ.out _ ?_; first | exact hbH | exact hbG | exact (Below.refl _ _).drew | exact Below.refl _ _)
                clear hK K
                (try simp only [Act.put, List.setIfInBounds_toArray, List.set_cons_zero, List.set_cons_succ])
                apply takeH (i := 15) rfl (by kernel_rfl) (by kernel_rfl) (by kernel_rfl) (fun _ _ _ h => h) (by rfl)
                case hy => (intro w hSw; (try dsimp only at hSw); go_simp; try with_reducible rfl)
                case hS => assumption
                (try simp only [Act.put, List.setIfInBounds_toArray, List.set_cons_zero, List.set_cons_succ])
                apply takeH (i := 16) rfl (by kernel_rfl) (by kernel_rfl) (by kernel_rfl) (fun _ _ _ h => h) (by rfl)
                case hy => (intro w hSw; (try dsimp only at hSw); go_simp; try with_reducible rfl)
                case hS => assumption
                (try simp only [Act.put, List.setIfInBounds_toArray, List.set_cons_zero, List.set_cons_succ])
                refine wpAnyH_done (by kernel_rfl) ?_ _
                have hBf := hBc.trans (hbH.mono hBc.size)
                go_wp2
                go_ret
                exact ⟨rfl, hBf⟩
              · have hls0 := HL0.out (by omega)
                subst hls0
                clear hIs hI0
                go_wp2_with (first | rw [HWA.out] | (at_builtin; refine Lib.wpList_append_run _ rfl _ _ 22 22 rfl _ _ rfl rfl _ _ hra ?_) | (at_builtin; refine Lib.wpList_append_run _ rfl _ _ 22 22 rfl _ _ rfl rfl _ _ hrb ?_))
                refine wp_region_held_drew (S := fun W => ((loadVar 3 ⟨gx, 0, none⟩).run Try.prog W = .ok (.int .i64 N) W ∧ (loadVar 22 ⟨gx, 1, none⟩).run Try.prog W = .ok (.slice o7 kn c7) W) ∧ Below wc.heap.size wc W) (by kernel_rfl) ?_ (fun hHeld0 => ?_)
                · (refine HKQ.out _ ?_; first | exact hbH | exact hbG | exact (Below.refl _ _).drew | exact Below.refl _ _)
                apply takeH (i := 0) rfl (by kernel_rfl) (by kernel_rfl) (by kernel_rfl) (fun _ _ _ h => h) (by rfl)
                case hy => (intro w hSw; (try dsimp only at hSw); go_simp; try with_reducible rfl)
                case hS => assumption
                (try simp only [Act.put, List.setIfInBounds_toArray, List.set_cons_zero, List.set_cons_succ])
                apply takeH (i := 1) rfl (by kernel_rfl) (by kernel_rfl) (by kernel_rfl) (fun _ _ _ h => h) (by rfl)
                case hy => (intro w hSw; (try dsimp only at hSw); go_simp; try with_reducible rfl)
                case hS => assumption
                (try simp only [Act.put, List.setIfInBounds_toArray, List.set_cons_zero, List.set_cons_succ])
                apply takeH (i := 2) rfl (by kernel_rfl) (by kernel_rfl) (by kernel_rfl) (fun _ _ _ h => h) (by rfl)
                case hy => (intro w hSw; (try dsimp only at hSw); go_simp; try with_reducible rfl)
                case hS => assumption
                (try simp only [Act.put, List.setIfInBounds_toArray, List.set_cons_zero, List.set_cons_succ])
                apply takeH (i := 3) rfl (by kernel_rfl) (by kernel_rfl) (by kernel_rfl) (fun _ _ _ h => h) (by rfl)
                case hy => (intro w hSw; (try dsimp only at hSw); go_simp; try with_reducible rfl)
                case hS => assumption
                (try simp only [Act.put, List.setIfInBounds_toArray, List.set_cons_zero, List.set_cons_succ])
                apply takeH (i := 4) rfl (by kernel_rfl) (by kernel_rfl) (by kernel_rfl) (fun _ _ _ h => h) (by rfl)
                case hy => (intro w hSw; (try dsimp only at hSw); go_simp; try with_reducible rfl)
                case hS => assumption
                (try simp only [Act.put, List.setIfInBounds_toArray, List.set_cons_zero, List.set_cons_succ])
                apply takeH (i := 5) rfl (by kernel_rfl) (by kernel_rfl) (by kernel_rfl) (fun _ _ _ h => h) (by rfl)
                case hy => (intro w hSw; (try dsimp only at hSw); go_simp; try with_reducible rfl)
                case hS => assumption
                (try simp only [Act.put, List.setIfInBounds_toArray, List.set_cons_zero, List.set_cons_succ])
                apply takeH (i := 6) rfl (by kernel_rfl) (by kernel_rfl) (by kernel_rfl) (fun _ _ _ h => h) (by rfl)
                case hy => (intro w hSw; (try dsimp only at hSw); go_simp; try with_reducible rfl)
                case hS => assumption
                (try simp only [Act.put, List.setIfInBounds_toArray, List.set_cons_zero, List.set_cons_succ])
                apply takeH (i := 7) rfl (by kernel_rfl) (by kernel_rfl) (by kernel_rfl) (fun _ _ _ h => h) (by rfl)
                case hy => (intro w hSw; (try dsimp only at hSw); go_simp; try with_reducible rfl)
                case hS => assumption
                (try simp only [Act.put, List.setIfInBounds_toArray, List.set_cons_zero, List.set_cons_succ])
                apply takeH (i := 8) rfl (by kernel_rfl) (by kernel_rfl) (by kernel_rfl) (fun _ _ _ h => h) (by rfl)
                case hy => (intro w hSw; (try dsimp only at hSw); go_simp; try with_reducible rfl)
                case hS => assumption
                (try simp only [Act.put, List.setIfInBounds_toArray, List.set_cons_zero, List.set_cons_succ])
                apply takeH (i := 9) rfl (by kernel_rfl) (by kernel_rfl) (by kernel_rfl) (fun _ _ _ h => h) (by rfl)
                case hy => (intro w hSw; (try dsimp only at hSw); go_simp; try with_reducible rfl)
                case hS => assumption
                (try simp only [Act.put, List.setIfInBounds_toArray, List.set_cons_zero, List.set_cons_succ])
                apply takeH (i := 10) rfl (by kernel_rfl) (by kernel_rfl) (by kernel_rfl) (fun _ _ _ h => h) (by rfl)
                case hy => (intro w hSw; (try dsimp only at hSw); go_simp; try with_reducible rfl)
                case hS => assumption
                (try simp only [Act.put, List.setIfInBounds_toArray, List.set_cons_zero, List.set_cons_succ])
                apply takeH (i := 11) rfl (by kernel_rfl) (by kernel_rfl) (by kernel_rfl) (fun _ _ _ h => h) (by rfl)
                case hy => (intro w hSw; (try dsimp only at hSw); go_simp; try with_reducible rfl)
                case hS => assumption
                (try simp only [Act.put, List.setIfInBounds_toArray, List.set_cons_zero, List.set_cons_succ])
                apply takeH (i := 12) rfl (by kernel_rfl) (by kernel_rfl) (by kernel_rfl) (fun _ _ _ h => h) (by rfl)
                case hy => (intro w hSw; (try dsimp only at hSw); go_simp; try with_reducible rfl)
                case hS => assumption
                (try simp only [Act.put, List.setIfInBounds_toArray, List.set_cons_zero, List.set_cons_succ])
                refine doH (i := 13) rfl (by kernel_rfl) (by rfl) (fun K hK => ?_)
                go_simp
                refine (HROF.out _ _ hcc _ (hsc.below hHeld0.2)).mono ?_
                rintro e wG ⟨vG, rfl, hvG, hbG'⟩
                obtain ⟨og, cg, hvg, hsg, _⟩ := hvG.formd
                rw [HKN.out] at hvg
                subst hvg
                have hbG : Below wc.heap.size wc wG := hHeld0.2.trans (hbG'.mono hHeld0.2.size)
                go_wp2_with fail
                refine hK.out _ _ ?_ (fun hHeld13 => ?_)
                · (refine HKQ.out _ ?_; first | exact hbH | exact hbG | exact (Below.refl _ _).drew | exact Below.refl _ _)
                clear hK K
                (try simp only [Act.put, List.setIfInBounds_toArray, List.set_cons_zero, List.set_cons_succ])
                refine doH (i := 14) rfl (by kernel_rfl) (by rfl) (fun K hK => ?_)
                go_simp
                refine (HSAME.out _ _ _ _ _ (hsOc.below hbG) hsg).mono ?_
                rintro e wH ⟨rfl, hbH'⟩
                have hbH : Below wc.heap.size wc wH := hbG.trans (hbH'.mono hbG.size)
                go_wp2_with fail
                refine hK.out _ _ ?_ (fun hHeld14 => ?_)
                · (refine HKQ.out _ ?_; first | exact hbH | exact hbG | exact (Below.refl _ _).drew | exact Below.refl _ _)
                clear hK K
                (try simp only [Act.put, List.setIfInBounds_toArray, List.set_cons_zero, List.set_cons_succ])
                apply takeH (i := 15) rfl (by kernel_rfl) (by kernel_rfl) (by kernel_rfl) (fun _ _ _ h => h) (by rfl)
                case hy => (intro w hSw; (try dsimp only at hSw); go_simp; try with_reducible rfl)
                case hS => assumption
                (try simp only [Act.put, List.setIfInBounds_toArray, List.set_cons_zero, List.set_cons_succ])
                apply takeH (i := 16) rfl (by kernel_rfl) (by kernel_rfl) (by kernel_rfl) (fun _ _ _ h => h) (by rfl)
                case hy => (intro w hSw; (try dsimp only at hSw); go_simp; try with_reducible rfl)
                case hS => assumption
                (try simp only [Act.put, List.setIfInBounds_toArray, List.set_cons_zero, List.set_cons_succ])
                refine wpAnyH_done (by kernel_rfl) ?_ _
                have hBf := hBc.trans (hbH.mono hBc.size)
                go_wp2
                go_ret
                exact ⟨rfl, hBf⟩
          · go_simp
            have hgxz : wz.heap.size ≤ wx3.heap.size := hwx3.size
            have hw3x11 := hwx3.alloc hwx3.size (.cells #[.int .i64 0, .slice none 0 0] 33)
            have blk : Blk (wx3.alloc (.cells #[.int .i64 0, .slice none 0 0] 33)) wx3.heap.size 33 #[.int .i64 0, .slice none 0 0] := Blk.new _ _ _
            have own3 : Own (wx3.alloc (.cells #[.int .i64 0, .slice none 0 0] 33)) _ (.slice o3 kx c3) (ofM X) := World.ownsRow.alloc own3 _
            obtain ⟨w3x11, hw3x11e⟩ : ∃ w3x11, wx3.alloc (.cells #[.int .i64 0, .slice none 0 0] 33) = w3x11 := ⟨_, rfl⟩
            obtain ⟨gx, hgx⟩ : ∃ gx, wx3.heap.size = gx := ⟨_, rfl⟩
            rw [hw3x11e] at hw3x11 blk ⊢
            rw [hgx] at blk hgxz ⊢
            rw [hw3x11e] at own3
            refine hK.out _ _ ?_ (fun hHeld11 => ?_)
            · (refine HKP.out _ ?_; exact hw3x11)
            clear hK K
            (try simp only [Act.put, List.setIfInBounds_toArray, List.set_cons_zero, List.set_cons_succ])
            refine doH (i := 6) rfl (by kernel_rfl) (by rfl) (fun K hK => ?_)
            go_simp
            refine (HOY.out _ (hy7.below hw3x11)).mono ?_
            rintro e w311x6 ⟨v6, rfl, own6, hw311x6'⟩
            obtain ⟨o6, c6, hv6, _⟩ := own6.formd
            rw [HKY.out] at hv6
            subst hv6
            have hw311x6 : Below wz.heap.size wz w311x6 := hw3x11.trans (hw311x6'.mono hw3x11.size)
            have own3 := own3.below hw311x6'
            have blk := blk.below hw311x6' blk.lt
            go_wp2_with fail
            refine hK.out _ _ ?_ (fun hHeld6 => ?_)
            · (refine HKP.out _ ?_; exact hw311x6)
            clear hK K
            (try simp only [Act.put, List.setIfInBounds_toArray, List.set_cons_zero, List.set_cons_succ])
            refine doH (i := 7) rfl (by kernel_rfl) (by rfl) (fun K hK => ?_)
            go_simp
            have hgxl := blk.lt
            obtain ⟨_, hs3, hc3, hn3⟩ := own_facts own3
            obtain ⟨_, hs6, hc6, _⟩ := own_facts own6
            refine (HJ.out o3 c3 hc3 hn3 o6 c6 hc6 _ hs3 hs6).mono ?_
            intro e w3116x7 hrj
            obtain ⟨⟨v7, rfl, own7⟩, hw3116x7'⟩ := HRJ.out _ _ _ hrj
            obtain ⟨o7, c7, hv7, _⟩ := own7.formd
            rw [HKN.out] at hv7
            subst hv7
            have hw3116x7 : Below wz.heap.size wz w3116x7 := hw311x6.trans (hw3116x7'.mono hw311x6.size)
            have blk := blk.below hw3116x7' blk.lt
            go_wp2_with fail
            refine hK.out _ _ ?_ (fun hHeld7 => ?_)
            · (refine HKP.out _ ?_; exact hw3116x7)
            clear hK K
            (try simp only [Act.put, List.setIfInBounds_toArray, List.set_cons_zero, List.set_cons_succ])
            apply takeH (i := 8) rfl (by kernel_rfl) (by kernel_rfl) (by kernel_rfl) (fun _ _ _ h => h) (by rfl)
            case hy => (intro w hSw; (try dsimp only at hSw); go_simp; try with_reducible rfl)
            case hS => assumption
            (try simp only [Act.put, List.setIfInBounds_toArray, List.set_cons_zero, List.set_cons_succ])
            apply takeH (i := 9) rfl (by kernel_rfl) (by kernel_rfl) (by kernel_rfl) (fun _ _ _ h => h) (by rfl)
            case hy => (intro w hSw; (try dsimp only at hSw); go_simp; try with_reducible rfl)
            case hS => assumption
            (try simp only [Act.put, List.setIfInBounds_toArray, List.set_cons_zero, List.set_cons_succ])
            apply takeH (i := 10) rfl (by kernel_rfl) (by kernel_rfl) (by kernel_rfl) (fun _ _ _ h => h) (by rfl)
            case hy => (intro w hSw; (try dsimp only at hSw); go_simp; try with_reducible rfl)
            case hS => assumption
            (try simp only [Act.put, List.setIfInBounds_toArray, List.set_cons_zero, List.set_cons_succ])
            have hg7 : ∀ g, (Value.slice o7 kn c7).ownBlock = some g → g ≠ gx := fun g hg e => by have h1 := (World.ownsRow.lt own7 g hg).1; have h2 := hgxl; omega
            have c0 : w3116x7.cell? ⟨gx, 0, none⟩ = some (.int .i64 0) := blk.cell 0
            have c1 : w3116x7.cell? ⟨gx, 1, none⟩ = some (.slice none 0 0) := blk.cell 1
            have f0 := blk.frozen 0
            have f1 := blk.frozen 1
            refine doH (i := 12) rfl (by kernel_rfl) (by rfl) (fun K hK => ?_)
            go_simp
            have hbE := (hw3116x7.setCell (p := ⟨gx, 0, none⟩) hgxz (.int .i64 N)).setCell (p := ⟨gx, 1, none⟩) hgxz (.slice o7 kn c7)
            have hME : Blk ((w3116x7.setCell ⟨gx, 0, none⟩ (.int .i64 N)).setCell ⟨gx, 1, none⟩ (.slice o7 kn c7)) gx 33 #[.int .i64 N, .slice o7 kn c7] := (blk.set_ 0 (.int .i64 N)).set_ 1 (.slice o7 kn c7)
            have hOE := own_off (own_off own7 (p := ⟨gx, 0, none⟩) (fun e => hg7 _ e rfl) (.int .i64 N)) (p := ⟨gx, 1, none⟩) (fun e => hg7 _ e rfl) (.slice o7 kn c7)
            obtain ⟨wE, hwE⟩ : ∃ wE, (w3116x7.setCell ⟨gx, 0, none⟩ (.int .i64 N)).setCell ⟨gx, 1, none⟩ (.slice o7 kn c7) = wE := ⟨_, rfl⟩
            rw [hwE] at hbE hME hOE ⊢
            refine hK.out _ _ ?_ (fun hHeld12 => ?_)
            · (refine HKP.out _ ?_; exact hbE)
            clear hK K
            (try simp only [Act.put, List.setIfInBounds_toArray, List.set_cons_zero, List.set_cons_succ])
            apply takeH (i := 13) rfl (by kernel_rfl) (by kernel_rfl) (by kernel_rfl) (fun _ _ _ h => h) (by rfl)
            case hy => (intro w hSw; (try dsimp only at hSw); go_simp; try with_reducible rfl)
            case hS => assumption
            (try simp only [Act.put, List.setIfInBounds_toArray, List.set_cons_zero, List.set_cons_succ])
            refine wpAnyH_done (by kernel_rfl) ?_ _
            have hBE := hBz.trans (hbE.mono hBz.size)
            go_wp2_with fail
            refine (HSZ.out _).mono ?_
            rintro e wF ⟨vF, rfl, hvF, hbF⟩
            obtain ⟨os, cs, hvs, hIs, _⟩ := hvF.formc
            rw [HLS.out] at hvs
            subst hvs
            have hBF := hBE.trans (hbF.mono hBE.size)
            have hMF := hME.below hbF hME.lt
            have hOF := hOE.below hbF
            have hxF := (hxz.below hbE).below hbF
            have hyF := (hy7.below hbE).below hbF
            obtain ⟨wa, hwa⟩ : ∃ wa, wF.alloc (.cells #[] 9) = wa := ⟨_, rfl⟩
            have hba : Below wF.heap.size wF wa := by rw [← hwa]; exact (Below.refl _ _).alloc (Nat.le_refl _) _
            have hm0 : Own wa wF.heap.size (.slice (some ⟨wF.heap.size, 0, none⟩) 0 0) [] := by rw [← hwa]; exact World.ownsRow_made wF #[] 0 (Nat.le_refl _) (by unfold maxLen; omega) rfl
            obtain ⟨va1, wb, hra, ownb, hgb, _⟩ := append_strs hm0 ox ma cx HX.out (hxF.below hba) hnx (by simp; omega) hba.size
            have hbb := own_below2 hba hm0 (Nat.le_refl _) hgb
            rw [List.nil_append] at ownb
            obtain ⟨vb1, wc, hrb, ownc, hgc, _⟩ := append_strs ownb oy mb cy HY.out (hyF.below hbb) hny (by rw [HX.out]; omega) hbb.size
            have hbc := own_below2 hbb ownb (Nat.le_refl _) hgc
            obtain ⟨oc, cc, hvc, hsc, hcc, _⟩ := ownc.formd
            rw [HXY.out] at hvc hcc
            subst hvc
            have HWA := Lib.hid hwa
            have hMc := hMF.below hbc hMF.lt
            have hBc := hBF.trans (hbc.mono hBF.size)
            have hsOc := (hOF.below hbc).strs
            have HKQ := Lib.hid (show ∀ W, Below wc.heap.size wc W → ((loadVar 3 ⟨gx, 0, none⟩).run Try.prog W = .ok (.int .i64 N) W ∧ (loadVar 22 ⟨gx, 1, none⟩).run Try.prog W = .ok (.slice o7 kn c7) W) ∧ Below wc.heap.size wc W from fun W hW => ⟨⟨ld_int ((hMc.below hW hMc.lt).cell 0), ld_sl ((hMc.below hW hMc.lt).cell 1)⟩, hW⟩)
            have hI0 := hIs
            clear hHeld12 HKP hvF hME hMF hOE hOF hBE hwa hm0 hgb hgc ownb ownc hba hbb hMc hBF hxF hyF
            by_cases hma0 : 0 < ma
            · obtain ⟨hls0, hgl⟩ := HLW.out hma0
              obtain ⟨lp, hlp⟩ : ∃ lp, ls - 1 = lp := ⟨_, rfl⟩
              rw [hlp] at hgl
              obtain ⟨adr, rfl, _, hcl⟩ := hI0 lp (by rw [HLS.out]; omega)
              rw [hgl] at hcl
              have hlq := ld_int hcl
              have hl1 : (ls : Int) - 1 = (lp : Int) := by omega
              have hl2 : (0 : Int) < (ls : Int) := by omega
              have hl3 : (lp : Int) < (ls : Int) := by omega
              have hl4 : ¬ (low : Int) < (mb : Int) := by omega
              clear hIs hI0 hlp hcl
              go_wp2_with (first | rw [HWA.out] | (at_builtin; refine Lib.wpList_append_run _ rfl _ _ 22 22 rfl _ _ rfl rfl _ _ hra ?_) | (at_builtin; refine Lib.wpList_append_run _ rfl _ _ 22 22 rfl _ _ rfl rfl _ _ hrb ?_))
              refine wp_region_held_drew (S := fun W => ((loadVar 3 ⟨gx, 0, none⟩).run Try.prog W = .ok (.int .i64 N) W ∧ (loadVar 22 ⟨gx, 1, none⟩).run Try.prog W = .ok (.slice o7 kn c7) W) ∧ Below wc.heap.size wc W) (by kernel_rfl) ?_ (fun hHeld0 => ?_)
              · (refine HKQ.out _ ?_; first | exact hbH | exact hbG | exact (Below.refl _ _).drew | exact Below.refl _ _)
              apply takeH (i := 0) rfl (by kernel_rfl) (by kernel_rfl) (by kernel_rfl) (fun _ _ _ h => h) (by rfl)
              case hy => (intro w hSw; (try dsimp only at hSw); go_simp; try with_reducible rfl)
              case hS => assumption
              (try simp only [Act.put, List.setIfInBounds_toArray, List.set_cons_zero, List.set_cons_succ])
              apply takeH (i := 1) rfl (by kernel_rfl) (by kernel_rfl) (by kernel_rfl) (fun _ _ _ h => h) (by rfl)
              case hy => (intro w hSw; (try dsimp only at hSw); go_simp; try with_reducible rfl)
              case hS => assumption
              (try simp only [Act.put, List.setIfInBounds_toArray, List.set_cons_zero, List.set_cons_succ])
              apply takeH (i := 2) rfl (by kernel_rfl) (by kernel_rfl) (by kernel_rfl) (fun _ _ _ h => h) (by rfl)
              case hy => (intro w hSw; (try dsimp only at hSw); go_simp; try with_reducible rfl)
              case hS => assumption
              (try simp only [Act.put, List.setIfInBounds_toArray, List.set_cons_zero, List.set_cons_succ])
              apply takeH (i := 3) rfl (by kernel_rfl) (by kernel_rfl) (by kernel_rfl) (fun _ _ _ h => h) (by rfl)
              case hy => (intro w hSw; (try dsimp only at hSw); go_simp; try with_reducible rfl)
              case hS => assumption
              (try simp only [Act.put, List.setIfInBounds_toArray, List.set_cons_zero, List.set_cons_succ])
              apply takeH (i := 4) rfl (by kernel_rfl) (by kernel_rfl) (by kernel_rfl) (fun _ _ _ h => h) (by rfl)
              case hy => (intro w hSw; (try dsimp only at hSw); go_simp; try with_reducible rfl)
              case hS => assumption
              (try simp only [Act.put, List.setIfInBounds_toArray, List.set_cons_zero, List.set_cons_succ])
              apply takeH (i := 5) rfl (by kernel_rfl) (by kernel_rfl) (by kernel_rfl) (fun _ _ _ h => h) (by rfl)
              case hy => (intro w hSw; (try dsimp only at hSw); go_simp; try with_reducible rfl)
              case hS => assumption
              (try simp only [Act.put, List.setIfInBounds_toArray, List.set_cons_zero, List.set_cons_succ])
              apply takeH (i := 6) rfl (by kernel_rfl) (by kernel_rfl) (by kernel_rfl) (fun _ _ _ h => h) (by rfl)
              case hy => (intro w hSw; (try dsimp only at hSw); go_simp; try with_reducible rfl)
              case hS => assumption
              (try simp only [Act.put, List.setIfInBounds_toArray, List.set_cons_zero, List.set_cons_succ])
              apply takeH (i := 7) rfl (by kernel_rfl) (by kernel_rfl) (by kernel_rfl) (fun _ _ _ h => h) (by rfl)
              case hy => (intro w hSw; (try dsimp only at hSw); go_simp; try with_reducible rfl)
              case hS => assumption
              (try simp only [Act.put, List.setIfInBounds_toArray, List.set_cons_zero, List.set_cons_succ])
              apply takeH (i := 8) rfl (by kernel_rfl) (by kernel_rfl) (by kernel_rfl) (fun _ _ _ h => h) (by rfl)
              case hy => (intro w hSw; (try dsimp only at hSw); go_simp; try with_reducible rfl)
              case hS => assumption
              (try simp only [Act.put, List.setIfInBounds_toArray, List.set_cons_zero, List.set_cons_succ])
              apply takeH (i := 9) rfl (by kernel_rfl) (by kernel_rfl) (by kernel_rfl) (fun _ _ _ h => h) (by rfl)
              case hy => (intro w hSw; (try dsimp only at hSw); go_simp; try with_reducible rfl)
              case hS => assumption
              (try simp only [Act.put, List.setIfInBounds_toArray, List.set_cons_zero, List.set_cons_succ])
              apply takeH (i := 10) rfl (by kernel_rfl) (by kernel_rfl) (by kernel_rfl) (fun _ _ _ h => h) (by rfl)
              case hy => (intro w hSw; (try dsimp only at hSw); go_simp; try with_reducible rfl)
              case hS => assumption
              (try simp only [Act.put, List.setIfInBounds_toArray, List.set_cons_zero, List.set_cons_succ])
              apply takeH (i := 11) rfl (by kernel_rfl) (by kernel_rfl) (by kernel_rfl) (fun _ _ _ h => h) (by rfl)
              case hy => (intro w hSw; (try dsimp only at hSw); go_simp; try with_reducible rfl)
              case hS => assumption
              (try simp only [Act.put, List.setIfInBounds_toArray, List.set_cons_zero, List.set_cons_succ])
              apply takeH (i := 12) rfl (by kernel_rfl) (by kernel_rfl) (by kernel_rfl) (fun _ _ _ h => h) (by rfl)
              case hy => (intro w hSw; (try dsimp only at hSw); go_simp; try with_reducible rfl)
              case hS => assumption
              (try simp only [Act.put, List.setIfInBounds_toArray, List.set_cons_zero, List.set_cons_succ])
              refine doH (i := 13) rfl (by kernel_rfl) (by rfl) (fun K hK => ?_)
              go_simp
              refine (HROF.out _ _ hcc _ (hsc.below hHeld0.2)).mono ?_
              rintro e wG ⟨vG, rfl, hvG, hbG'⟩
              obtain ⟨og, cg, hvg, hsg, _⟩ := hvG.formd
              rw [HKN.out] at hvg
              subst hvg
              have hbG : Below wc.heap.size wc wG := hHeld0.2.trans (hbG'.mono hHeld0.2.size)
              go_wp2_with fail
              refine hK.out _ _ ?_ (fun hHeld13 => ?_)
              · (refine HKQ.out _ ?_; first | exact hbH | exact hbG | exact (Below.refl _ _).drew | exact Below.refl _ _)
              clear hK K
              (try simp only [Act.put, List.setIfInBounds_toArray, List.set_cons_zero, List.set_cons_succ])
              refine doH (i := 14) rfl (by kernel_rfl) (by rfl) (fun K hK => ?_)
              go_simp
              refine (HSAME.out _ _ _ _ _ (hsOc.below hbG) hsg).mono ?_
              rintro e wH ⟨rfl, hbH'⟩
              have hbH : Below wc.heap.size wc wH := hbG.trans (hbH'.mono hbG.size)
              go_wp2_with fail
              refine hK.out _ _ ?_ (fun hHeld14 => ?_)
              · (refine HKQ.out _ ?_; first | exact hbH | exact hbG | exact (Below.refl _ _).drew | exact Below.refl _ _)
              clear hK K
              (try simp only [Act.put, List.setIfInBounds_toArray, List.set_cons_zero, List.set_cons_succ])
              apply takeH (i := 15) rfl (by kernel_rfl) (by kernel_rfl) (by kernel_rfl) (fun _ _ _ h => h) (by rfl)
              case hy => (intro w hSw; (try dsimp only at hSw); go_simp; try with_reducible rfl)
              case hS => assumption
              (try simp only [Act.put, List.setIfInBounds_toArray, List.set_cons_zero, List.set_cons_succ])
              apply takeH (i := 16) rfl (by kernel_rfl) (by kernel_rfl) (by kernel_rfl) (fun _ _ _ h => h) (by rfl)
              case hy => (intro w hSw; (try dsimp only at hSw); go_simp; try with_reducible rfl)
              case hS => assumption
              (try simp only [Act.put, List.setIfInBounds_toArray, List.set_cons_zero, List.set_cons_succ])
              refine wpAnyH_done (by kernel_rfl) ?_ _
              have hBf := hBc.trans (hbH.mono hBc.size)
              go_wp2
              go_ret
              exact ⟨rfl, hBf⟩
            · have hls0 := HL0.out (by omega)
              subst hls0
              clear hIs hI0
              go_wp2_with (first | rw [HWA.out] | (at_builtin; refine Lib.wpList_append_run _ rfl _ _ 22 22 rfl _ _ rfl rfl _ _ hra ?_) | (at_builtin; refine Lib.wpList_append_run _ rfl _ _ 22 22 rfl _ _ rfl rfl _ _ hrb ?_))
              refine wp_region_held_drew (S := fun W => ((loadVar 3 ⟨gx, 0, none⟩).run Try.prog W = .ok (.int .i64 N) W ∧ (loadVar 22 ⟨gx, 1, none⟩).run Try.prog W = .ok (.slice o7 kn c7) W) ∧ Below wc.heap.size wc W) (by kernel_rfl) ?_ (fun hHeld0 => ?_)
              · (refine HKQ.out _ ?_; first | exact hbH | exact hbG | exact (Below.refl _ _).drew | exact Below.refl _ _)
              apply takeH (i := 0) rfl (by kernel_rfl) (by kernel_rfl) (by kernel_rfl) (fun _ _ _ h => h) (by rfl)
              case hy => (intro w hSw; (try dsimp only at hSw); go_simp; try with_reducible rfl)
              case hS => assumption
              (try simp only [Act.put, List.setIfInBounds_toArray, List.set_cons_zero, List.set_cons_succ])
              apply takeH (i := 1) rfl (by kernel_rfl) (by kernel_rfl) (by kernel_rfl) (fun _ _ _ h => h) (by rfl)
              case hy => (intro w hSw; (try dsimp only at hSw); go_simp; try with_reducible rfl)
              case hS => assumption
              (try simp only [Act.put, List.setIfInBounds_toArray, List.set_cons_zero, List.set_cons_succ])
              apply takeH (i := 2) rfl (by kernel_rfl) (by kernel_rfl) (by kernel_rfl) (fun _ _ _ h => h) (by rfl)
              case hy => (intro w hSw; (try dsimp only at hSw); go_simp; try with_reducible rfl)
              case hS => assumption
              (try simp only [Act.put, List.setIfInBounds_toArray, List.set_cons_zero, List.set_cons_succ])
              apply takeH (i := 3) rfl (by kernel_rfl) (by kernel_rfl) (by kernel_rfl) (fun _ _ _ h => h) (by rfl)
              case hy => (intro w hSw; (try dsimp only at hSw); go_simp; try with_reducible rfl)
              case hS => assumption
              (try simp only [Act.put, List.setIfInBounds_toArray, List.set_cons_zero, List.set_cons_succ])
              apply takeH (i := 4) rfl (by kernel_rfl) (by kernel_rfl) (by kernel_rfl) (fun _ _ _ h => h) (by rfl)
              case hy => (intro w hSw; (try dsimp only at hSw); go_simp; try with_reducible rfl)
              case hS => assumption
              (try simp only [Act.put, List.setIfInBounds_toArray, List.set_cons_zero, List.set_cons_succ])
              apply takeH (i := 5) rfl (by kernel_rfl) (by kernel_rfl) (by kernel_rfl) (fun _ _ _ h => h) (by rfl)
              case hy => (intro w hSw; (try dsimp only at hSw); go_simp; try with_reducible rfl)
              case hS => assumption
              (try simp only [Act.put, List.setIfInBounds_toArray, List.set_cons_zero, List.set_cons_succ])
              apply takeH (i := 6) rfl (by kernel_rfl) (by kernel_rfl) (by kernel_rfl) (fun _ _ _ h => h) (by rfl)
              case hy => (intro w hSw; (try dsimp only at hSw); go_simp; try with_reducible rfl)
              case hS => assumption
              (try simp only [Act.put, List.setIfInBounds_toArray, List.set_cons_zero, List.set_cons_succ])
              apply takeH (i := 7) rfl (by kernel_rfl) (by kernel_rfl) (by kernel_rfl) (fun _ _ _ h => h) (by rfl)
              case hy => (intro w hSw; (try dsimp only at hSw); go_simp; try with_reducible rfl)
              case hS => assumption
              (try simp only [Act.put, List.setIfInBounds_toArray, List.set_cons_zero, List.set_cons_succ])
              apply takeH (i := 8) rfl (by kernel_rfl) (by kernel_rfl) (by kernel_rfl) (fun _ _ _ h => h) (by rfl)
              case hy => (intro w hSw; (try dsimp only at hSw); go_simp; try with_reducible rfl)
              case hS => assumption
              (try simp only [Act.put, List.setIfInBounds_toArray, List.set_cons_zero, List.set_cons_succ])
              apply takeH (i := 9) rfl (by kernel_rfl) (by kernel_rfl) (by kernel_rfl) (fun _ _ _ h => h) (by rfl)
              case hy => (intro w hSw; (try dsimp only at hSw); go_simp; try with_reducible rfl)
              case hS => assumption
              (try simp only [Act.put, List.setIfInBounds_toArray, List.set_cons_zero, List.set_cons_succ])
              apply takeH (i := 10) rfl (by kernel_rfl) (by kernel_rfl) (by kernel_rfl) (fun _ _ _ h => h) (by rfl)
              case hy => (intro w hSw; (try dsimp only at hSw); go_simp; try with_reducible rfl)
              case hS => assumption
              (try simp only [Act.put, List.setIfInBounds_toArray, List.set_cons_zero, List.set_cons_succ])
              apply takeH (i := 11) rfl (by kernel_rfl) (by kernel_rfl) (by kernel_rfl) (fun _ _ _ h => h) (by rfl)
              case hy => (intro w hSw; (try dsimp only at hSw); go_simp; try with_reducible rfl)
              case hS => assumption
              (try simp only [Act.put, List.setIfInBounds_toArray, List.set_cons_zero, List.set_cons_succ])
              apply takeH (i := 12) rfl (by kernel_rfl) (by kernel_rfl) (by kernel_rfl) (fun _ _ _ h => h) (by rfl)
              case hy => (intro w hSw; (try dsimp only at hSw); go_simp; try with_reducible rfl)
              case hS => assumption
              (try simp only [Act.put, List.setIfInBounds_toArray, List.set_cons_zero, List.set_cons_succ])
              refine doH (i := 13) rfl (by kernel_rfl) (by rfl) (fun K hK => ?_)
              go_simp
              refine (HROF.out _ _ hcc _ (hsc.below hHeld0.2)).mono ?_
              rintro e wG ⟨vG, rfl, hvG, hbG'⟩
              obtain ⟨og, cg, hvg, hsg, _⟩ := hvG.formd
              rw [HKN.out] at hvg
              subst hvg
              have hbG : Below wc.heap.size wc wG := hHeld0.2.trans (hbG'.mono hHeld0.2.size)
              go_wp2_with fail
              refine hK.out _ _ ?_ (fun hHeld13 => ?_)
              · (refine HKQ.out _ ?_; first | exact hbH | exact hbG | exact (Below.refl _ _).drew | exact Below.refl _ _)
              clear hK K
              (try simp only [Act.put, List.setIfInBounds_toArray, List.set_cons_zero, List.set_cons_succ])
              refine doH (i := 14) rfl (by kernel_rfl) (by rfl) (fun K hK => ?_)
              go_simp
              refine (HSAME.out _ _ _ _ _ (hsOc.below hbG) hsg).mono ?_
              rintro e wH ⟨rfl, hbH'⟩
              have hbH : Below wc.heap.size wc wH := hbG.trans (hbH'.mono hbG.size)
              go_wp2_with fail
              refine hK.out _ _ ?_ (fun hHeld14 => ?_)
              · (refine HKQ.out _ ?_; first | exact hbH | exact hbG | exact (Below.refl _ _).drew | exact Below.refl _ _)
              clear hK K
              (try simp only [Act.put, List.setIfInBounds_toArray, List.set_cons_zero, List.set_cons_succ])
              apply takeH (i := 15) rfl (by kernel_rfl) (by kernel_rfl) (by kernel_rfl) (fun _ _ _ h => h) (by rfl)
              case hy => (intro w hSw; (try dsimp only at hSw); go_simp; try with_reducible rfl)
              case hS => assumption
              (try simp only [Act.put, List.setIfInBounds_toArray, List.set_cons_zero, List.set_cons_succ])
              apply takeH (i := 16) rfl (by kernel_rfl) (by kernel_rfl) (by kernel_rfl) (fun _ _ _ h => h) (by rfl)
              case hy => (intro w hSw; (try dsimp only at hSw); go_simp; try with_reducible rfl)
              case hS => assumption
              (try simp only [Act.put, List.setIfInBounds_toArray, List.set_cons_zero, List.set_cons_succ])
              refine wpAnyH_done (by kernel_rfl) ?_ _
              have hBf := hBc.trans (hbH.mono hBc.size)
              go_wp2
              go_ret
              exact ⟨rfl, hBf⟩
        · go_simp
          have hgxz : wz.heap.size ≤ wd.heap.size := hb0.size
          have hwx11 := hb0.alloc hb0.size (.cells #[.int .i64 0, .slice none 0 0] 33)
          have blk : Blk (wd.alloc (.cells #[.int .i64 0, .slice none 0 0] 33)) wd.heap.size 33 #[.int .i64 0, .slice none 0 0] := Blk.new _ _ _
          obtain ⟨wx11, hwx11e⟩ : ∃ wx11, wd.alloc (.cells #[.int .i64 0, .slice none 0 0] 33) = wx11 := ⟨_, rfl⟩
          obtain ⟨gx, hgx⟩ : ∃ gx, wd.heap.size = gx := ⟨_, rfl⟩
          rw [hwx11e] at hwx11 blk ⊢
          rw [hgx] at blk hgxz ⊢
          refine hK.out _ _ ?_ (fun hHeld11 => ?_)
          · (refine HKP.out _ ?_; exact hwx11)
          clear hK K
          (try simp only [Act.put, List.setIfInBounds_toArray, List.set_cons_zero, List.set_cons_succ])
          refine doH (i := 3) rfl (by kernel_rfl) (by rfl) (fun K hK => ?_)
          go_simp
          refine (HOX.out _ (hxz.below hwx11)).mono ?_
          rintro e w11x3 ⟨v3, rfl, own3, hw11x3'⟩
          obtain ⟨o3, c3, hv3, _⟩ := own3.formd
          rw [HKX.out] at hv3
          subst hv3
          have hw11x3 : Below wz.heap.size wz w11x3 := hwx11.trans (hw11x3'.mono hwx11.size)
          have blk := blk.below hw11x3' blk.lt
          go_wp2_with fail
          refine hK.out _ _ ?_ (fun hHeld3 => ?_)
          · (refine HKP.out _ ?_; exact hw11x3)
          clear hK K
          (try simp only [Act.put, List.setIfInBounds_toArray, List.set_cons_zero, List.set_cons_succ])
          refine doH (i := 6) rfl (by kernel_rfl) (by rfl) (fun K hK => ?_)
          go_simp
          refine (HOY.out _ (hy7.below hw11x3)).mono ?_
          rintro e w113x6 ⟨v6, rfl, own6, hw113x6'⟩
          obtain ⟨o6, c6, hv6, _⟩ := own6.formd
          rw [HKY.out] at hv6
          subst hv6
          have hw113x6 : Below wz.heap.size wz w113x6 := hw11x3.trans (hw113x6'.mono hw11x3.size)
          have own3 := own3.below hw113x6'
          have blk := blk.below hw113x6' blk.lt
          go_wp2_with fail
          refine hK.out _ _ ?_ (fun hHeld6 => ?_)
          · (refine HKP.out _ ?_; exact hw113x6)
          clear hK K
          (try simp only [Act.put, List.setIfInBounds_toArray, List.set_cons_zero, List.set_cons_succ])
          refine doH (i := 7) rfl (by kernel_rfl) (by rfl) (fun K hK => ?_)
          go_simp
          have hgxl := blk.lt
          obtain ⟨_, hs3, hc3, hn3⟩ := own_facts own3
          obtain ⟨_, hs6, hc6, _⟩ := own_facts own6
          refine (HJ.out o3 c3 hc3 hn3 o6 c6 hc6 _ hs3 hs6).mono ?_
          intro e w1136x7 hrj
          obtain ⟨⟨v7, rfl, own7⟩, hw1136x7'⟩ := HRJ.out _ _ _ hrj
          obtain ⟨o7, c7, hv7, _⟩ := own7.formd
          rw [HKN.out] at hv7
          subst hv7
          have hw1136x7 : Below wz.heap.size wz w1136x7 := hw113x6.trans (hw1136x7'.mono hw113x6.size)
          have blk := blk.below hw1136x7' blk.lt
          go_wp2_with fail
          refine hK.out _ _ ?_ (fun hHeld7 => ?_)
          · (refine HKP.out _ ?_; exact hw1136x7)
          clear hK K
          (try simp only [Act.put, List.setIfInBounds_toArray, List.set_cons_zero, List.set_cons_succ])
          apply takeH (i := 8) rfl (by kernel_rfl) (by kernel_rfl) (by kernel_rfl) (fun _ _ _ h => h) (by rfl)
          case hy => (intro w hSw; (try dsimp only at hSw); go_simp; try with_reducible rfl)
          case hS => assumption
          (try simp only [Act.put, List.setIfInBounds_toArray, List.set_cons_zero, List.set_cons_succ])
          apply takeH (i := 9) rfl (by kernel_rfl) (by kernel_rfl) (by kernel_rfl) (fun _ _ _ h => h) (by rfl)
          case hy => (intro w hSw; (try dsimp only at hSw); go_simp; try with_reducible rfl)
          case hS => assumption
          (try simp only [Act.put, List.setIfInBounds_toArray, List.set_cons_zero, List.set_cons_succ])
          apply takeH (i := 10) rfl (by kernel_rfl) (by kernel_rfl) (by kernel_rfl) (fun _ _ _ h => h) (by rfl)
          case hy => (intro w hSw; (try dsimp only at hSw); go_simp; try with_reducible rfl)
          case hS => assumption
          (try simp only [Act.put, List.setIfInBounds_toArray, List.set_cons_zero, List.set_cons_succ])
          have hg7 : ∀ g, (Value.slice o7 kn c7).ownBlock = some g → g ≠ gx := fun g hg e => by have h1 := (World.ownsRow.lt own7 g hg).1; have h2 := hgxl; omega
          have c0 : w1136x7.cell? ⟨gx, 0, none⟩ = some (.int .i64 0) := blk.cell 0
          have c1 : w1136x7.cell? ⟨gx, 1, none⟩ = some (.slice none 0 0) := blk.cell 1
          have f0 := blk.frozen 0
          have f1 := blk.frozen 1
          refine doH (i := 12) rfl (by kernel_rfl) (by rfl) (fun K hK => ?_)
          go_simp
          have hbE := (hw1136x7.setCell (p := ⟨gx, 0, none⟩) hgxz (.int .i64 N)).setCell (p := ⟨gx, 1, none⟩) hgxz (.slice o7 kn c7)
          have hME : Blk ((w1136x7.setCell ⟨gx, 0, none⟩ (.int .i64 N)).setCell ⟨gx, 1, none⟩ (.slice o7 kn c7)) gx 33 #[.int .i64 N, .slice o7 kn c7] := (blk.set_ 0 (.int .i64 N)).set_ 1 (.slice o7 kn c7)
          have hOE := own_off (own_off own7 (p := ⟨gx, 0, none⟩) (fun e => hg7 _ e rfl) (.int .i64 N)) (p := ⟨gx, 1, none⟩) (fun e => hg7 _ e rfl) (.slice o7 kn c7)
          obtain ⟨wE, hwE⟩ : ∃ wE, (w1136x7.setCell ⟨gx, 0, none⟩ (.int .i64 N)).setCell ⟨gx, 1, none⟩ (.slice o7 kn c7) = wE := ⟨_, rfl⟩
          rw [hwE] at hbE hME hOE ⊢
          refine hK.out _ _ ?_ (fun hHeld12 => ?_)
          · (refine HKP.out _ ?_; exact hbE)
          clear hK K
          (try simp only [Act.put, List.setIfInBounds_toArray, List.set_cons_zero, List.set_cons_succ])
          apply takeH (i := 13) rfl (by kernel_rfl) (by kernel_rfl) (by kernel_rfl) (fun _ _ _ h => h) (by rfl)
          case hy => (intro w hSw; (try dsimp only at hSw); go_simp; try with_reducible rfl)
          case hS => assumption
          (try simp only [Act.put, List.setIfInBounds_toArray, List.set_cons_zero, List.set_cons_succ])
          refine wpAnyH_done (by kernel_rfl) ?_ _
          have hBE := hBz.trans (hbE.mono hBz.size)
          go_wp2_with fail
          refine (HSZ.out _).mono ?_
          rintro e wF ⟨vF, rfl, hvF, hbF⟩
          obtain ⟨os, cs, hvs, hIs, _⟩ := hvF.formc
          rw [HLS.out] at hvs
          subst hvs
          have hBF := hBE.trans (hbF.mono hBE.size)
          have hMF := hME.below hbF hME.lt
          have hOF := hOE.below hbF
          have hxF := (hxz.below hbE).below hbF
          have hyF := (hy7.below hbE).below hbF
          obtain ⟨wa, hwa⟩ : ∃ wa, wF.alloc (.cells #[] 9) = wa := ⟨_, rfl⟩
          have hba : Below wF.heap.size wF wa := by rw [← hwa]; exact (Below.refl _ _).alloc (Nat.le_refl _) _
          have hm0 : Own wa wF.heap.size (.slice (some ⟨wF.heap.size, 0, none⟩) 0 0) [] := by rw [← hwa]; exact World.ownsRow_made wF #[] 0 (Nat.le_refl _) (by unfold maxLen; omega) rfl
          obtain ⟨va1, wb, hra, ownb, hgb, _⟩ := append_strs hm0 ox ma cx HX.out (hxF.below hba) hnx (by simp; omega) hba.size
          have hbb := own_below2 hba hm0 (Nat.le_refl _) hgb
          rw [List.nil_append] at ownb
          obtain ⟨vb1, wc, hrb, ownc, hgc, _⟩ := append_strs ownb oy mb cy HY.out (hyF.below hbb) hny (by rw [HX.out]; omega) hbb.size
          have hbc := own_below2 hbb ownb (Nat.le_refl _) hgc
          obtain ⟨oc, cc, hvc, hsc, hcc, _⟩ := ownc.formd
          rw [HXY.out] at hvc hcc
          subst hvc
          have HWA := Lib.hid hwa
          have hMc := hMF.below hbc hMF.lt
          have hBc := hBF.trans (hbc.mono hBF.size)
          have hsOc := (hOF.below hbc).strs
          have HKQ := Lib.hid (show ∀ W, Below wc.heap.size wc W → ((loadVar 3 ⟨gx, 0, none⟩).run Try.prog W = .ok (.int .i64 N) W ∧ (loadVar 22 ⟨gx, 1, none⟩).run Try.prog W = .ok (.slice o7 kn c7) W) ∧ Below wc.heap.size wc W from fun W hW => ⟨⟨ld_int ((hMc.below hW hMc.lt).cell 0), ld_sl ((hMc.below hW hMc.lt).cell 1)⟩, hW⟩)
          have hI0 := hIs
          clear hHeld12 HKP hvF hME hMF hOE hOF hBE hwa hm0 hgb hgc ownb ownc hba hbb hMc hBF hxF hyF
          by_cases hma0 : 0 < ma
          · obtain ⟨hls0, hgl⟩ := HLW.out hma0
            obtain ⟨lp, hlp⟩ : ∃ lp, ls - 1 = lp := ⟨_, rfl⟩
            rw [hlp] at hgl
            obtain ⟨adr, rfl, _, hcl⟩ := hI0 lp (by rw [HLS.out]; omega)
            rw [hgl] at hcl
            have hlq := ld_int hcl
            have hl1 : (ls : Int) - 1 = (lp : Int) := by omega
            have hl2 : (0 : Int) < (ls : Int) := by omega
            have hl3 : (lp : Int) < (ls : Int) := by omega
            have hl4 : ¬ (low : Int) < (mb : Int) := by omega
            clear hIs hI0 hlp hcl
            go_wp2_with (first | rw [HWA.out] | (at_builtin; refine Lib.wpList_append_run _ rfl _ _ 22 22 rfl _ _ rfl rfl _ _ hra ?_) | (at_builtin; refine Lib.wpList_append_run _ rfl _ _ 22 22 rfl _ _ rfl rfl _ _ hrb ?_))
            refine wp_region_held_drew (S := fun W => ((loadVar 3 ⟨gx, 0, none⟩).run Try.prog W = .ok (.int .i64 N) W ∧ (loadVar 22 ⟨gx, 1, none⟩).run Try.prog W = .ok (.slice o7 kn c7) W) ∧ Below wc.heap.size wc W) (by kernel_rfl) ?_ (fun hHeld0 => ?_)
            · (refine HKQ.out _ ?_; first | exact hbH | exact hbG | exact (Below.refl _ _).drew | exact Below.refl _ _)
            apply takeH (i := 0) rfl (by kernel_rfl) (by kernel_rfl) (by kernel_rfl) (fun _ _ _ h => h) (by rfl)
            case hy => (intro w hSw; (try dsimp only at hSw); go_simp; try with_reducible rfl)
            case hS => assumption
            (try simp only [Act.put, List.setIfInBounds_toArray, List.set_cons_zero, List.set_cons_succ])
            apply takeH (i := 1) rfl (by kernel_rfl) (by kernel_rfl) (by kernel_rfl) (fun _ _ _ h => h) (by rfl)
            case hy => (intro w hSw; (try dsimp only at hSw); go_simp; try with_reducible rfl)
            case hS => assumption
            (try simp only [Act.put, List.setIfInBounds_toArray, List.set_cons_zero, List.set_cons_succ])
            apply takeH (i := 2) rfl (by kernel_rfl) (by kernel_rfl) (by kernel_rfl) (fun _ _ _ h => h) (by rfl)
            case hy => (intro w hSw; (try dsimp only at hSw); go_simp; try with_reducible rfl)
            case hS => assumption
            (try simp only [Act.put, List.setIfInBounds_toArray, List.set_cons_zero, List.set_cons_succ])
            apply takeH (i := 3) rfl (by kernel_rfl) (by kernel_rfl) (by kernel_rfl) (fun _ _ _ h => h) (by rfl)
            case hy => (intro w hSw; (try dsimp only at hSw); go_simp; try with_reducible rfl)
            case hS => assumption
            (try simp only [Act.put, List.setIfInBounds_toArray, List.set_cons_zero, List.set_cons_succ])
            apply takeH (i := 4) rfl (by kernel_rfl) (by kernel_rfl) (by kernel_rfl) (fun _ _ _ h => h) (by rfl)
            case hy => (intro w hSw; (try dsimp only at hSw); go_simp; try with_reducible rfl)
            case hS => assumption
            (try simp only [Act.put, List.setIfInBounds_toArray, List.set_cons_zero, List.set_cons_succ])
            apply takeH (i := 5) rfl (by kernel_rfl) (by kernel_rfl) (by kernel_rfl) (fun _ _ _ h => h) (by rfl)
            case hy => (intro w hSw; (try dsimp only at hSw); go_simp; try with_reducible rfl)
            case hS => assumption
            (try simp only [Act.put, List.setIfInBounds_toArray, List.set_cons_zero, List.set_cons_succ])
            apply takeH (i := 6) rfl (by kernel_rfl) (by kernel_rfl) (by kernel_rfl) (fun _ _ _ h => h) (by rfl)
            case hy => (intro w hSw; (try dsimp only at hSw); go_simp; try with_reducible rfl)
            case hS => assumption
            (try simp only [Act.put, List.setIfInBounds_toArray, List.set_cons_zero, List.set_cons_succ])
            apply takeH (i := 7) rfl (by kernel_rfl) (by kernel_rfl) (by kernel_rfl) (fun _ _ _ h => h) (by rfl)
            case hy => (intro w hSw; (try dsimp only at hSw); go_simp; try with_reducible rfl)
            case hS => assumption
            (try simp only [Act.put, List.setIfInBounds_toArray, List.set_cons_zero, List.set_cons_succ])
            apply takeH (i := 8) rfl (by kernel_rfl) (by kernel_rfl) (by kernel_rfl) (fun _ _ _ h => h) (by rfl)
            case hy => (intro w hSw; (try dsimp only at hSw); go_simp; try with_reducible rfl)
            case hS => assumption
            (try simp only [Act.put, List.setIfInBounds_toArray, List.set_cons_zero, List.set_cons_succ])
            apply takeH (i := 9) rfl (by kernel_rfl) (by kernel_rfl) (by kernel_rfl) (fun _ _ _ h => h) (by rfl)
            case hy => (intro w hSw; (try dsimp only at hSw); go_simp; try with_reducible rfl)
            case hS => assumption
            (try simp only [Act.put, List.setIfInBounds_toArray, List.set_cons_zero, List.set_cons_succ])
            apply takeH (i := 10) rfl (by kernel_rfl) (by kernel_rfl) (by kernel_rfl) (fun _ _ _ h => h) (by rfl)
            case hy => (intro w hSw; (try dsimp only at hSw); go_simp; try with_reducible rfl)
            case hS => assumption
            (try simp only [Act.put, List.setIfInBounds_toArray, List.set_cons_zero, List.set_cons_succ])
            apply takeH (i := 11) rfl (by kernel_rfl) (by kernel_rfl) (by kernel_rfl) (fun _ _ _ h => h) (by rfl)
            case hy => (intro w hSw; (try dsimp only at hSw); go_simp; try with_reducible rfl)
            case hS => assumption
            (try simp only [Act.put, List.setIfInBounds_toArray, List.set_cons_zero, List.set_cons_succ])
            apply takeH (i := 12) rfl (by kernel_rfl) (by kernel_rfl) (by kernel_rfl) (fun _ _ _ h => h) (by rfl)
            case hy => (intro w hSw; (try dsimp only at hSw); go_simp; try with_reducible rfl)
            case hS => assumption
            (try simp only [Act.put, List.setIfInBounds_toArray, List.set_cons_zero, List.set_cons_succ])
            refine doH (i := 13) rfl (by kernel_rfl) (by rfl) (fun K hK => ?_)
            go_simp
            refine (HROF.out _ _ hcc _ (hsc.below hHeld0.2)).mono ?_
            rintro e wG ⟨vG, rfl, hvG, hbG'⟩
            obtain ⟨og, cg, hvg, hsg, _⟩ := hvG.formd
            rw [HKN.out] at hvg
            subst hvg
            have hbG : Below wc.heap.size wc wG := hHeld0.2.trans (hbG'.mono hHeld0.2.size)
            go_wp2_with fail
            refine hK.out _ _ ?_ (fun hHeld13 => ?_)
            · (refine HKQ.out _ ?_; first | exact hbH | exact hbG | exact (Below.refl _ _).drew | exact Below.refl _ _)
            clear hK K
            (try simp only [Act.put, List.setIfInBounds_toArray, List.set_cons_zero, List.set_cons_succ])
            refine doH (i := 14) rfl (by kernel_rfl) (by rfl) (fun K hK => ?_)
            go_simp
            refine (HSAME.out _ _ _ _ _ (hsOc.below hbG) hsg).mono ?_
            rintro e wH ⟨rfl, hbH'⟩
            have hbH : Below wc.heap.size wc wH := hbG.trans (hbH'.mono hbG.size)
            go_wp2_with fail
            refine hK.out _ _ ?_ (fun hHeld14 => ?_)
            · (refine HKQ.out _ ?_; first | exact hbH | exact hbG | exact (Below.refl _ _).drew | exact Below.refl _ _)
            clear hK K
            (try simp only [Act.put, List.setIfInBounds_toArray, List.set_cons_zero, List.set_cons_succ])
            apply takeH (i := 15) rfl (by kernel_rfl) (by kernel_rfl) (by kernel_rfl) (fun _ _ _ h => h) (by rfl)
            case hy => (intro w hSw; (try dsimp only at hSw); go_simp; try with_reducible rfl)
            case hS => assumption
            (try simp only [Act.put, List.setIfInBounds_toArray, List.set_cons_zero, List.set_cons_succ])
            apply takeH (i := 16) rfl (by kernel_rfl) (by kernel_rfl) (by kernel_rfl) (fun _ _ _ h => h) (by rfl)
            case hy => (intro w hSw; (try dsimp only at hSw); go_simp; try with_reducible rfl)
            case hS => assumption
            (try simp only [Act.put, List.setIfInBounds_toArray, List.set_cons_zero, List.set_cons_succ])
            refine wpAnyH_done (by kernel_rfl) ?_ _
            have hBf := hBc.trans (hbH.mono hBc.size)
            go_wp2
            go_ret
            exact ⟨rfl, hBf⟩
          · have hls0 := HL0.out (by omega)
            subst hls0
            clear hIs hI0
            go_wp2_with (first | rw [HWA.out] | (at_builtin; refine Lib.wpList_append_run _ rfl _ _ 22 22 rfl _ _ rfl rfl _ _ hra ?_) | (at_builtin; refine Lib.wpList_append_run _ rfl _ _ 22 22 rfl _ _ rfl rfl _ _ hrb ?_))
            refine wp_region_held_drew (S := fun W => ((loadVar 3 ⟨gx, 0, none⟩).run Try.prog W = .ok (.int .i64 N) W ∧ (loadVar 22 ⟨gx, 1, none⟩).run Try.prog W = .ok (.slice o7 kn c7) W) ∧ Below wc.heap.size wc W) (by kernel_rfl) ?_ (fun hHeld0 => ?_)
            · (refine HKQ.out _ ?_; first | exact hbH | exact hbG | exact (Below.refl _ _).drew | exact Below.refl _ _)
            apply takeH (i := 0) rfl (by kernel_rfl) (by kernel_rfl) (by kernel_rfl) (fun _ _ _ h => h) (by rfl)
            case hy => (intro w hSw; (try dsimp only at hSw); go_simp; try with_reducible rfl)
            case hS => assumption
            (try simp only [Act.put, List.setIfInBounds_toArray, List.set_cons_zero, List.set_cons_succ])
            apply takeH (i := 1) rfl (by kernel_rfl) (by kernel_rfl) (by kernel_rfl) (fun _ _ _ h => h) (by rfl)
            case hy => (intro w hSw; (try dsimp only at hSw); go_simp; try with_reducible rfl)
            case hS => assumption
            (try simp only [Act.put, List.setIfInBounds_toArray, List.set_cons_zero, List.set_cons_succ])
            apply takeH (i := 2) rfl (by kernel_rfl) (by kernel_rfl) (by kernel_rfl) (fun _ _ _ h => h) (by rfl)
            case hy => (intro w hSw; (try dsimp only at hSw); go_simp; try with_reducible rfl)
            case hS => assumption
            (try simp only [Act.put, List.setIfInBounds_toArray, List.set_cons_zero, List.set_cons_succ])
            apply takeH (i := 3) rfl (by kernel_rfl) (by kernel_rfl) (by kernel_rfl) (fun _ _ _ h => h) (by rfl)
            case hy => (intro w hSw; (try dsimp only at hSw); go_simp; try with_reducible rfl)
            case hS => assumption
            (try simp only [Act.put, List.setIfInBounds_toArray, List.set_cons_zero, List.set_cons_succ])
            apply takeH (i := 4) rfl (by kernel_rfl) (by kernel_rfl) (by kernel_rfl) (fun _ _ _ h => h) (by rfl)
            case hy => (intro w hSw; (try dsimp only at hSw); go_simp; try with_reducible rfl)
            case hS => assumption
            (try simp only [Act.put, List.setIfInBounds_toArray, List.set_cons_zero, List.set_cons_succ])
            apply takeH (i := 5) rfl (by kernel_rfl) (by kernel_rfl) (by kernel_rfl) (fun _ _ _ h => h) (by rfl)
            case hy => (intro w hSw; (try dsimp only at hSw); go_simp; try with_reducible rfl)
            case hS => assumption
            (try simp only [Act.put, List.setIfInBounds_toArray, List.set_cons_zero, List.set_cons_succ])
            apply takeH (i := 6) rfl (by kernel_rfl) (by kernel_rfl) (by kernel_rfl) (fun _ _ _ h => h) (by rfl)
            case hy => (intro w hSw; (try dsimp only at hSw); go_simp; try with_reducible rfl)
            case hS => assumption
            (try simp only [Act.put, List.setIfInBounds_toArray, List.set_cons_zero, List.set_cons_succ])
            apply takeH (i := 7) rfl (by kernel_rfl) (by kernel_rfl) (by kernel_rfl) (fun _ _ _ h => h) (by rfl)
            case hy => (intro w hSw; (try dsimp only at hSw); go_simp; try with_reducible rfl)
            case hS => assumption
            (try simp only [Act.put, List.setIfInBounds_toArray, List.set_cons_zero, List.set_cons_succ])
            apply takeH (i := 8) rfl (by kernel_rfl) (by kernel_rfl) (by kernel_rfl) (fun _ _ _ h => h) (by rfl)
            case hy => (intro w hSw; (try dsimp only at hSw); go_simp; try with_reducible rfl)
            case hS => assumption
            (try simp only [Act.put, List.setIfInBounds_toArray, List.set_cons_zero, List.set_cons_succ])
            apply takeH (i := 9) rfl (by kernel_rfl) (by kernel_rfl) (by kernel_rfl) (fun _ _ _ h => h) (by rfl)
            case hy => (intro w hSw; (try dsimp only at hSw); go_simp; try with_reducible rfl)
            case hS => assumption
            (try simp only [Act.put, List.setIfInBounds_toArray, List.set_cons_zero, List.set_cons_succ])
            apply takeH (i := 10) rfl (by kernel_rfl) (by kernel_rfl) (by kernel_rfl) (fun _ _ _ h => h) (by rfl)
            case hy => (intro w hSw; (try dsimp only at hSw); go_simp; try with_reducible rfl)
            case hS => assumption
            (try simp only [Act.put, List.setIfInBounds_toArray, List.set_cons_zero, List.set_cons_succ])
            apply takeH (i := 11) rfl (by kernel_rfl) (by kernel_rfl) (by kernel_rfl) (fun _ _ _ h => h) (by rfl)
            case hy => (intro w hSw; (try dsimp only at hSw); go_simp; try with_reducible rfl)
            case hS => assumption
            (try simp only [Act.put, List.setIfInBounds_toArray, List.set_cons_zero, List.set_cons_succ])
            apply takeH (i := 12) rfl (by kernel_rfl) (by kernel_rfl) (by kernel_rfl) (fun _ _ _ h => h) (by rfl)
            case hy => (intro w hSw; (try dsimp only at hSw); go_simp; try with_reducible rfl)
            case hS => assumption
            (try simp only [Act.put, List.setIfInBounds_toArray, List.set_cons_zero, List.set_cons_succ])
            refine doH (i := 13) rfl (by kernel_rfl) (by rfl) (fun K hK => ?_)
            go_simp
            refine (HROF.out _ _ hcc _ (hsc.below hHeld0.2)).mono ?_
            rintro e wG ⟨vG, rfl, hvG, hbG'⟩
            obtain ⟨og, cg, hvg, hsg, _⟩ := hvG.formd
            rw [HKN.out] at hvg
            subst hvg
            have hbG : Below wc.heap.size wc wG := hHeld0.2.trans (hbG'.mono hHeld0.2.size)
            go_wp2_with fail
            refine hK.out _ _ ?_ (fun hHeld13 => ?_)
            · (refine HKQ.out _ ?_; first | exact hbH | exact hbG | exact (Below.refl _ _).drew | exact Below.refl _ _)
            clear hK K
            (try simp only [Act.put, List.setIfInBounds_toArray, List.set_cons_zero, List.set_cons_succ])
            refine doH (i := 14) rfl (by kernel_rfl) (by rfl) (fun K hK => ?_)
            go_simp
            refine (HSAME.out _ _ _ _ _ (hsOc.below hbG) hsg).mono ?_
            rintro e wH ⟨rfl, hbH'⟩
            have hbH : Below wc.heap.size wc wH := hbG.trans (hbH'.mono hbG.size)
            go_wp2_with fail
            refine hK.out _ _ ?_ (fun hHeld14 => ?_)
            · (refine HKQ.out _ ?_; first | exact hbH | exact hbG | exact (Below.refl _ _).drew | exact Below.refl _ _)
            clear hK K
            (try simp only [Act.put, List.setIfInBounds_toArray, List.set_cons_zero, List.set_cons_succ])
            apply takeH (i := 15) rfl (by kernel_rfl) (by kernel_rfl) (by kernel_rfl) (fun _ _ _ h => h) (by rfl)
            case hy => (intro w hSw; (try dsimp only at hSw); go_simp; try with_reducible rfl)
            case hS => assumption
            (try simp only [Act.put, List.setIfInBounds_toArray, List.set_cons_zero, List.set_cons_succ])
            apply takeH (i := 16) rfl (by kernel_rfl) (by kernel_rfl) (by kernel_rfl) (fun _ _ _ h => h) (by rfl)
            case hy => (intro w hSw; (try dsimp only at hSw); go_simp; try with_reducible rfl)
            case hS => assumption
            (try simp only [Act.put, List.setIfInBounds_toArray, List.set_cons_zero, List.set_cons_succ])
            refine wpAnyH_done (by kernel_rfl) ?_ _
            have hBf := hBc.trans (hbH.mono hBc.size)
            go_wp2
            go_ret
            exact ⟨rfl, hBf⟩
    · rw [Bool.not_eq_true] at hfb
      rw [hfb]
      clear hfb
      go_wp2_with fail
      refine (HA.out _).mono ?_
      rintro e w4 ⟨rfl, hb4⟩
      have hB4 := hB3.trans (hb4.mono hB3.size)
      clear hB3 hb4
      go_wp2
      go_ret
      exact ⟨rfl, hB4⟩
  · rw [Bool.not_eq_true] at hfa
    rw [hfa]
    clear hfa
    go_wp2_with fail
    refine (HA.out _).mono ?_
    rintro e w4 ⟨rfl, hb4⟩
    have hB4 := hB3.trans (hb4.mono hB3.size)
    clear hB3 hb4
    go_wp2
    go_ret
    exact ⟨rfl, hB4⟩
end
end Go.Proofs.Ytmokkahkfmmnmaa

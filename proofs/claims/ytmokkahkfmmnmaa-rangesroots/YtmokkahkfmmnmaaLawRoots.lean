/-
  The walk of the law RangesRoots.
-/
import Derived.Test.YtmokkahkfmmnmaaLawAdds
import Derived.Test.YtmokkahkfmmnmaaRBr3
namespace Go.Proofs.Ytmokkahkfmmnmaa
open Go.RowKit

section
attribute [-go_sem] loadVar
set_option maxRecDepth 100000 in
set_option maxHeartbeats 8000000 in
theorem law_roots (oa : Option Addr) (m cap : Nat) (ss : List ByteArray) (hm : ss.length = m) (hm2 : m ≤ 9223372036854775807) (hsz : ∀ s ∈ ss, s.size ≤ 9223372036854775807) (_hcap : m ≤ cap) (leaf : ByteArray) (hlf : leaf.size ≤ 9223372036854775807) (w : World) (hc : Strs w oa ss) :
    Calls Try.prog 7 #[.slice oa m cap, .string leaf] w fun e w' => e = .returned (.bool true) ∧ Below w.heap.size w w' := by
  have HA := Lib.hid (fun W => awake6_any W)
  have HMK := Lib.hid (fun W => make_std W)
  have HF : Hid (∀ W, Strs W oa ss → Calls Try.prog 9 #[.slice oa m cap, .int .i64 63, .int .i64 60] W fun e w' => e = .returned (.bool (fewM ss 63 60)) ∧ w' = W) := Lib.hid (fun W hW => few_any oa m cap ss hm hm2 hsz 63 60 W hW)
  have HFT := Lib.hid (show fewM ss 63 60 = true → m ≤ 63 ∧ Sz ss from fun h => by rw [← hm]; exact few_sz6 (by decide) (by decide) h)
  have HM := Lib.hid hm
  have HC := Lib.hid hc
  have z1 := zeroTable
  clear hsz hc hm
  go_enter Try.func7, Try.ntmps7
  go_wp2_with fail
  refine (HA.out _).mono ?_
  rintro e w3 ⟨rfl, hB3⟩
  have hc3 := HC.out.below hB3
  clear HC
  go_wp2_with fail
  refine (HF.out _ hc3).mono ?_
  rintro e w' ⟨rfl, hw⟩
  rw [hw]
  clear hw
  by_cases hfew : fewM ss 63 60 = true
  · obtain ⟨hm63, hz⟩ := HFT.out hfew
    rw [hfew]
    clear hfew
    by_cases hll : 60 < leaf.size
    · have hll' : (60 : Int) < (leaf.size : Int) := by omega
      go_wp2_with fail
      refine (HA.out _).mono ?_
      rintro e w4 ⟨rfl, hb4⟩
      have hB4 := hB3.trans (hb4.mono hB3.size)
      clear hB3 hb4
      go_wp2
      go_ret
      exact ⟨rfl, hB4⟩
    have hll' : ¬ (60 : Int) < (leaf.size : Int) := by omega
    have HLV := Lib.hid (fun W hW => rleaves_any oa m cap ss HM.out (by omega) hz W hW)
    have HLX := Lib.hid (fun g W hW => rleaves_any (some ⟨g, 0, none⟩) 1 1 [leaf] rfl (by decide) (by intro x hx; simp at hx; subst hx; omega) W hW)
    have hzl := sz_leaves6 ss
    have HLL := Lib.hid (show (ss.map leafM).length = m by rw [List.length_map]; exact HM.out)
    generalize ss.map leafM = L at *
    rw [show [leaf].map leafM = [leafM leaf] from rfl] at HLX
    have hxs : (leafM leaf).size ≤ 1073741824 := by show (hB _).size ≤ _; rw [hB_size]; decide
    generalize leafM leaf = X at *
    go_wp2_with fail
    refine (HMK.out _).mono ?_
    rintro e w4 ⟨rfl, hb4⟩
    have hc4 := hc3.below hb4
    have hB4 := hB3.trans (hb4.mono hB3.size)
    clear hB3 hb4 hc3
    have hB5 := hB4.alloc hB4.size (.cells tabV 29)
    have hT5 : Blk (w4.alloc (.cells tabV 29)) w4.heap.size 29 tabV := Blk.new _ _ _
    have hc5 := hc4.below ((Below.refl _ w4).alloc (Nat.le_refl _) (.cells tabV 29))
    go_wp2_with (refine wpList_store_row rfl 29 _ _ rfl w4.heap.size tabV rfl rfl 29 zero72 (Blk.new _ _ _) (by rw [tabV_size]; exact infoTable) (by kernel_rfl) (by kernel_rfl) ?_; rw [World.setRow_alloc_new])
    generalize w4.alloc (.cells tabV 29) = w5 at *
    generalize w4.heap.size = gt at *
    clear hB4 hc4 z1
    refine (HLV.out _ hc5).mono ?_
    rintro e w6 ⟨v, rfl, hown, hb6⟩
    obtain ⟨ol, capl, hv, hs6, hcl, hnl⟩ := hown.formd
    rw [HLL.out] at hv hcl hnl
    subst hv
    have hB6 := hB5.trans (hb6.mono hB5.size)
    have hT6 := hT5.below hb6 hT5.lt
    clear hown hb6 hB5 hT5 hc5 HLV
    obtain ⟨w7, hw7⟩ : ∃ w7, w6.alloc (.cells #[.string leaf] 9) = w7 := ⟨_, rfl⟩
    have hk7 : Blk w7 w6.heap.size 9 #[.string leaf] := by rw [← hw7]; exact Blk.new _ _ _
    have hb7 : Below w6.heap.size w6 w7 := by rw [← hw7]; exact (Below.refl _ _).alloc (Nat.le_refl _) _
    have HL7 := Lib.hid (HLX.out w6.heap.size w7 (by
      intro i hi
      have hi1 : i < 1 := hi
      obtain rfl : i = 0 := by omega
      exact ⟨_, rfl, hk7.lt, hk7.cell 0⟩))
    have HW7 := Lib.hid hw7
    clear hw7 HLX hk7
    go_wp2_with (rw [HW7.out])
    refine HL7.out.mono ?_
    rintro e wz ⟨vx, rfl, hvx, hbz'⟩
    obtain ⟨gq, capx, hvv, _, _, hRx⟩ := hvx.row (by simp)
    subst hvv
    have hbz : Below w6.heap.size w6 wz := hb7.trans (hbz'.mono hb7.size)
    have hTz := hT6.below hbz hT6.lt
    have hsz := hs6.below hbz
    have hBz := hB6.trans (hbz.mono hB6.size)
    have hX0 : wz.cell? ⟨gq, 0, none⟩ = some (.string X) := hRx.2 0 (by simp)
    have hgq : gq < wz.heap.size := hRx.1
    have HOF := Lib.hid (fun W hW => of_any ol m capl L HLL.out (by omega) hcl hzl W hW)
    obtain ⟨k, hk⟩ : ∃ k, (ofM L).length = k := ⟨_, rfl⟩
    have hk64 : k ≤ 64 := by
      rw [← hk, ofM_length, HLL.out]
      have := strL_len 63 m (by have : (2 : Nat) ^ 63 = 9223372036854775808 := by decide
                                omega)
      omega
    have HK := Lib.hid hk
    obtain ⟨kx, hkx⟩ : ∃ kx, (ofM (L ++ [X])).length = kx := ⟨_, rfl⟩
    have HKX := Lib.hid hkx
    have hkx64 : kx ≤ 64 := by
      rw [← hkx, ofM_length, List.length_append, HLL.out]
      have := strL_len 63 (m + [X].length) (by have : (2 : Nat) ^ 63 = 9223372036854775808 := by decide
                                               simp; omega)
      omega
    have HAD := Lib.hid (show ∀ (o : Option Addr) (c : Nat) (_ : k ≤ c) (_ : o = none → k = 0 ∧ c = 0) (W : World) (_ : Strs W o (ofM L)), Calls Try.prog 18 #[.agg tabV, .agg #[.int .i64 m, .slice o k c], .string X] W (RP (m + 1) (ofM (L ++ [X])) W) from fun o c h1 h2 W hW => by
      have h := add_any m (by omega) o k c (ofM L) X HK.out (by omega) h1 h2 (sz_chk hzl) hxs W hW
      have e := putM_add L X
      rw [HLL.out] at e
      rw [e] at h
      exact h)
    have hzx : Sz (L ++ [X]) := by
      intro y hy
      rcases List.mem_append.1 hy with h | h
      · exact hzl y h
      · simp at h; subst h; exact hxs
    obtain ⟨m', hm'⟩ : ∃ m' : Nat, m + 1 = m' := ⟨_, rfl⟩
    rw [hm'] at HAD
    have HRW := Lib.hid (fun o c b W hW => root_own (m' : Int) o kx c (ofM (L ++ [X])) HKX.out (by omega) (sz_chk hzx) b W hW)
    rw [rtM_of (L ++ [X])] at HRW
    have HLX := Lib.hid (show (L ++ [X]).length = m' by rw [List.length_append, HLL.out]; exact hm')
    have HMR := Lib.hid (fun o c (hc : m' ≤ c) W hW => mroot_any m' o c (L ++ [X]) HLX.out (by omega) hc hzx W hW)
    generalize rootM (L ++ [X]) = RR at *
    have HKP := Lib.hid (show ∀ W, Below wz.heap.size wz W → ((loadVar 29 ⟨gt, 0, none⟩).run Try.prog W = .ok (.agg tabV) W ∧ (loadVar 9 ⟨gq, 0, none⟩).run Try.prog W = .ok (.string X) W) ∧ Below wz.heap.size wz W from fun W hW => ⟨⟨tab_run (hTz.below hW hTz.lt), txt_load ((hW.cell (p := ⟨gq, 0, none⟩) hgq).trans hX0)⟩, hW⟩)
    clear hs6 hb7 hbz' hvx hRx hB6 hT6 hbz hk hkx
    go_wp2
    refine wp_region_held_drew (S := fun W => ((loadVar 29 ⟨gt, 0, none⟩).run Try.prog W = .ok (.agg tabV) W ∧ (loadVar 9 ⟨gq, 0, none⟩).run Try.prog W = .ok (.string X) W) ∧ Below wz.heap.size wz W) (by kernel_rfl) ?_ (fun hHeld0 => ?_)
    · (refine HKP.out _ ?_; first | exact hbE | exact hbD | exact hbC | exact hbA | exact (Below.refl _ _).drew | exact Below.refl _ _)
    apply takeH (i := 0) rfl (by kernel_rfl) (by kernel_rfl) (by kernel_rfl) (fun _ _ _ h => h) (by rfl)
    case hy => (intro w hSw; (try dsimp only at hSw); go_simp; try with_reducible rfl)
    case hS => assumption
    (try simp only [Act.put, List.setIfInBounds_toArray, List.set_cons_zero, List.set_cons_succ])
    apply takeH (i := 1) rfl (by kernel_rfl) (by kernel_rfl) (by kernel_rfl) (fun _ _ _ h => h) (by rfl)
    case hy => (intro w hSw; (try dsimp only at hSw); go_simp; try with_reducible rfl)
    case hS => assumption
    (try simp only [Act.put, List.setIfInBounds_toArray, List.set_cons_zero, List.set_cons_succ])
    apply takeH (i := 2) rfl (by kernel_rfl) (by kernel_rfl) (by kernel_rfl) (fun _ _ _ h => h) (by rfl)
    case hy => (intro w hSw; (try dsimp only at hSw); go_simp; try with_reducible rfl)
    case hS => assumption
    (try simp only [Act.put, List.setIfInBounds_toArray, List.set_cons_zero, List.set_cons_succ])
    apply takeH (i := 4) rfl (by kernel_rfl) (by kernel_rfl) (by kernel_rfl) (fun _ _ _ h => h) (by rfl)
    case hy => (intro w hSw; (try dsimp only at hSw); go_simp; try with_reducible rfl)
    case hS => assumption
    (try simp only [Act.put, List.setIfInBounds_toArray, List.set_cons_zero, List.set_cons_succ])
    apply takeH (i := 5) rfl (by kernel_rfl) (by kernel_rfl) (by kernel_rfl) (fun _ _ _ h => h) (by rfl)
    case hy => (intro w hSw; (try dsimp only at hSw); go_simp; try with_reducible rfl)
    case hS => assumption
    (try simp only [Act.put, List.setIfInBounds_toArray, List.set_cons_zero, List.set_cons_succ])
    apply takeH (i := 6) rfl (by kernel_rfl) (by kernel_rfl) (by kernel_rfl) (fun _ _ _ h => h) (by rfl)
    case hy => (intro w hSw; (try dsimp only at hSw); go_simp; try with_reducible rfl)
    case hS => assumption
    (try simp only [Act.put, List.setIfInBounds_toArray, List.set_cons_zero, List.set_cons_succ])
    refine doH2 (i := 3) (j := 8) rfl rfl (by kernel_rfl) (by rfl) (by rfl) (fun K hK => ?_) (fun K hK => ?_)
    · go_simp
      refine (HOF.out _ (hsz.below hHeld0.2)).mono ?_
      rintro e wA ⟨vA, rfl, hvA, hbA'⟩
      obtain ⟨ov, cv, hvv, hsv, hkc, hnil⟩ := hvA.formd
      rw [HK.out] at hvv hkc hnil
      subst hvv
      have hbA : Below wz.heap.size wz wA := (hHeld0.2).trans (hbA'.mono (hHeld0.2).size)
      go_wp2_with fail
      refine hK.out _ _ ?_ (fun hHeld3 => ?_)
      · (refine HKP.out _ ?_; first | exact hbE | exact hbD | exact hbC | exact hbA | exact (Below.refl _ _).drew | exact Below.refl _ _)
      clear hK K
      (try simp only [Act.put, List.setIfInBounds_toArray, List.set_cons_zero, List.set_cons_succ])
      refine doH2 (i := 7) (j := 8) rfl rfl (by kernel_rfl) (by rfl) (by rfl) (fun K hK => ?_) (fun K hK => ?_)
      · go_simp
        refine (HAD.out ov cv hkc hnil _ (hsv)).mono ?_
        rintro e wD ⟨vD, rfl, hvD, hbD'⟩
        obtain ⟨ox, cx, hvv, _⟩ := hvD.formd
        rw [HKX.out] at hvv
        subst hvv
        have hbD : Below wz.heap.size wz wD := (hHeld3.2).trans (hbD'.mono (hHeld3.2).size)
        go_wp2_with fail
        refine hK.out _ _ ?_ (fun hHeld7 => ?_)
        · (refine HKP.out _ ?_; first | exact hbE | exact hbD | exact hbC | exact hbA | exact (Below.refl _ _).drew | exact Below.refl _ _)
        clear hK K
        (try simp only [Act.put, List.setIfInBounds_toArray, List.set_cons_zero, List.set_cons_succ])
        refine doH (i := 8) rfl (by kernel_rfl) (by rfl) (fun K hK => ?_)
        have hbC := hbD.alloc hbD.size (.cells #[.int .i64 0, .slice none 0 0] 33)
        go_simp
        refine hK.out _ _ ?_ (fun hHeld8 => ?_)
        · (refine HKP.out _ ?_; first | exact hbE | exact hbD | exact hbC | exact hbA | exact (Below.refl _ _).drew | exact Below.refl _ _)
        clear hK K
        (try simp only [Act.put, List.setIfInBounds_toArray, List.set_cons_zero, List.set_cons_succ])
        refine doH (i := 9) rfl (by kernel_rfl) (by rfl) (fun K hK => ?_)
        go_simp
        have hbE := hbD.alloc hbD.size (.cells #[.int .i64 m', .slice ox kx cx] 33)
        have hME : Blk (wD.alloc (.cells #[.int .i64 m', .slice ox kx cx] 33)) wD.heap.size 33 #[.int .i64 m', .slice ox kx cx] := Blk.new _ _ _
        have hCE := World.ownsRow.alloc hvD (.cells #[.int .i64 m', .slice ox kx cx] 33)
        obtain ⟨wE, hwE⟩ : ∃ wE, wD.alloc (.cells #[.int .i64 m', .slice ox kx cx] 33) = wE := ⟨_, rfl⟩
        obtain ⟨gx, hgx⟩ : ∃ gx, wD.heap.size = gx := ⟨_, rfl⟩
        rw [hwE] at hbE hME hCE ⊢
        rw [hgx] at hME ⊢
        replace hCE : ∃ bx, Own wE bx (.slice ox kx cx) (ofM (L ++ [X])) := ⟨_, by simpa [Own, HKX.out] using hCE⟩
        obtain ⟨bx, hCE⟩ := hCE
        refine hK.out _ _ ?_ (fun hHeld9 => ?_)
        · (refine HKP.out _ ?_; first | exact hbE | exact hbD | exact hbC | exact hbA | exact (Below.refl _ _).drew | exact Below.refl _ _)
        clear hK K
        (try simp only [Act.put, List.setIfInBounds_toArray, List.set_cons_zero, List.set_cons_succ])
        refine wpAnyH_done (by kernel_rfl) ?_ _
        have hTE := hTz.below hbE hTz.lt
        have hsE := hsz.below hbE
        have hBE := hBz.trans (hbE.mono hBz.size)
        have hXE0 : wE.cell? ⟨gq, 0, none⟩ = some (.string X) := (hbE.cell (p := ⟨gq, 0, none⟩) hgq).trans hX0
        have hgqE : gq < wE.heap.size := Nat.lt_of_lt_of_le hgq hbE.size
        have HKQ := Lib.hid (show ∀ W, Below wE.heap.size wE W → ((loadVar 29 ⟨gt, 0, none⟩).run Try.prog W = .ok (.agg tabV) W ∧ (loadVar 33 ⟨gx, 0, none⟩).run Try.prog W = .ok (.agg #[.int .i64 m', .slice ox kx cx]) W ∧ (loadVar 9 ⟨gq, 0, none⟩).run Try.prog W = .ok (.string X) W) ∧ Below wE.heap.size wE W from fun W hW => ⟨⟨tab_run (hTE.below hW hTE.lt), ld_rng (hME.below hW hME.lt), txt_load ((hW.cell (p := ⟨gq, 0, none⟩) hgqE).trans hXE0)⟩, hW⟩)
        have hb0 : Below wE.heap.size wE wE.drew := (Below.refl _ _).drew
        obtain ⟨wd, hwd⟩ : ∃ wd, wE.drew = wd := ⟨_, rfl⟩
        rw [hwd] at hb0
        clear hHeld9
        go_wp2
        refine wp_region_held_drew (S := fun W => ((loadVar 29 ⟨gt, 0, none⟩).run Try.prog W = .ok (.agg tabV) W ∧ (loadVar 33 ⟨gx, 0, none⟩).run Try.prog W = .ok (.agg #[.int .i64 m', .slice ox kx cx]) W ∧ (loadVar 9 ⟨gq, 0, none⟩).run Try.prog W = .ok (.string X) W) ∧ Below wE.heap.size wE W) (by kernel_rfl) ?_ (fun hHeld0 => ?_)
        · (refine HKQ.out _ ?_; rw [hwd]; exact hb0)
        rw [hwd]
        rw [hwd] at hHeld0
        apply takeH (i := 0) rfl (by kernel_rfl) (by kernel_rfl) (by kernel_rfl) (fun _ _ _ h => h) (by rfl)
        case hy => (intro w hSw; (try dsimp only at hSw); go_simp; try with_reducible rfl)
        case hS => assumption
        (try simp only [Act.put, List.setIfInBounds_toArray, List.set_cons_zero, List.set_cons_succ])
        apply takeH (i := 1) rfl (by kernel_rfl) (by kernel_rfl) (by kernel_rfl) (fun _ _ _ h => h) (by rfl)
        case hy => (intro w hSw; (try dsimp only at hSw); go_simp; try with_reducible rfl)
        case hS => assumption
        (try simp only [Act.put, List.setIfInBounds_toArray, List.set_cons_zero, List.set_cons_succ])
        apply takeH (i := 3) rfl (by kernel_rfl) (by kernel_rfl) (by kernel_rfl) (fun _ _ _ h => h) (by rfl)
        case hy => (intro w hSw; (try dsimp only at hSw); go_simp; try with_reducible rfl)
        case hS => assumption
        (try simp only [Act.put, List.setIfInBounds_toArray, List.set_cons_zero, List.set_cons_succ])
        apply takeH (i := 5) rfl (by kernel_rfl) (by kernel_rfl) (by kernel_rfl) (fun _ _ _ h => h) (by rfl)
        case hy => (intro w hSw; (try dsimp only at hSw); go_simp; try with_reducible rfl)
        case hS => assumption
        (try simp only [Act.put, List.setIfInBounds_toArray, List.set_cons_zero, List.set_cons_succ])
        apply takeH (i := 7) rfl (by kernel_rfl) (by kernel_rfl) (by kernel_rfl) (fun _ _ _ h => h) (by rfl)
        case hy => (intro w hSw; (try dsimp only at hSw); go_simp; try with_reducible rfl)
        case hS => assumption
        (try simp only [Act.put, List.setIfInBounds_toArray, List.set_cons_zero, List.set_cons_succ])
        apply takeH (i := 8) rfl (by kernel_rfl) (by kernel_rfl) (by kernel_rfl) (fun _ _ _ h => h) (by rfl)
        case hy => (intro w hSw; (try dsimp only at hSw); go_simp; try with_reducible rfl)
        case hS => assumption
        (try simp only [Act.put, List.setIfInBounds_toArray, List.set_cons_zero, List.set_cons_succ])
        apply takeH (i := 9) rfl (by kernel_rfl) (by kernel_rfl) (by kernel_rfl) (fun _ _ _ h => h) (by rfl)
        case hy => (intro w hSw; (try dsimp only at hSw); go_simp; try with_reducible rfl)
        case hS => assumption
        (try simp only [Act.put, List.setIfInBounds_toArray, List.set_cons_zero, List.set_cons_succ])
        refine doH3 (i := 2) (j := 4) (k := 10) rfl rfl rfl (by kernel_rfl) (by rfl) (by rfl) (by rfl) (fun K hK => ?_) (fun K hK => ?_) (fun K hK => ?_)
        · go_simp
          refine (HRW.out ox cx bx _ (hCE.below hb0)).mono ?_
          rintro e wx2 ⟨rfl, hwx2'⟩
          have hwx2 : Below wE.heap.size wE wx2 := hb0.trans (hwx2'.mono hb0.size)
          go_wp2_with fail
          refine hK.out _ _ ?_ (fun hHeld2 => ?_)
          · (refine HKQ.out _ ?_; exact hwx2)
          clear hK K
          (try simp only [Act.put, List.setIfInBounds_toArray, List.set_cons_zero, List.set_cons_succ])
          refine doH2 (i := 4) (j := 10) rfl rfl (by kernel_rfl) (by rfl) (by rfl) (fun K hK => ?_) (fun K hK => ?_)
          · go_simp
            have own4 : Own (wx2.alloc (.cells #[] 9)) wE.heap.size (.slice (some ⟨wx2.heap.size, 0, none⟩) 0 0) [] := World.ownsRow_made wx2 #[] 0 hwx2.size (by unfold maxLen; omega) rfl
            have hw2x4 := hwx2.alloc hwx2.size (.cells #[] 9)
            obtain ⟨w2x4, hw2x4e⟩ : ∃ w2x4, wx2.alloc (.cells #[] 9) = w2x4 := ⟨_, rfl⟩
            obtain ⟨g4, hg4⟩ : ∃ g4, wx2.heap.size = g4 := ⟨_, rfl⟩
            rw [hw2x4e] at own4 hw2x4 ⊢
            rw [hg4] at own4 ⊢
            refine hK.out _ _ ?_ (fun hHeld4 => ?_)
            · (refine HKQ.out _ ?_; exact hw2x4)
            clear hK K
            (try simp only [Act.put, List.setIfInBounds_toArray, List.set_cons_zero, List.set_cons_succ])
            refine doH2 (i := 6) (j := 10) rfl rfl (by kernel_rfl) (by rfl) (by rfl) (fun K hK => ?_) (fun K hK => ?_)
            · obtain ⟨v6, w24x6, hr6, own6, hg6, _⟩ := append_strs own4 ol m capl HLL.out (hsE.below hw2x4) hnl (by simp; omega) hw2x4.size
              have hw24x6 := own_below2 hw2x4 own4 (Nat.le_refl _) hg6
              obtain ⟨o6, c6, hv6, _⟩ := own6.formd
              rw [List.nil_append, HLL.out] at hv6
              rw [List.nil_append] at own6
              subst hv6
              refine Lib.wp_append_run _ _ _ 22 22 rfl _ _ rfl rfl _ _ hr6 ?_
              clear hr6
              refine hK.out _ _ ?_ (fun hHeld6 => ?_)
              · (refine HKQ.out _ ?_; exact hw24x6)
              clear hK K
              (try simp only [Act.put, List.setIfInBounds_toArray, List.set_cons_zero, List.set_cons_succ])
              refine doH (i := 10) rfl (by kernel_rfl) (by rfl) (fun K hK => ?_)
              go_simp
              have blk10 : Blk (w24x6.alloc (.cells #[.string X] 9)) w24x6.heap.size 9 #[.string X] := Blk.new _ _ _
              have hw246x10 := hw24x6.alloc hw24x6.size (.cells #[.string X] 9)
              have own6 : Own (w24x6.alloc (.cells #[.string X] 9)) wE.heap.size (.slice o6 m c6) L := World.ownsRow.alloc own6 _
              obtain ⟨w246x10, hw246x10e⟩ : ∃ w246x10, w24x6.alloc (.cells #[.string X] 9) = w246x10 := ⟨_, rfl⟩
              obtain ⟨g10, hg10⟩ : ∃ g10, w24x6.heap.size = g10 := ⟨_, rfl⟩
              rw [hw246x10e] at blk10 hw246x10 ⊢
              rw [hg10] at blk10 ⊢
              rw [hw246x10e] at own6
              refine hK.out _ _ ?_ (fun hHeld10 => ?_)
              · (refine HKQ.out _ ?_; exact hw246x10)
              clear hK K
              (try simp only [Act.put, List.setIfInBounds_toArray, List.set_cons_zero, List.set_cons_succ])
              refine doH (i := 11) rfl (by kernel_rfl) (by rfl) (fun K hK => ?_)
              obtain ⟨v11, w24610x11, hr11, own11, hg11, _⟩ := append_strs own6 (some ⟨g10, 0, none⟩) 1 1 (ts := [X]) rfl (by
                intro i hi
                have hi1 : i < 1 := hi
                obtain rfl : i = 0 := by omega
                exact ⟨_, rfl, blk10.lt, blk10.cell 0⟩) (fun h => by cases h) (by rw [HLL.out]; omega) hw246x10.size
              have hw24610x11 := own_below2 hw246x10 own6 (Nat.le_refl _) hg11
              obtain ⟨o11, c11, hv11, hs11, hc11, _⟩ := own11.formd
              rw [HLX.out] at hv11 hc11
              subst hv11
              refine Lib.wp_append_run _ _ _ 22 22 rfl _ _ rfl rfl _ _ hr11 ?_
              clear hr11
              refine hK.out _ _ ?_ (fun hHeld11 => ?_)
              · (refine HKQ.out _ ?_; exact hw24610x11)
              clear hK K
              (try simp only [Act.put, List.setIfInBounds_toArray, List.set_cons_zero, List.set_cons_succ])
              refine doH (i := 12) rfl (by kernel_rfl) (by rfl) (fun K hK => ?_)
              go_simp
              refine (HMR.out o11 c11 hc11 _ hs11).mono ?_
              rintro e wF ⟨rfl, hbF'⟩
              have hbF : Below wE.heap.size wE wF := hw24610x11.trans (hbF'.mono hw24610x11.size)
              go_wp2_with fail
              refine hK.out _ _ ?_ (fun hHeld12 => ?_)
              · (refine HKQ.out _ ?_; exact hbF)
              clear hK K
              (try simp only [Act.put, List.setIfInBounds_toArray, List.set_cons_zero, List.set_cons_succ])
              apply takeH (i := 13) rfl (by kernel_rfl) (by kernel_rfl) (by kernel_rfl) (fun _ _ _ h => h) (by rfl)
              case hy => (intro w hSw; (try dsimp only at hSw); go_simp; try with_reducible rfl)
              case hS => assumption
              (try simp only [Act.put, List.setIfInBounds_toArray, List.set_cons_zero, List.set_cons_succ])
              apply takeH (i := 14) rfl (by kernel_rfl) (by kernel_rfl) (by kernel_rfl) (fun _ _ _ h => h) (by rfl)
              case hy => (intro w hSw; (try dsimp only at hSw); go_simp; try with_reducible rfl)
              case hS => assumption
              (try simp only [Act.put, List.setIfInBounds_toArray, List.set_cons_zero, List.set_cons_succ])
              refine wpAnyH_done (by kernel_rfl) ?_ _
              have hBf := hBE.trans (hbF.mono hBE.size)
              go_wp2
              go_ret
              exact ⟨rfl, hBf⟩
            · go_simp
              have blk10 : Blk (w2x4.alloc (.cells #[.string X] 9)) w2x4.heap.size 9 #[.string X] := Blk.new _ _ _
              have hw24x10 := hw2x4.alloc hw2x4.size (.cells #[.string X] 9)
              have hne : w2x4.heap.size ≠ g4 := by have := (World.ownsRow.lt own4 g4 rfl).2; omega
              have own4 : Own (w2x4.alloc (.cells #[.string X] 9)) wE.heap.size (.slice (some ⟨g4, 0, none⟩) 0 0) [] := World.ownsRow.alloc own4 _
              obtain ⟨w24x10, hw24x10e⟩ : ∃ w24x10, w2x4.alloc (.cells #[.string X] 9) = w24x10 := ⟨_, rfl⟩
              obtain ⟨g10, hg10⟩ : ∃ g10, w2x4.heap.size = g10 := ⟨_, rfl⟩
              rw [hw24x10e] at blk10 hw24x10 ⊢
              rw [hg10] at blk10 ⊢
              rw [hw24x10e] at own4
              rw [hg10] at hne
              refine hK.out _ _ ?_ (fun hHeld10 => ?_)
              · (refine HKQ.out _ ?_; exact hw24x10)
              clear hK K
              (try simp only [Act.put, List.setIfInBounds_toArray, List.set_cons_zero, List.set_cons_succ])
              refine doH (i := 6) rfl (by kernel_rfl) (by rfl) (fun K hK => ?_)
              obtain ⟨v6, w2410x6, hr6, own6, hg6, _⟩ := append_strs own4 ol m capl HLL.out (hsE.below hw24x10) hnl (by simp; omega) hw24x10.size
              have hw2410x6 := own_below2 hw24x10 own4 (Nat.le_refl _) hg6
              have blk10 := blk10.grown hg6 (by simp [Value.ownBlock]; omega)
              obtain ⟨o6, c6, hv6, _⟩ := own6.formd
              rw [List.nil_append, HLL.out] at hv6
              rw [List.nil_append] at own6
              subst hv6
              refine Lib.wp_append_run _ _ _ 22 22 rfl _ _ rfl rfl _ _ hr6 ?_
              clear hr6
              refine hK.out _ _ ?_ (fun hHeld6 => ?_)
              · (refine HKQ.out _ ?_; exact hw2410x6)
              clear hK K
              (try simp only [Act.put, List.setIfInBounds_toArray, List.set_cons_zero, List.set_cons_succ])
              refine doH (i := 11) rfl (by kernel_rfl) (by rfl) (fun K hK => ?_)
              obtain ⟨v11, w24106x11, hr11, own11, hg11, _⟩ := append_strs own6 (some ⟨g10, 0, none⟩) 1 1 (ts := [X]) rfl (by
                intro i hi
                have hi1 : i < 1 := hi
                obtain rfl : i = 0 := by omega
                exact ⟨_, rfl, blk10.lt, blk10.cell 0⟩) (fun h => by cases h) (by rw [HLL.out]; omega) hw2410x6.size
              have hw24106x11 := own_below2 hw2410x6 own6 (Nat.le_refl _) hg11
              obtain ⟨o11, c11, hv11, hs11, hc11, _⟩ := own11.formd
              rw [HLX.out] at hv11 hc11
              subst hv11
              refine Lib.wp_append_run _ _ _ 22 22 rfl _ _ rfl rfl _ _ hr11 ?_
              clear hr11
              refine hK.out _ _ ?_ (fun hHeld11 => ?_)
              · (refine HKQ.out _ ?_; exact hw24106x11)
              clear hK K
              (try simp only [Act.put, List.setIfInBounds_toArray, List.set_cons_zero, List.set_cons_succ])
              refine doH (i := 12) rfl (by kernel_rfl) (by rfl) (fun K hK => ?_)
              go_simp
              refine (HMR.out o11 c11 hc11 _ hs11).mono ?_
              rintro e wF ⟨rfl, hbF'⟩
              have hbF : Below wE.heap.size wE wF := hw24106x11.trans (hbF'.mono hw24106x11.size)
              go_wp2_with fail
              refine hK.out _ _ ?_ (fun hHeld12 => ?_)
              · (refine HKQ.out _ ?_; exact hbF)
              clear hK K
              (try simp only [Act.put, List.setIfInBounds_toArray, List.set_cons_zero, List.set_cons_succ])
              apply takeH (i := 13) rfl (by kernel_rfl) (by kernel_rfl) (by kernel_rfl) (fun _ _ _ h => h) (by rfl)
              case hy => (intro w hSw; (try dsimp only at hSw); go_simp; try with_reducible rfl)
              case hS => assumption
              (try simp only [Act.put, List.setIfInBounds_toArray, List.set_cons_zero, List.set_cons_succ])
              apply takeH (i := 14) rfl (by kernel_rfl) (by kernel_rfl) (by kernel_rfl) (fun _ _ _ h => h) (by rfl)
              case hy => (intro w hSw; (try dsimp only at hSw); go_simp; try with_reducible rfl)
              case hS => assumption
              (try simp only [Act.put, List.setIfInBounds_toArray, List.set_cons_zero, List.set_cons_succ])
              refine wpAnyH_done (by kernel_rfl) ?_ _
              have hBf := hBE.trans (hbF.mono hBE.size)
              go_wp2
              go_ret
              exact ⟨rfl, hBf⟩
          · go_simp
            have blk10 : Blk (wx2.alloc (.cells #[.string X] 9)) wx2.heap.size 9 #[.string X] := Blk.new _ _ _
            have hw2x10 := hwx2.alloc hwx2.size (.cells #[.string X] 9)
            obtain ⟨w2x10, hw2x10e⟩ : ∃ w2x10, wx2.alloc (.cells #[.string X] 9) = w2x10 := ⟨_, rfl⟩
            obtain ⟨g10, hg10⟩ : ∃ g10, wx2.heap.size = g10 := ⟨_, rfl⟩
            rw [hw2x10e] at blk10 hw2x10 ⊢
            rw [hg10] at blk10 ⊢
            refine hK.out _ _ ?_ (fun hHeld10 => ?_)
            · (refine HKQ.out _ ?_; exact hw2x10)
            clear hK K
            (try simp only [Act.put, List.setIfInBounds_toArray, List.set_cons_zero, List.set_cons_succ])
            refine doH (i := 4) rfl (by kernel_rfl) (by rfl) (fun K hK => ?_)
            go_simp
            have own4 : Own (w2x10.alloc (.cells #[] 9)) wE.heap.size (.slice (some ⟨w2x10.heap.size, 0, none⟩) 0 0) [] := World.ownsRow_made w2x10 #[] 0 hw2x10.size (by unfold maxLen; omega) rfl
            have hw210x4 := hw2x10.alloc hw2x10.size (.cells #[] 9)
            have hne : g10 ≠ w2x10.heap.size := by have := blk10.lt; omega
            have blk10 := blk10.alloc (.cells #[] 9)
            obtain ⟨w210x4, hw210x4e⟩ : ∃ w210x4, w2x10.alloc (.cells #[] 9) = w210x4 := ⟨_, rfl⟩
            obtain ⟨g4, hg4⟩ : ∃ g4, w2x10.heap.size = g4 := ⟨_, rfl⟩
            rw [hw210x4e] at own4 hw210x4 ⊢
            rw [hg4] at own4 ⊢
            rw [hw210x4e] at blk10
            rw [hg4] at hne
            refine hK.out _ _ ?_ (fun hHeld4 => ?_)
            · (refine HKQ.out _ ?_; exact hw210x4)
            clear hK K
            (try simp only [Act.put, List.setIfInBounds_toArray, List.set_cons_zero, List.set_cons_succ])
            refine doH (i := 6) rfl (by kernel_rfl) (by rfl) (fun K hK => ?_)
            obtain ⟨v6, w2104x6, hr6, own6, hg6, _⟩ := append_strs own4 ol m capl HLL.out (hsE.below hw210x4) hnl (by simp; omega) hw210x4.size
            have hw2104x6 := own_below2 hw210x4 own4 (Nat.le_refl _) hg6
            have blk10 := blk10.grown hg6 (by simp [Value.ownBlock]; omega)
            obtain ⟨o6, c6, hv6, _⟩ := own6.formd
            rw [List.nil_append, HLL.out] at hv6
            rw [List.nil_append] at own6
            subst hv6
            refine Lib.wp_append_run _ _ _ 22 22 rfl _ _ rfl rfl _ _ hr6 ?_
            clear hr6
            refine hK.out _ _ ?_ (fun hHeld6 => ?_)
            · (refine HKQ.out _ ?_; exact hw2104x6)
            clear hK K
            (try simp only [Act.put, List.setIfInBounds_toArray, List.set_cons_zero, List.set_cons_succ])
            refine doH (i := 11) rfl (by kernel_rfl) (by rfl) (fun K hK => ?_)
            obtain ⟨v11, w21046x11, hr11, own11, hg11, _⟩ := append_strs own6 (some ⟨g10, 0, none⟩) 1 1 (ts := [X]) rfl (by
              intro i hi
              have hi1 : i < 1 := hi
              obtain rfl : i = 0 := by omega
              exact ⟨_, rfl, blk10.lt, blk10.cell 0⟩) (fun h => by cases h) (by rw [HLL.out]; omega) hw2104x6.size
            have hw21046x11 := own_below2 hw2104x6 own6 (Nat.le_refl _) hg11
            obtain ⟨o11, c11, hv11, hs11, hc11, _⟩ := own11.formd
            rw [HLX.out] at hv11 hc11
            subst hv11
            refine Lib.wp_append_run _ _ _ 22 22 rfl _ _ rfl rfl _ _ hr11 ?_
            clear hr11
            refine hK.out _ _ ?_ (fun hHeld11 => ?_)
            · (refine HKQ.out _ ?_; exact hw21046x11)
            clear hK K
            (try simp only [Act.put, List.setIfInBounds_toArray, List.set_cons_zero, List.set_cons_succ])
            refine doH (i := 12) rfl (by kernel_rfl) (by rfl) (fun K hK => ?_)
            go_simp
            refine (HMR.out o11 c11 hc11 _ hs11).mono ?_
            rintro e wF ⟨rfl, hbF'⟩
            have hbF : Below wE.heap.size wE wF := hw21046x11.trans (hbF'.mono hw21046x11.size)
            go_wp2_with fail
            refine hK.out _ _ ?_ (fun hHeld12 => ?_)
            · (refine HKQ.out _ ?_; exact hbF)
            clear hK K
            (try simp only [Act.put, List.setIfInBounds_toArray, List.set_cons_zero, List.set_cons_succ])
            apply takeH (i := 13) rfl (by kernel_rfl) (by kernel_rfl) (by kernel_rfl) (fun _ _ _ h => h) (by rfl)
            case hy => (intro w hSw; (try dsimp only at hSw); go_simp; try with_reducible rfl)
            case hS => assumption
            (try simp only [Act.put, List.setIfInBounds_toArray, List.set_cons_zero, List.set_cons_succ])
            apply takeH (i := 14) rfl (by kernel_rfl) (by kernel_rfl) (by kernel_rfl) (fun _ _ _ h => h) (by rfl)
            case hy => (intro w hSw; (try dsimp only at hSw); go_simp; try with_reducible rfl)
            case hS => assumption
            (try simp only [Act.put, List.setIfInBounds_toArray, List.set_cons_zero, List.set_cons_succ])
            refine wpAnyH_done (by kernel_rfl) ?_ _
            have hBf := hBE.trans (hbF.mono hBE.size)
            go_wp2
            go_ret
            exact ⟨rfl, hBf⟩
        · go_simp
          have own4 : Own (wd.alloc (.cells #[] 9)) wE.heap.size (.slice (some ⟨wd.heap.size, 0, none⟩) 0 0) [] := World.ownsRow_made wd #[] 0 hb0.size (by unfold maxLen; omega) rfl
          have hwx4 := hb0.alloc hb0.size (.cells #[] 9)
          obtain ⟨wx4, hwx4e⟩ : ∃ wx4, wd.alloc (.cells #[] 9) = wx4 := ⟨_, rfl⟩
          obtain ⟨g4, hg4⟩ : ∃ g4, wd.heap.size = g4 := ⟨_, rfl⟩
          rw [hwx4e] at own4 hwx4 ⊢
          rw [hg4] at own4 ⊢
          refine hK.out _ _ ?_ (fun hHeld4 => ?_)
          · (refine HKQ.out _ ?_; exact hwx4)
          clear hK K
          (try simp only [Act.put, List.setIfInBounds_toArray, List.set_cons_zero, List.set_cons_succ])
          refine doH2 (i := 2) (j := 10) rfl rfl (by kernel_rfl) (by rfl) (by rfl) (fun K hK => ?_) (fun K hK => ?_)
          · go_simp
            refine (HRW.out ox cx bx _ (hCE.below hwx4)).mono ?_
            rintro e w4x2 ⟨rfl, hw4x2'⟩
            have hw4x2 : Below wE.heap.size wE w4x2 := hwx4.trans (hw4x2'.mono hwx4.size)
            have own4 := own4.below hw4x2'
            go_wp2_with fail
            refine hK.out _ _ ?_ (fun hHeld2 => ?_)
            · (refine HKQ.out _ ?_; exact hw4x2)
            clear hK K
            (try simp only [Act.put, List.setIfInBounds_toArray, List.set_cons_zero, List.set_cons_succ])
            refine doH2 (i := 6) (j := 10) rfl rfl (by kernel_rfl) (by rfl) (by rfl) (fun K hK => ?_) (fun K hK => ?_)
            · obtain ⟨v6, w42x6, hr6, own6, hg6, _⟩ := append_strs own4 ol m capl HLL.out (hsE.below hw4x2) hnl (by simp; omega) hw4x2.size
              have hw42x6 := own_below2 hw4x2 own4 (Nat.le_refl _) hg6
              obtain ⟨o6, c6, hv6, _⟩ := own6.formd
              rw [List.nil_append, HLL.out] at hv6
              rw [List.nil_append] at own6
              subst hv6
              refine Lib.wp_append_run _ _ _ 22 22 rfl _ _ rfl rfl _ _ hr6 ?_
              clear hr6
              refine hK.out _ _ ?_ (fun hHeld6 => ?_)
              · (refine HKQ.out _ ?_; exact hw42x6)
              clear hK K
              (try simp only [Act.put, List.setIfInBounds_toArray, List.set_cons_zero, List.set_cons_succ])
              refine doH (i := 10) rfl (by kernel_rfl) (by rfl) (fun K hK => ?_)
              go_simp
              have blk10 : Blk (w42x6.alloc (.cells #[.string X] 9)) w42x6.heap.size 9 #[.string X] := Blk.new _ _ _
              have hw426x10 := hw42x6.alloc hw42x6.size (.cells #[.string X] 9)
              have own6 : Own (w42x6.alloc (.cells #[.string X] 9)) wE.heap.size (.slice o6 m c6) L := World.ownsRow.alloc own6 _
              obtain ⟨w426x10, hw426x10e⟩ : ∃ w426x10, w42x6.alloc (.cells #[.string X] 9) = w426x10 := ⟨_, rfl⟩
              obtain ⟨g10, hg10⟩ : ∃ g10, w42x6.heap.size = g10 := ⟨_, rfl⟩
              rw [hw426x10e] at blk10 hw426x10 ⊢
              rw [hg10] at blk10 ⊢
              rw [hw426x10e] at own6
              refine hK.out _ _ ?_ (fun hHeld10 => ?_)
              · (refine HKQ.out _ ?_; exact hw426x10)
              clear hK K
              (try simp only [Act.put, List.setIfInBounds_toArray, List.set_cons_zero, List.set_cons_succ])
              refine doH (i := 11) rfl (by kernel_rfl) (by rfl) (fun K hK => ?_)
              obtain ⟨v11, w42610x11, hr11, own11, hg11, _⟩ := append_strs own6 (some ⟨g10, 0, none⟩) 1 1 (ts := [X]) rfl (by
                intro i hi
                have hi1 : i < 1 := hi
                obtain rfl : i = 0 := by omega
                exact ⟨_, rfl, blk10.lt, blk10.cell 0⟩) (fun h => by cases h) (by rw [HLL.out]; omega) hw426x10.size
              have hw42610x11 := own_below2 hw426x10 own6 (Nat.le_refl _) hg11
              obtain ⟨o11, c11, hv11, hs11, hc11, _⟩ := own11.formd
              rw [HLX.out] at hv11 hc11
              subst hv11
              refine Lib.wp_append_run _ _ _ 22 22 rfl _ _ rfl rfl _ _ hr11 ?_
              clear hr11
              refine hK.out _ _ ?_ (fun hHeld11 => ?_)
              · (refine HKQ.out _ ?_; exact hw42610x11)
              clear hK K
              (try simp only [Act.put, List.setIfInBounds_toArray, List.set_cons_zero, List.set_cons_succ])
              refine doH (i := 12) rfl (by kernel_rfl) (by rfl) (fun K hK => ?_)
              go_simp
              refine (HMR.out o11 c11 hc11 _ hs11).mono ?_
              rintro e wF ⟨rfl, hbF'⟩
              have hbF : Below wE.heap.size wE wF := hw42610x11.trans (hbF'.mono hw42610x11.size)
              go_wp2_with fail
              refine hK.out _ _ ?_ (fun hHeld12 => ?_)
              · (refine HKQ.out _ ?_; exact hbF)
              clear hK K
              (try simp only [Act.put, List.setIfInBounds_toArray, List.set_cons_zero, List.set_cons_succ])
              apply takeH (i := 13) rfl (by kernel_rfl) (by kernel_rfl) (by kernel_rfl) (fun _ _ _ h => h) (by rfl)
              case hy => (intro w hSw; (try dsimp only at hSw); go_simp; try with_reducible rfl)
              case hS => assumption
              (try simp only [Act.put, List.setIfInBounds_toArray, List.set_cons_zero, List.set_cons_succ])
              apply takeH (i := 14) rfl (by kernel_rfl) (by kernel_rfl) (by kernel_rfl) (fun _ _ _ h => h) (by rfl)
              case hy => (intro w hSw; (try dsimp only at hSw); go_simp; try with_reducible rfl)
              case hS => assumption
              (try simp only [Act.put, List.setIfInBounds_toArray, List.set_cons_zero, List.set_cons_succ])
              refine wpAnyH_done (by kernel_rfl) ?_ _
              have hBf := hBE.trans (hbF.mono hBE.size)
              go_wp2
              go_ret
              exact ⟨rfl, hBf⟩
            · go_simp
              have blk10 : Blk (w4x2.alloc (.cells #[.string X] 9)) w4x2.heap.size 9 #[.string X] := Blk.new _ _ _
              have hw42x10 := hw4x2.alloc hw4x2.size (.cells #[.string X] 9)
              have hne : w4x2.heap.size ≠ g4 := by have := (World.ownsRow.lt own4 g4 rfl).2; omega
              have own4 : Own (w4x2.alloc (.cells #[.string X] 9)) wE.heap.size (.slice (some ⟨g4, 0, none⟩) 0 0) [] := World.ownsRow.alloc own4 _
              obtain ⟨w42x10, hw42x10e⟩ : ∃ w42x10, w4x2.alloc (.cells #[.string X] 9) = w42x10 := ⟨_, rfl⟩
              obtain ⟨g10, hg10⟩ : ∃ g10, w4x2.heap.size = g10 := ⟨_, rfl⟩
              rw [hw42x10e] at blk10 hw42x10 ⊢
              rw [hg10] at blk10 ⊢
              rw [hw42x10e] at own4
              rw [hg10] at hne
              refine hK.out _ _ ?_ (fun hHeld10 => ?_)
              · (refine HKQ.out _ ?_; exact hw42x10)
              clear hK K
              (try simp only [Act.put, List.setIfInBounds_toArray, List.set_cons_zero, List.set_cons_succ])
              refine doH (i := 6) rfl (by kernel_rfl) (by rfl) (fun K hK => ?_)
              obtain ⟨v6, w4210x6, hr6, own6, hg6, _⟩ := append_strs own4 ol m capl HLL.out (hsE.below hw42x10) hnl (by simp; omega) hw42x10.size
              have hw4210x6 := own_below2 hw42x10 own4 (Nat.le_refl _) hg6
              have blk10 := blk10.grown hg6 (by simp [Value.ownBlock]; omega)
              obtain ⟨o6, c6, hv6, _⟩ := own6.formd
              rw [List.nil_append, HLL.out] at hv6
              rw [List.nil_append] at own6
              subst hv6
              refine Lib.wp_append_run _ _ _ 22 22 rfl _ _ rfl rfl _ _ hr6 ?_
              clear hr6
              refine hK.out _ _ ?_ (fun hHeld6 => ?_)
              · (refine HKQ.out _ ?_; exact hw4210x6)
              clear hK K
              (try simp only [Act.put, List.setIfInBounds_toArray, List.set_cons_zero, List.set_cons_succ])
              refine doH (i := 11) rfl (by kernel_rfl) (by rfl) (fun K hK => ?_)
              obtain ⟨v11, w42106x11, hr11, own11, hg11, _⟩ := append_strs own6 (some ⟨g10, 0, none⟩) 1 1 (ts := [X]) rfl (by
                intro i hi
                have hi1 : i < 1 := hi
                obtain rfl : i = 0 := by omega
                exact ⟨_, rfl, blk10.lt, blk10.cell 0⟩) (fun h => by cases h) (by rw [HLL.out]; omega) hw4210x6.size
              have hw42106x11 := own_below2 hw4210x6 own6 (Nat.le_refl _) hg11
              obtain ⟨o11, c11, hv11, hs11, hc11, _⟩ := own11.formd
              rw [HLX.out] at hv11 hc11
              subst hv11
              refine Lib.wp_append_run _ _ _ 22 22 rfl _ _ rfl rfl _ _ hr11 ?_
              clear hr11
              refine hK.out _ _ ?_ (fun hHeld11 => ?_)
              · (refine HKQ.out _ ?_; exact hw42106x11)
              clear hK K
              (try simp only [Act.put, List.setIfInBounds_toArray, List.set_cons_zero, List.set_cons_succ])
              refine doH (i := 12) rfl (by kernel_rfl) (by rfl) (fun K hK => ?_)
              go_simp
              refine (HMR.out o11 c11 hc11 _ hs11).mono ?_
              rintro e wF ⟨rfl, hbF'⟩
              have hbF : Below wE.heap.size wE wF := hw42106x11.trans (hbF'.mono hw42106x11.size)
              go_wp2_with fail
              refine hK.out _ _ ?_ (fun hHeld12 => ?_)
              · (refine HKQ.out _ ?_; exact hbF)
              clear hK K
              (try simp only [Act.put, List.setIfInBounds_toArray, List.set_cons_zero, List.set_cons_succ])
              apply takeH (i := 13) rfl (by kernel_rfl) (by kernel_rfl) (by kernel_rfl) (fun _ _ _ h => h) (by rfl)
              case hy => (intro w hSw; (try dsimp only at hSw); go_simp; try with_reducible rfl)
              case hS => assumption
              (try simp only [Act.put, List.setIfInBounds_toArray, List.set_cons_zero, List.set_cons_succ])
              apply takeH (i := 14) rfl (by kernel_rfl) (by kernel_rfl) (by kernel_rfl) (fun _ _ _ h => h) (by rfl)
              case hy => (intro w hSw; (try dsimp only at hSw); go_simp; try with_reducible rfl)
              case hS => assumption
              (try simp only [Act.put, List.setIfInBounds_toArray, List.set_cons_zero, List.set_cons_succ])
              refine wpAnyH_done (by kernel_rfl) ?_ _
              have hBf := hBE.trans (hbF.mono hBE.size)
              go_wp2
              go_ret
              exact ⟨rfl, hBf⟩
          · go_simp
            have blk10 : Blk (wx4.alloc (.cells #[.string X] 9)) wx4.heap.size 9 #[.string X] := Blk.new _ _ _
            have hw4x10 := hwx4.alloc hwx4.size (.cells #[.string X] 9)
            have hne : wx4.heap.size ≠ g4 := by have := (World.ownsRow.lt own4 g4 rfl).2; omega
            have own4 : Own (wx4.alloc (.cells #[.string X] 9)) wE.heap.size (.slice (some ⟨g4, 0, none⟩) 0 0) [] := World.ownsRow.alloc own4 _
            obtain ⟨w4x10, hw4x10e⟩ : ∃ w4x10, wx4.alloc (.cells #[.string X] 9) = w4x10 := ⟨_, rfl⟩
            obtain ⟨g10, hg10⟩ : ∃ g10, wx4.heap.size = g10 := ⟨_, rfl⟩
            rw [hw4x10e] at blk10 hw4x10 ⊢
            rw [hg10] at blk10 ⊢
            rw [hw4x10e] at own4
            rw [hg10] at hne
            refine hK.out _ _ ?_ (fun hHeld10 => ?_)
            · (refine HKQ.out _ ?_; exact hw4x10)
            clear hK K
            (try simp only [Act.put, List.setIfInBounds_toArray, List.set_cons_zero, List.set_cons_succ])
            refine doH (i := 2) rfl (by kernel_rfl) (by rfl) (fun K hK => ?_)
            go_simp
            refine (HRW.out ox cx bx _ (hCE.below hw4x10)).mono ?_
            rintro e w410x2 ⟨rfl, hw410x2'⟩
            have hw410x2 : Below wE.heap.size wE w410x2 := hw4x10.trans (hw410x2'.mono hw4x10.size)
            have own4 := own4.below hw410x2'
            have blk10 := blk10.below hw410x2' blk10.lt
            go_wp2_with fail
            refine hK.out _ _ ?_ (fun hHeld2 => ?_)
            · (refine HKQ.out _ ?_; exact hw410x2)
            clear hK K
            (try simp only [Act.put, List.setIfInBounds_toArray, List.set_cons_zero, List.set_cons_succ])
            refine doH (i := 6) rfl (by kernel_rfl) (by rfl) (fun K hK => ?_)
            obtain ⟨v6, w4102x6, hr6, own6, hg6, _⟩ := append_strs own4 ol m capl HLL.out (hsE.below hw410x2) hnl (by simp; omega) hw410x2.size
            have hw4102x6 := own_below2 hw410x2 own4 (Nat.le_refl _) hg6
            have blk10 := blk10.grown hg6 (by simp [Value.ownBlock]; omega)
            obtain ⟨o6, c6, hv6, _⟩ := own6.formd
            rw [List.nil_append, HLL.out] at hv6
            rw [List.nil_append] at own6
            subst hv6
            refine Lib.wp_append_run _ _ _ 22 22 rfl _ _ rfl rfl _ _ hr6 ?_
            clear hr6
            refine hK.out _ _ ?_ (fun hHeld6 => ?_)
            · (refine HKQ.out _ ?_; exact hw4102x6)
            clear hK K
            (try simp only [Act.put, List.setIfInBounds_toArray, List.set_cons_zero, List.set_cons_succ])
            refine doH (i := 11) rfl (by kernel_rfl) (by rfl) (fun K hK => ?_)
            obtain ⟨v11, w41026x11, hr11, own11, hg11, _⟩ := append_strs own6 (some ⟨g10, 0, none⟩) 1 1 (ts := [X]) rfl (by
              intro i hi
              have hi1 : i < 1 := hi
              obtain rfl : i = 0 := by omega
              exact ⟨_, rfl, blk10.lt, blk10.cell 0⟩) (fun h => by cases h) (by rw [HLL.out]; omega) hw4102x6.size
            have hw41026x11 := own_below2 hw4102x6 own6 (Nat.le_refl _) hg11
            obtain ⟨o11, c11, hv11, hs11, hc11, _⟩ := own11.formd
            rw [HLX.out] at hv11 hc11
            subst hv11
            refine Lib.wp_append_run _ _ _ 22 22 rfl _ _ rfl rfl _ _ hr11 ?_
            clear hr11
            refine hK.out _ _ ?_ (fun hHeld11 => ?_)
            · (refine HKQ.out _ ?_; exact hw41026x11)
            clear hK K
            (try simp only [Act.put, List.setIfInBounds_toArray, List.set_cons_zero, List.set_cons_succ])
            refine doH (i := 12) rfl (by kernel_rfl) (by rfl) (fun K hK => ?_)
            go_simp
            refine (HMR.out o11 c11 hc11 _ hs11).mono ?_
            rintro e wF ⟨rfl, hbF'⟩
            have hbF : Below wE.heap.size wE wF := hw41026x11.trans (hbF'.mono hw41026x11.size)
            go_wp2_with fail
            refine hK.out _ _ ?_ (fun hHeld12 => ?_)
            · (refine HKQ.out _ ?_; exact hbF)
            clear hK K
            (try simp only [Act.put, List.setIfInBounds_toArray, List.set_cons_zero, List.set_cons_succ])
            apply takeH (i := 13) rfl (by kernel_rfl) (by kernel_rfl) (by kernel_rfl) (fun _ _ _ h => h) (by rfl)
            case hy => (intro w hSw; (try dsimp only at hSw); go_simp; try with_reducible rfl)
            case hS => assumption
            (try simp only [Act.put, List.setIfInBounds_toArray, List.set_cons_zero, List.set_cons_succ])
            apply takeH (i := 14) rfl (by kernel_rfl) (by kernel_rfl) (by kernel_rfl) (fun _ _ _ h => h) (by rfl)
            case hy => (intro w hSw; (try dsimp only at hSw); go_simp; try with_reducible rfl)
            case hS => assumption
            (try simp only [Act.put, List.setIfInBounds_toArray, List.set_cons_zero, List.set_cons_succ])
            refine wpAnyH_done (by kernel_rfl) ?_ _
            have hBf := hBE.trans (hbF.mono hBE.size)
            go_wp2
            go_ret
            exact ⟨rfl, hBf⟩
        · go_simp
          have blk10 : Blk (wd.alloc (.cells #[.string X] 9)) wd.heap.size 9 #[.string X] := Blk.new _ _ _
          have hwx10 := hb0.alloc hb0.size (.cells #[.string X] 9)
          obtain ⟨wx10, hwx10e⟩ : ∃ wx10, wd.alloc (.cells #[.string X] 9) = wx10 := ⟨_, rfl⟩
          obtain ⟨g10, hg10⟩ : ∃ g10, wd.heap.size = g10 := ⟨_, rfl⟩
          rw [hwx10e] at blk10 hwx10 ⊢
          rw [hg10] at blk10 ⊢
          refine hK.out _ _ ?_ (fun hHeld10 => ?_)
          · (refine HKQ.out _ ?_; exact hwx10)
          clear hK K
          (try simp only [Act.put, List.setIfInBounds_toArray, List.set_cons_zero, List.set_cons_succ])
          refine doH2 (i := 2) (j := 4) rfl rfl (by kernel_rfl) (by rfl) (by rfl) (fun K hK => ?_) (fun K hK => ?_)
          · go_simp
            refine (HRW.out ox cx bx _ (hCE.below hwx10)).mono ?_
            rintro e w10x2 ⟨rfl, hw10x2'⟩
            have hw10x2 : Below wE.heap.size wE w10x2 := hwx10.trans (hw10x2'.mono hwx10.size)
            have blk10 := blk10.below hw10x2' blk10.lt
            go_wp2_with fail
            refine hK.out _ _ ?_ (fun hHeld2 => ?_)
            · (refine HKQ.out _ ?_; exact hw10x2)
            clear hK K
            (try simp only [Act.put, List.setIfInBounds_toArray, List.set_cons_zero, List.set_cons_succ])
            refine doH (i := 4) rfl (by kernel_rfl) (by rfl) (fun K hK => ?_)
            go_simp
            have own4 : Own (w10x2.alloc (.cells #[] 9)) wE.heap.size (.slice (some ⟨w10x2.heap.size, 0, none⟩) 0 0) [] := World.ownsRow_made w10x2 #[] 0 hw10x2.size (by unfold maxLen; omega) rfl
            have hw102x4 := hw10x2.alloc hw10x2.size (.cells #[] 9)
            have hne : g10 ≠ w10x2.heap.size := by have := blk10.lt; omega
            have blk10 := blk10.alloc (.cells #[] 9)
            obtain ⟨w102x4, hw102x4e⟩ : ∃ w102x4, w10x2.alloc (.cells #[] 9) = w102x4 := ⟨_, rfl⟩
            obtain ⟨g4, hg4⟩ : ∃ g4, w10x2.heap.size = g4 := ⟨_, rfl⟩
            rw [hw102x4e] at own4 hw102x4 ⊢
            rw [hg4] at own4 ⊢
            rw [hw102x4e] at blk10
            rw [hg4] at hne
            refine hK.out _ _ ?_ (fun hHeld4 => ?_)
            · (refine HKQ.out _ ?_; exact hw102x4)
            clear hK K
            (try simp only [Act.put, List.setIfInBounds_toArray, List.set_cons_zero, List.set_cons_succ])
            refine doH (i := 6) rfl (by kernel_rfl) (by rfl) (fun K hK => ?_)
            obtain ⟨v6, w1024x6, hr6, own6, hg6, _⟩ := append_strs own4 ol m capl HLL.out (hsE.below hw102x4) hnl (by simp; omega) hw102x4.size
            have hw1024x6 := own_below2 hw102x4 own4 (Nat.le_refl _) hg6
            have blk10 := blk10.grown hg6 (by simp [Value.ownBlock]; omega)
            obtain ⟨o6, c6, hv6, _⟩ := own6.formd
            rw [List.nil_append, HLL.out] at hv6
            rw [List.nil_append] at own6
            subst hv6
            refine Lib.wp_append_run _ _ _ 22 22 rfl _ _ rfl rfl _ _ hr6 ?_
            clear hr6
            refine hK.out _ _ ?_ (fun hHeld6 => ?_)
            · (refine HKQ.out _ ?_; exact hw1024x6)
            clear hK K
            (try simp only [Act.put, List.setIfInBounds_toArray, List.set_cons_zero, List.set_cons_succ])
            refine doH (i := 11) rfl (by kernel_rfl) (by rfl) (fun K hK => ?_)
            obtain ⟨v11, w10246x11, hr11, own11, hg11, _⟩ := append_strs own6 (some ⟨g10, 0, none⟩) 1 1 (ts := [X]) rfl (by
              intro i hi
              have hi1 : i < 1 := hi
              obtain rfl : i = 0 := by omega
              exact ⟨_, rfl, blk10.lt, blk10.cell 0⟩) (fun h => by cases h) (by rw [HLL.out]; omega) hw1024x6.size
            have hw10246x11 := own_below2 hw1024x6 own6 (Nat.le_refl _) hg11
            obtain ⟨o11, c11, hv11, hs11, hc11, _⟩ := own11.formd
            rw [HLX.out] at hv11 hc11
            subst hv11
            refine Lib.wp_append_run _ _ _ 22 22 rfl _ _ rfl rfl _ _ hr11 ?_
            clear hr11
            refine hK.out _ _ ?_ (fun hHeld11 => ?_)
            · (refine HKQ.out _ ?_; exact hw10246x11)
            clear hK K
            (try simp only [Act.put, List.setIfInBounds_toArray, List.set_cons_zero, List.set_cons_succ])
            refine doH (i := 12) rfl (by kernel_rfl) (by rfl) (fun K hK => ?_)
            go_simp
            refine (HMR.out o11 c11 hc11 _ hs11).mono ?_
            rintro e wF ⟨rfl, hbF'⟩
            have hbF : Below wE.heap.size wE wF := hw10246x11.trans (hbF'.mono hw10246x11.size)
            go_wp2_with fail
            refine hK.out _ _ ?_ (fun hHeld12 => ?_)
            · (refine HKQ.out _ ?_; exact hbF)
            clear hK K
            (try simp only [Act.put, List.setIfInBounds_toArray, List.set_cons_zero, List.set_cons_succ])
            apply takeH (i := 13) rfl (by kernel_rfl) (by kernel_rfl) (by kernel_rfl) (fun _ _ _ h => h) (by rfl)
            case hy => (intro w hSw; (try dsimp only at hSw); go_simp; try with_reducible rfl)
            case hS => assumption
            (try simp only [Act.put, List.setIfInBounds_toArray, List.set_cons_zero, List.set_cons_succ])
            apply takeH (i := 14) rfl (by kernel_rfl) (by kernel_rfl) (by kernel_rfl) (fun _ _ _ h => h) (by rfl)
            case hy => (intro w hSw; (try dsimp only at hSw); go_simp; try with_reducible rfl)
            case hS => assumption
            (try simp only [Act.put, List.setIfInBounds_toArray, List.set_cons_zero, List.set_cons_succ])
            refine wpAnyH_done (by kernel_rfl) ?_ _
            have hBf := hBE.trans (hbF.mono hBE.size)
            go_wp2
            go_ret
            exact ⟨rfl, hBf⟩
          · go_simp
            have own4 : Own (wx10.alloc (.cells #[] 9)) wE.heap.size (.slice (some ⟨wx10.heap.size, 0, none⟩) 0 0) [] := World.ownsRow_made wx10 #[] 0 hwx10.size (by unfold maxLen; omega) rfl
            have hw10x4 := hwx10.alloc hwx10.size (.cells #[] 9)
            have hne : g10 ≠ wx10.heap.size := by have := blk10.lt; omega
            have blk10 := blk10.alloc (.cells #[] 9)
            obtain ⟨w10x4, hw10x4e⟩ : ∃ w10x4, wx10.alloc (.cells #[] 9) = w10x4 := ⟨_, rfl⟩
            obtain ⟨g4, hg4⟩ : ∃ g4, wx10.heap.size = g4 := ⟨_, rfl⟩
            rw [hw10x4e] at own4 hw10x4 ⊢
            rw [hg4] at own4 ⊢
            rw [hw10x4e] at blk10
            rw [hg4] at hne
            refine hK.out _ _ ?_ (fun hHeld4 => ?_)
            · (refine HKQ.out _ ?_; exact hw10x4)
            clear hK K
            (try simp only [Act.put, List.setIfInBounds_toArray, List.set_cons_zero, List.set_cons_succ])
            refine doH (i := 2) rfl (by kernel_rfl) (by rfl) (fun K hK => ?_)
            go_simp
            refine (HRW.out ox cx bx _ (hCE.below hw10x4)).mono ?_
            rintro e w104x2 ⟨rfl, hw104x2'⟩
            have hw104x2 : Below wE.heap.size wE w104x2 := hw10x4.trans (hw104x2'.mono hw10x4.size)
            have own4 := own4.below hw104x2'
            have blk10 := blk10.below hw104x2' blk10.lt
            go_wp2_with fail
            refine hK.out _ _ ?_ (fun hHeld2 => ?_)
            · (refine HKQ.out _ ?_; exact hw104x2)
            clear hK K
            (try simp only [Act.put, List.setIfInBounds_toArray, List.set_cons_zero, List.set_cons_succ])
            refine doH (i := 6) rfl (by kernel_rfl) (by rfl) (fun K hK => ?_)
            obtain ⟨v6, w1042x6, hr6, own6, hg6, _⟩ := append_strs own4 ol m capl HLL.out (hsE.below hw104x2) hnl (by simp; omega) hw104x2.size
            have hw1042x6 := own_below2 hw104x2 own4 (Nat.le_refl _) hg6
            have blk10 := blk10.grown hg6 (by simp [Value.ownBlock]; omega)
            obtain ⟨o6, c6, hv6, _⟩ := own6.formd
            rw [List.nil_append, HLL.out] at hv6
            rw [List.nil_append] at own6
            subst hv6
            refine Lib.wp_append_run _ _ _ 22 22 rfl _ _ rfl rfl _ _ hr6 ?_
            clear hr6
            refine hK.out _ _ ?_ (fun hHeld6 => ?_)
            · (refine HKQ.out _ ?_; exact hw1042x6)
            clear hK K
            (try simp only [Act.put, List.setIfInBounds_toArray, List.set_cons_zero, List.set_cons_succ])
            refine doH (i := 11) rfl (by kernel_rfl) (by rfl) (fun K hK => ?_)
            obtain ⟨v11, w10426x11, hr11, own11, hg11, _⟩ := append_strs own6 (some ⟨g10, 0, none⟩) 1 1 (ts := [X]) rfl (by
              intro i hi
              have hi1 : i < 1 := hi
              obtain rfl : i = 0 := by omega
              exact ⟨_, rfl, blk10.lt, blk10.cell 0⟩) (fun h => by cases h) (by rw [HLL.out]; omega) hw1042x6.size
            have hw10426x11 := own_below2 hw1042x6 own6 (Nat.le_refl _) hg11
            obtain ⟨o11, c11, hv11, hs11, hc11, _⟩ := own11.formd
            rw [HLX.out] at hv11 hc11
            subst hv11
            refine Lib.wp_append_run _ _ _ 22 22 rfl _ _ rfl rfl _ _ hr11 ?_
            clear hr11
            refine hK.out _ _ ?_ (fun hHeld11 => ?_)
            · (refine HKQ.out _ ?_; exact hw10426x11)
            clear hK K
            (try simp only [Act.put, List.setIfInBounds_toArray, List.set_cons_zero, List.set_cons_succ])
            refine doH (i := 12) rfl (by kernel_rfl) (by rfl) (fun K hK => ?_)
            go_simp
            refine (HMR.out o11 c11 hc11 _ hs11).mono ?_
            rintro e wF ⟨rfl, hbF'⟩
            have hbF : Below wE.heap.size wE wF := hw10426x11.trans (hbF'.mono hw10426x11.size)
            go_wp2_with fail
            refine hK.out _ _ ?_ (fun hHeld12 => ?_)
            · (refine HKQ.out _ ?_; exact hbF)
            clear hK K
            (try simp only [Act.put, List.setIfInBounds_toArray, List.set_cons_zero, List.set_cons_succ])
            apply takeH (i := 13) rfl (by kernel_rfl) (by kernel_rfl) (by kernel_rfl) (fun _ _ _ h => h) (by rfl)
            case hy => (intro w hSw; (try dsimp only at hSw); go_simp; try with_reducible rfl)
            case hS => assumption
            (try simp only [Act.put, List.setIfInBounds_toArray, List.set_cons_zero, List.set_cons_succ])
            apply takeH (i := 14) rfl (by kernel_rfl) (by kernel_rfl) (by kernel_rfl) (fun _ _ _ h => h) (by rfl)
            case hy => (intro w hSw; (try dsimp only at hSw); go_simp; try with_reducible rfl)
            case hS => assumption
            (try simp only [Act.put, List.setIfInBounds_toArray, List.set_cons_zero, List.set_cons_succ])
            refine wpAnyH_done (by kernel_rfl) ?_ _
            have hBf := hBE.trans (hbF.mono hBE.size)
            go_wp2
            go_ret
            exact ⟨rfl, hBf⟩
      · have hbC := hbA.alloc hbA.size (.cells #[.int .i64 0, .slice none 0 0] 33)
        have hXC : Blk (wA.alloc (.cells #[.int .i64 0, .slice none 0 0] 33)) wA.heap.size 33 #[.int .i64 0, .slice none 0 0] := Blk.new _ _ _
        have hsC := hsv.below ((Below.refl _ _).alloc (Nat.le_refl _) (.cells #[.int .i64 0, .slice none 0 0] 33))
        go_simp
        refine hK.out _ _ ?_ (fun hHeld8 => ?_)
        · (refine HKP.out _ ?_; first | exact hbE | exact hbD | exact hbC | exact hbA | exact (Below.refl _ _).drew | exact Below.refl _ _)
        clear hK K
        (try simp only [Act.put, List.setIfInBounds_toArray, List.set_cons_zero, List.set_cons_succ])
        refine doH (i := 7) rfl (by kernel_rfl) (by rfl) (fun K hK => ?_)
        go_simp
        refine (HAD.out ov cv hkc hnil _ (hsC)).mono ?_
        rintro e wD ⟨vD, rfl, hvD, hbD'⟩
        obtain ⟨ox, cx, hvv, _⟩ := hvD.formd
        rw [HKX.out] at hvv
        subst hvv
        have hbD : Below wz.heap.size wz wD := (hbC).trans (hbD'.mono (hbC).size)
        go_wp2_with fail
        refine hK.out _ _ ?_ (fun hHeld7 => ?_)
        · (refine HKP.out _ ?_; first | exact hbE | exact hbD | exact hbC | exact hbA | exact (Below.refl _ _).drew | exact Below.refl _ _)
        clear hK K
        (try simp only [Act.put, List.setIfInBounds_toArray, List.set_cons_zero, List.set_cons_succ])
        have hXD := hXC.below hbD' hXC.lt
        have hgl : wz.heap.size ≤ wA.heap.size := hbA.size
        have hgd : wA.heap.size < (wA.alloc (.cells #[.int .i64 0, .slice none 0 0] 33)).heap.size := by simp
        have c0 : wD.cell? ⟨wA.heap.size, 0, none⟩ = some (.int .i64 0) := hXD.cell 0
        have c1 : wD.cell? ⟨wA.heap.size, 1, none⟩ = some (.slice none 0 0) := hXD.cell 1
        have f0 := hXD.frozen 0
        have f1 := hXD.frozen 1
        refine doH (i := 9) rfl (by kernel_rfl) (by rfl) (fun K hK => ?_)
        go_simp
        have hbE := (hbD.setCell (p := ⟨wA.heap.size, 0, none⟩) hgl (.int .i64 m')).setCell (p := ⟨wA.heap.size, 1, none⟩) hgl (.slice ox kx cx)
        have hME : Blk ((wD.setCell ⟨wA.heap.size, 0, none⟩ (.int .i64 m')).setCell ⟨wA.heap.size, 1, none⟩ (.slice ox kx cx)) wA.heap.size 33 #[.int .i64 m', .slice ox kx cx] := (hXD.set_ 0 (.int .i64 m')).set_ 1 (.slice ox kx cx)
        have hCE := own_far (own_far hvD (p := ⟨wA.heap.size, 0, none⟩) hgd (.int .i64 m')) (p := ⟨wA.heap.size, 1, none⟩) hgd (.slice ox kx cx)
        obtain ⟨wE, hwE⟩ : ∃ wE, (wD.setCell ⟨wA.heap.size, 0, none⟩ (.int .i64 m')).setCell ⟨wA.heap.size, 1, none⟩ (.slice ox kx cx) = wE := ⟨_, rfl⟩
        rw [hwE] at hbE hME hCE ⊢
        obtain ⟨gx, hgx⟩ : ∃ gx, wA.heap.size = gx := ⟨_, rfl⟩
        rw [hgx] at hME ⊢
        replace hCE : ∃ bx, Own wE bx (.slice ox kx cx) (ofM (L ++ [X])) := ⟨_, hCE⟩
        obtain ⟨bx, hCE⟩ := hCE
        refine hK.out _ _ ?_ (fun hHeld9 => ?_)
        · (refine HKP.out _ ?_; first | exact hbE | exact hbD | exact hbC | exact hbA | exact (Below.refl _ _).drew | exact Below.refl _ _)
        clear hK K
        (try simp only [Act.put, List.setIfInBounds_toArray, List.set_cons_zero, List.set_cons_succ])
        refine wpAnyH_done (by kernel_rfl) ?_ _
        have hTE := hTz.below hbE hTz.lt
        have hsE := hsz.below hbE
        have hBE := hBz.trans (hbE.mono hBz.size)
        have hXE0 : wE.cell? ⟨gq, 0, none⟩ = some (.string X) := (hbE.cell (p := ⟨gq, 0, none⟩) hgq).trans hX0
        have hgqE : gq < wE.heap.size := Nat.lt_of_lt_of_le hgq hbE.size
        have HKQ := Lib.hid (show ∀ W, Below wE.heap.size wE W → ((loadVar 29 ⟨gt, 0, none⟩).run Try.prog W = .ok (.agg tabV) W ∧ (loadVar 33 ⟨gx, 0, none⟩).run Try.prog W = .ok (.agg #[.int .i64 m', .slice ox kx cx]) W ∧ (loadVar 9 ⟨gq, 0, none⟩).run Try.prog W = .ok (.string X) W) ∧ Below wE.heap.size wE W from fun W hW => ⟨⟨tab_run (hTE.below hW hTE.lt), ld_rng (hME.below hW hME.lt), txt_load ((hW.cell (p := ⟨gq, 0, none⟩) hgqE).trans hXE0)⟩, hW⟩)
        have hb0 : Below wE.heap.size wE wE.drew := (Below.refl _ _).drew
        obtain ⟨wd, hwd⟩ : ∃ wd, wE.drew = wd := ⟨_, rfl⟩
        rw [hwd] at hb0
        clear hHeld9
        go_wp2
        refine wp_region_held_drew (S := fun W => ((loadVar 29 ⟨gt, 0, none⟩).run Try.prog W = .ok (.agg tabV) W ∧ (loadVar 33 ⟨gx, 0, none⟩).run Try.prog W = .ok (.agg #[.int .i64 m', .slice ox kx cx]) W ∧ (loadVar 9 ⟨gq, 0, none⟩).run Try.prog W = .ok (.string X) W) ∧ Below wE.heap.size wE W) (by kernel_rfl) ?_ (fun hHeld0 => ?_)
        · (refine HKQ.out _ ?_; rw [hwd]; exact hb0)
        rw [hwd]
        rw [hwd] at hHeld0
        apply takeH (i := 0) rfl (by kernel_rfl) (by kernel_rfl) (by kernel_rfl) (fun _ _ _ h => h) (by rfl)
        case hy => (intro w hSw; (try dsimp only at hSw); go_simp; try with_reducible rfl)
        case hS => assumption
        (try simp only [Act.put, List.setIfInBounds_toArray, List.set_cons_zero, List.set_cons_succ])
        apply takeH (i := 1) rfl (by kernel_rfl) (by kernel_rfl) (by kernel_rfl) (fun _ _ _ h => h) (by rfl)
        case hy => (intro w hSw; (try dsimp only at hSw); go_simp; try with_reducible rfl)
        case hS => assumption
        (try simp only [Act.put, List.setIfInBounds_toArray, List.set_cons_zero, List.set_cons_succ])
        apply takeH (i := 3) rfl (by kernel_rfl) (by kernel_rfl) (by kernel_rfl) (fun _ _ _ h => h) (by rfl)
        case hy => (intro w hSw; (try dsimp only at hSw); go_simp; try with_reducible rfl)
        case hS => assumption
        (try simp only [Act.put, List.setIfInBounds_toArray, List.set_cons_zero, List.set_cons_succ])
        apply takeH (i := 5) rfl (by kernel_rfl) (by kernel_rfl) (by kernel_rfl) (fun _ _ _ h => h) (by rfl)
        case hy => (intro w hSw; (try dsimp only at hSw); go_simp; try with_reducible rfl)
        case hS => assumption
        (try simp only [Act.put, List.setIfInBounds_toArray, List.set_cons_zero, List.set_cons_succ])
        apply takeH (i := 7) rfl (by kernel_rfl) (by kernel_rfl) (by kernel_rfl) (fun _ _ _ h => h) (by rfl)
        case hy => (intro w hSw; (try dsimp only at hSw); go_simp; try with_reducible rfl)
        case hS => assumption
        (try simp only [Act.put, List.setIfInBounds_toArray, List.set_cons_zero, List.set_cons_succ])
        apply takeH (i := 8) rfl (by kernel_rfl) (by kernel_rfl) (by kernel_rfl) (fun _ _ _ h => h) (by rfl)
        case hy => (intro w hSw; (try dsimp only at hSw); go_simp; try with_reducible rfl)
        case hS => assumption
        (try simp only [Act.put, List.setIfInBounds_toArray, List.set_cons_zero, List.set_cons_succ])
        apply takeH (i := 9) rfl (by kernel_rfl) (by kernel_rfl) (by kernel_rfl) (fun _ _ _ h => h) (by rfl)
        case hy => (intro w hSw; (try dsimp only at hSw); go_simp; try with_reducible rfl)
        case hS => assumption
        (try simp only [Act.put, List.setIfInBounds_toArray, List.set_cons_zero, List.set_cons_succ])
        refine doH3 (i := 2) (j := 4) (k := 10) rfl rfl rfl (by kernel_rfl) (by rfl) (by rfl) (by rfl) (fun K hK => ?_) (fun K hK => ?_) (fun K hK => ?_)
        · go_simp
          refine (HRW.out ox cx bx _ (hCE.below hb0)).mono ?_
          rintro e wx2 ⟨rfl, hwx2'⟩
          have hwx2 : Below wE.heap.size wE wx2 := hb0.trans (hwx2'.mono hb0.size)
          go_wp2_with fail
          refine hK.out _ _ ?_ (fun hHeld2 => ?_)
          · (refine HKQ.out _ ?_; exact hwx2)
          clear hK K
          (try simp only [Act.put, List.setIfInBounds_toArray, List.set_cons_zero, List.set_cons_succ])
          refine doH2 (i := 4) (j := 10) rfl rfl (by kernel_rfl) (by rfl) (by rfl) (fun K hK => ?_) (fun K hK => ?_)
          · go_simp
            have own4 : Own (wx2.alloc (.cells #[] 9)) wE.heap.size (.slice (some ⟨wx2.heap.size, 0, none⟩) 0 0) [] := World.ownsRow_made wx2 #[] 0 hwx2.size (by unfold maxLen; omega) rfl
            have hw2x4 := hwx2.alloc hwx2.size (.cells #[] 9)
            obtain ⟨w2x4, hw2x4e⟩ : ∃ w2x4, wx2.alloc (.cells #[] 9) = w2x4 := ⟨_, rfl⟩
            obtain ⟨g4, hg4⟩ : ∃ g4, wx2.heap.size = g4 := ⟨_, rfl⟩
            rw [hw2x4e] at own4 hw2x4 ⊢
            rw [hg4] at own4 ⊢
            refine hK.out _ _ ?_ (fun hHeld4 => ?_)
            · (refine HKQ.out _ ?_; exact hw2x4)
            clear hK K
            (try simp only [Act.put, List.setIfInBounds_toArray, List.set_cons_zero, List.set_cons_succ])
            refine doH2 (i := 6) (j := 10) rfl rfl (by kernel_rfl) (by rfl) (by rfl) (fun K hK => ?_) (fun K hK => ?_)
            · obtain ⟨v6, w24x6, hr6, own6, hg6, _⟩ := append_strs own4 ol m capl HLL.out (hsE.below hw2x4) hnl (by simp; omega) hw2x4.size
              have hw24x6 := own_below2 hw2x4 own4 (Nat.le_refl _) hg6
              obtain ⟨o6, c6, hv6, _⟩ := own6.formd
              rw [List.nil_append, HLL.out] at hv6
              rw [List.nil_append] at own6
              subst hv6
              refine Lib.wp_append_run _ _ _ 22 22 rfl _ _ rfl rfl _ _ hr6 ?_
              clear hr6
              refine hK.out _ _ ?_ (fun hHeld6 => ?_)
              · (refine HKQ.out _ ?_; exact hw24x6)
              clear hK K
              (try simp only [Act.put, List.setIfInBounds_toArray, List.set_cons_zero, List.set_cons_succ])
              refine doH (i := 10) rfl (by kernel_rfl) (by rfl) (fun K hK => ?_)
              go_simp
              have blk10 : Blk (w24x6.alloc (.cells #[.string X] 9)) w24x6.heap.size 9 #[.string X] := Blk.new _ _ _
              have hw246x10 := hw24x6.alloc hw24x6.size (.cells #[.string X] 9)
              have own6 : Own (w24x6.alloc (.cells #[.string X] 9)) wE.heap.size (.slice o6 m c6) L := World.ownsRow.alloc own6 _
              obtain ⟨w246x10, hw246x10e⟩ : ∃ w246x10, w24x6.alloc (.cells #[.string X] 9) = w246x10 := ⟨_, rfl⟩
              obtain ⟨g10, hg10⟩ : ∃ g10, w24x6.heap.size = g10 := ⟨_, rfl⟩
              rw [hw246x10e] at blk10 hw246x10 ⊢
              rw [hg10] at blk10 ⊢
              rw [hw246x10e] at own6
              refine hK.out _ _ ?_ (fun hHeld10 => ?_)
              · (refine HKQ.out _ ?_; exact hw246x10)
              clear hK K
              (try simp only [Act.put, List.setIfInBounds_toArray, List.set_cons_zero, List.set_cons_succ])
              refine doH (i := 11) rfl (by kernel_rfl) (by rfl) (fun K hK => ?_)
              obtain ⟨v11, w24610x11, hr11, own11, hg11, _⟩ := append_strs own6 (some ⟨g10, 0, none⟩) 1 1 (ts := [X]) rfl (by
                intro i hi
                have hi1 : i < 1 := hi
                obtain rfl : i = 0 := by omega
                exact ⟨_, rfl, blk10.lt, blk10.cell 0⟩) (fun h => by cases h) (by rw [HLL.out]; omega) hw246x10.size
              have hw24610x11 := own_below2 hw246x10 own6 (Nat.le_refl _) hg11
              obtain ⟨o11, c11, hv11, hs11, hc11, _⟩ := own11.formd
              rw [HLX.out] at hv11 hc11
              subst hv11
              refine Lib.wp_append_run _ _ _ 22 22 rfl _ _ rfl rfl _ _ hr11 ?_
              clear hr11
              refine hK.out _ _ ?_ (fun hHeld11 => ?_)
              · (refine HKQ.out _ ?_; exact hw24610x11)
              clear hK K
              (try simp only [Act.put, List.setIfInBounds_toArray, List.set_cons_zero, List.set_cons_succ])
              refine doH (i := 12) rfl (by kernel_rfl) (by rfl) (fun K hK => ?_)
              go_simp
              refine (HMR.out o11 c11 hc11 _ hs11).mono ?_
              rintro e wF ⟨rfl, hbF'⟩
              have hbF : Below wE.heap.size wE wF := hw24610x11.trans (hbF'.mono hw24610x11.size)
              go_wp2_with fail
              refine hK.out _ _ ?_ (fun hHeld12 => ?_)
              · (refine HKQ.out _ ?_; exact hbF)
              clear hK K
              (try simp only [Act.put, List.setIfInBounds_toArray, List.set_cons_zero, List.set_cons_succ])
              apply takeH (i := 13) rfl (by kernel_rfl) (by kernel_rfl) (by kernel_rfl) (fun _ _ _ h => h) (by rfl)
              case hy => (intro w hSw; (try dsimp only at hSw); go_simp; try with_reducible rfl)
              case hS => assumption
              (try simp only [Act.put, List.setIfInBounds_toArray, List.set_cons_zero, List.set_cons_succ])
              apply takeH (i := 14) rfl (by kernel_rfl) (by kernel_rfl) (by kernel_rfl) (fun _ _ _ h => h) (by rfl)
              case hy => (intro w hSw; (try dsimp only at hSw); go_simp; try with_reducible rfl)
              case hS => assumption
              (try simp only [Act.put, List.setIfInBounds_toArray, List.set_cons_zero, List.set_cons_succ])
              refine wpAnyH_done (by kernel_rfl) ?_ _
              have hBf := hBE.trans (hbF.mono hBE.size)
              go_wp2
              go_ret
              exact ⟨rfl, hBf⟩
            · go_simp
              have blk10 : Blk (w2x4.alloc (.cells #[.string X] 9)) w2x4.heap.size 9 #[.string X] := Blk.new _ _ _
              have hw24x10 := hw2x4.alloc hw2x4.size (.cells #[.string X] 9)
              have hne : w2x4.heap.size ≠ g4 := by have := (World.ownsRow.lt own4 g4 rfl).2; omega
              have own4 : Own (w2x4.alloc (.cells #[.string X] 9)) wE.heap.size (.slice (some ⟨g4, 0, none⟩) 0 0) [] := World.ownsRow.alloc own4 _
              obtain ⟨w24x10, hw24x10e⟩ : ∃ w24x10, w2x4.alloc (.cells #[.string X] 9) = w24x10 := ⟨_, rfl⟩
              obtain ⟨g10, hg10⟩ : ∃ g10, w2x4.heap.size = g10 := ⟨_, rfl⟩
              rw [hw24x10e] at blk10 hw24x10 ⊢
              rw [hg10] at blk10 ⊢
              rw [hw24x10e] at own4
              rw [hg10] at hne
              refine hK.out _ _ ?_ (fun hHeld10 => ?_)
              · (refine HKQ.out _ ?_; exact hw24x10)
              clear hK K
              (try simp only [Act.put, List.setIfInBounds_toArray, List.set_cons_zero, List.set_cons_succ])
              refine doH (i := 6) rfl (by kernel_rfl) (by rfl) (fun K hK => ?_)
              obtain ⟨v6, w2410x6, hr6, own6, hg6, _⟩ := append_strs own4 ol m capl HLL.out (hsE.below hw24x10) hnl (by simp; omega) hw24x10.size
              have hw2410x6 := own_below2 hw24x10 own4 (Nat.le_refl _) hg6
              have blk10 := blk10.grown hg6 (by simp [Value.ownBlock]; omega)
              obtain ⟨o6, c6, hv6, _⟩ := own6.formd
              rw [List.nil_append, HLL.out] at hv6
              rw [List.nil_append] at own6
              subst hv6
              refine Lib.wp_append_run _ _ _ 22 22 rfl _ _ rfl rfl _ _ hr6 ?_
              clear hr6
              refine hK.out _ _ ?_ (fun hHeld6 => ?_)
              · (refine HKQ.out _ ?_; exact hw2410x6)
              clear hK K
              (try simp only [Act.put, List.setIfInBounds_toArray, List.set_cons_zero, List.set_cons_succ])
              refine doH (i := 11) rfl (by kernel_rfl) (by rfl) (fun K hK => ?_)
              obtain ⟨v11, w24106x11, hr11, own11, hg11, _⟩ := append_strs own6 (some ⟨g10, 0, none⟩) 1 1 (ts := [X]) rfl (by
                intro i hi
                have hi1 : i < 1 := hi
                obtain rfl : i = 0 := by omega
                exact ⟨_, rfl, blk10.lt, blk10.cell 0⟩) (fun h => by cases h) (by rw [HLL.out]; omega) hw2410x6.size
              have hw24106x11 := own_below2 hw2410x6 own6 (Nat.le_refl _) hg11
              obtain ⟨o11, c11, hv11, hs11, hc11, _⟩ := own11.formd
              rw [HLX.out] at hv11 hc11
              subst hv11
              refine Lib.wp_append_run _ _ _ 22 22 rfl _ _ rfl rfl _ _ hr11 ?_
              clear hr11
              refine hK.out _ _ ?_ (fun hHeld11 => ?_)
              · (refine HKQ.out _ ?_; exact hw24106x11)
              clear hK K
              (try simp only [Act.put, List.setIfInBounds_toArray, List.set_cons_zero, List.set_cons_succ])
              refine doH (i := 12) rfl (by kernel_rfl) (by rfl) (fun K hK => ?_)
              go_simp
              refine (HMR.out o11 c11 hc11 _ hs11).mono ?_
              rintro e wF ⟨rfl, hbF'⟩
              have hbF : Below wE.heap.size wE wF := hw24106x11.trans (hbF'.mono hw24106x11.size)
              go_wp2_with fail
              refine hK.out _ _ ?_ (fun hHeld12 => ?_)
              · (refine HKQ.out _ ?_; exact hbF)
              clear hK K
              (try simp only [Act.put, List.setIfInBounds_toArray, List.set_cons_zero, List.set_cons_succ])
              apply takeH (i := 13) rfl (by kernel_rfl) (by kernel_rfl) (by kernel_rfl) (fun _ _ _ h => h) (by rfl)
              case hy => (intro w hSw; (try dsimp only at hSw); go_simp; try with_reducible rfl)
              case hS => assumption
              (try simp only [Act.put, List.setIfInBounds_toArray, List.set_cons_zero, List.set_cons_succ])
              apply takeH (i := 14) rfl (by kernel_rfl) (by kernel_rfl) (by kernel_rfl) (fun _ _ _ h => h) (by rfl)
              case hy => (intro w hSw; (try dsimp only at hSw); go_simp; try with_reducible rfl)
              case hS => assumption
              (try simp only [Act.put, List.setIfInBounds_toArray, List.set_cons_zero, List.set_cons_succ])
              refine wpAnyH_done (by kernel_rfl) ?_ _
              have hBf := hBE.trans (hbF.mono hBE.size)
              go_wp2
              go_ret
              exact ⟨rfl, hBf⟩
          · go_simp
            have blk10 : Blk (wx2.alloc (.cells #[.string X] 9)) wx2.heap.size 9 #[.string X] := Blk.new _ _ _
            have hw2x10 := hwx2.alloc hwx2.size (.cells #[.string X] 9)
            obtain ⟨w2x10, hw2x10e⟩ : ∃ w2x10, wx2.alloc (.cells #[.string X] 9) = w2x10 := ⟨_, rfl⟩
            obtain ⟨g10, hg10⟩ : ∃ g10, wx2.heap.size = g10 := ⟨_, rfl⟩
            rw [hw2x10e] at blk10 hw2x10 ⊢
            rw [hg10] at blk10 ⊢
            refine hK.out _ _ ?_ (fun hHeld10 => ?_)
            · (refine HKQ.out _ ?_; exact hw2x10)
            clear hK K
            (try simp only [Act.put, List.setIfInBounds_toArray, List.set_cons_zero, List.set_cons_succ])
            refine doH (i := 4) rfl (by kernel_rfl) (by rfl) (fun K hK => ?_)
            go_simp
            have own4 : Own (w2x10.alloc (.cells #[] 9)) wE.heap.size (.slice (some ⟨w2x10.heap.size, 0, none⟩) 0 0) [] := World.ownsRow_made w2x10 #[] 0 hw2x10.size (by unfold maxLen; omega) rfl
            have hw210x4 := hw2x10.alloc hw2x10.size (.cells #[] 9)
            have hne : g10 ≠ w2x10.heap.size := by have := blk10.lt; omega
            have blk10 := blk10.alloc (.cells #[] 9)
            obtain ⟨w210x4, hw210x4e⟩ : ∃ w210x4, w2x10.alloc (.cells #[] 9) = w210x4 := ⟨_, rfl⟩
            obtain ⟨g4, hg4⟩ : ∃ g4, w2x10.heap.size = g4 := ⟨_, rfl⟩
            rw [hw210x4e] at own4 hw210x4 ⊢
            rw [hg4] at own4 ⊢
            rw [hw210x4e] at blk10
            rw [hg4] at hne
            refine hK.out _ _ ?_ (fun hHeld4 => ?_)
            · (refine HKQ.out _ ?_; exact hw210x4)
            clear hK K
            (try simp only [Act.put, List.setIfInBounds_toArray, List.set_cons_zero, List.set_cons_succ])
            refine doH (i := 6) rfl (by kernel_rfl) (by rfl) (fun K hK => ?_)
            obtain ⟨v6, w2104x6, hr6, own6, hg6, _⟩ := append_strs own4 ol m capl HLL.out (hsE.below hw210x4) hnl (by simp; omega) hw210x4.size
            have hw2104x6 := own_below2 hw210x4 own4 (Nat.le_refl _) hg6
            have blk10 := blk10.grown hg6 (by simp [Value.ownBlock]; omega)
            obtain ⟨o6, c6, hv6, _⟩ := own6.formd
            rw [List.nil_append, HLL.out] at hv6
            rw [List.nil_append] at own6
            subst hv6
            refine Lib.wp_append_run _ _ _ 22 22 rfl _ _ rfl rfl _ _ hr6 ?_
            clear hr6
            refine hK.out _ _ ?_ (fun hHeld6 => ?_)
            · (refine HKQ.out _ ?_; exact hw2104x6)
            clear hK K
            (try simp only [Act.put, List.setIfInBounds_toArray, List.set_cons_zero, List.set_cons_succ])
            refine doH (i := 11) rfl (by kernel_rfl) (by rfl) (fun K hK => ?_)
            obtain ⟨v11, w21046x11, hr11, own11, hg11, _⟩ := append_strs own6 (some ⟨g10, 0, none⟩) 1 1 (ts := [X]) rfl (by
              intro i hi
              have hi1 : i < 1 := hi
              obtain rfl : i = 0 := by omega
              exact ⟨_, rfl, blk10.lt, blk10.cell 0⟩) (fun h => by cases h) (by rw [HLL.out]; omega) hw2104x6.size
            have hw21046x11 := own_below2 hw2104x6 own6 (Nat.le_refl _) hg11
            obtain ⟨o11, c11, hv11, hs11, hc11, _⟩ := own11.formd
            rw [HLX.out] at hv11 hc11
            subst hv11
            refine Lib.wp_append_run _ _ _ 22 22 rfl _ _ rfl rfl _ _ hr11 ?_
            clear hr11
            refine hK.out _ _ ?_ (fun hHeld11 => ?_)
            · (refine HKQ.out _ ?_; exact hw21046x11)
            clear hK K
            (try simp only [Act.put, List.setIfInBounds_toArray, List.set_cons_zero, List.set_cons_succ])
            refine doH (i := 12) rfl (by kernel_rfl) (by rfl) (fun K hK => ?_)
            go_simp
            refine (HMR.out o11 c11 hc11 _ hs11).mono ?_
            rintro e wF ⟨rfl, hbF'⟩
            have hbF : Below wE.heap.size wE wF := hw21046x11.trans (hbF'.mono hw21046x11.size)
            go_wp2_with fail
            refine hK.out _ _ ?_ (fun hHeld12 => ?_)
            · (refine HKQ.out _ ?_; exact hbF)
            clear hK K
            (try simp only [Act.put, List.setIfInBounds_toArray, List.set_cons_zero, List.set_cons_succ])
            apply takeH (i := 13) rfl (by kernel_rfl) (by kernel_rfl) (by kernel_rfl) (fun _ _ _ h => h) (by rfl)
            case hy => (intro w hSw; (try dsimp only at hSw); go_simp; try with_reducible rfl)
            case hS => assumption
            (try simp only [Act.put, List.setIfInBounds_toArray, List.set_cons_zero, List.set_cons_succ])
            apply takeH (i := 14) rfl (by kernel_rfl) (by kernel_rfl) (by kernel_rfl) (fun _ _ _ h => h) (by rfl)
            case hy => (intro w hSw; (try dsimp only at hSw); go_simp; try with_reducible rfl)
            case hS => assumption
            (try simp only [Act.put, List.setIfInBounds_toArray, List.set_cons_zero, List.set_cons_succ])
            refine wpAnyH_done (by kernel_rfl) ?_ _
            have hBf := hBE.trans (hbF.mono hBE.size)
            go_wp2
            go_ret
            exact ⟨rfl, hBf⟩
        · go_simp
          have own4 : Own (wd.alloc (.cells #[] 9)) wE.heap.size (.slice (some ⟨wd.heap.size, 0, none⟩) 0 0) [] := World.ownsRow_made wd #[] 0 hb0.size (by unfold maxLen; omega) rfl
          have hwx4 := hb0.alloc hb0.size (.cells #[] 9)
          obtain ⟨wx4, hwx4e⟩ : ∃ wx4, wd.alloc (.cells #[] 9) = wx4 := ⟨_, rfl⟩
          obtain ⟨g4, hg4⟩ : ∃ g4, wd.heap.size = g4 := ⟨_, rfl⟩
          rw [hwx4e] at own4 hwx4 ⊢
          rw [hg4] at own4 ⊢
          refine hK.out _ _ ?_ (fun hHeld4 => ?_)
          · (refine HKQ.out _ ?_; exact hwx4)
          clear hK K
          (try simp only [Act.put, List.setIfInBounds_toArray, List.set_cons_zero, List.set_cons_succ])
          refine doH2 (i := 2) (j := 10) rfl rfl (by kernel_rfl) (by rfl) (by rfl) (fun K hK => ?_) (fun K hK => ?_)
          · go_simp
            refine (HRW.out ox cx bx _ (hCE.below hwx4)).mono ?_
            rintro e w4x2 ⟨rfl, hw4x2'⟩
            have hw4x2 : Below wE.heap.size wE w4x2 := hwx4.trans (hw4x2'.mono hwx4.size)
            have own4 := own4.below hw4x2'
            go_wp2_with fail
            refine hK.out _ _ ?_ (fun hHeld2 => ?_)
            · (refine HKQ.out _ ?_; exact hw4x2)
            clear hK K
            (try simp only [Act.put, List.setIfInBounds_toArray, List.set_cons_zero, List.set_cons_succ])
            refine doH2 (i := 6) (j := 10) rfl rfl (by kernel_rfl) (by rfl) (by rfl) (fun K hK => ?_) (fun K hK => ?_)
            · obtain ⟨v6, w42x6, hr6, own6, hg6, _⟩ := append_strs own4 ol m capl HLL.out (hsE.below hw4x2) hnl (by simp; omega) hw4x2.size
              have hw42x6 := own_below2 hw4x2 own4 (Nat.le_refl _) hg6
              obtain ⟨o6, c6, hv6, _⟩ := own6.formd
              rw [List.nil_append, HLL.out] at hv6
              rw [List.nil_append] at own6
              subst hv6
              refine Lib.wp_append_run _ _ _ 22 22 rfl _ _ rfl rfl _ _ hr6 ?_
              clear hr6
              refine hK.out _ _ ?_ (fun hHeld6 => ?_)
              · (refine HKQ.out _ ?_; exact hw42x6)
              clear hK K
              (try simp only [Act.put, List.setIfInBounds_toArray, List.set_cons_zero, List.set_cons_succ])
              refine doH (i := 10) rfl (by kernel_rfl) (by rfl) (fun K hK => ?_)
              go_simp
              have blk10 : Blk (w42x6.alloc (.cells #[.string X] 9)) w42x6.heap.size 9 #[.string X] := Blk.new _ _ _
              have hw426x10 := hw42x6.alloc hw42x6.size (.cells #[.string X] 9)
              have own6 : Own (w42x6.alloc (.cells #[.string X] 9)) wE.heap.size (.slice o6 m c6) L := World.ownsRow.alloc own6 _
              obtain ⟨w426x10, hw426x10e⟩ : ∃ w426x10, w42x6.alloc (.cells #[.string X] 9) = w426x10 := ⟨_, rfl⟩
              obtain ⟨g10, hg10⟩ : ∃ g10, w42x6.heap.size = g10 := ⟨_, rfl⟩
              rw [hw426x10e] at blk10 hw426x10 ⊢
              rw [hg10] at blk10 ⊢
              rw [hw426x10e] at own6
              refine hK.out _ _ ?_ (fun hHeld10 => ?_)
              · (refine HKQ.out _ ?_; exact hw426x10)
              clear hK K
              (try simp only [Act.put, List.setIfInBounds_toArray, List.set_cons_zero, List.set_cons_succ])
              refine doH (i := 11) rfl (by kernel_rfl) (by rfl) (fun K hK => ?_)
              obtain ⟨v11, w42610x11, hr11, own11, hg11, _⟩ := append_strs own6 (some ⟨g10, 0, none⟩) 1 1 (ts := [X]) rfl (by
                intro i hi
                have hi1 : i < 1 := hi
                obtain rfl : i = 0 := by omega
                exact ⟨_, rfl, blk10.lt, blk10.cell 0⟩) (fun h => by cases h) (by rw [HLL.out]; omega) hw426x10.size
              have hw42610x11 := own_below2 hw426x10 own6 (Nat.le_refl _) hg11
              obtain ⟨o11, c11, hv11, hs11, hc11, _⟩ := own11.formd
              rw [HLX.out] at hv11 hc11
              subst hv11
              refine Lib.wp_append_run _ _ _ 22 22 rfl _ _ rfl rfl _ _ hr11 ?_
              clear hr11
              refine hK.out _ _ ?_ (fun hHeld11 => ?_)
              · (refine HKQ.out _ ?_; exact hw42610x11)
              clear hK K
              (try simp only [Act.put, List.setIfInBounds_toArray, List.set_cons_zero, List.set_cons_succ])
              refine doH (i := 12) rfl (by kernel_rfl) (by rfl) (fun K hK => ?_)
              go_simp
              refine (HMR.out o11 c11 hc11 _ hs11).mono ?_
              rintro e wF ⟨rfl, hbF'⟩
              have hbF : Below wE.heap.size wE wF := hw42610x11.trans (hbF'.mono hw42610x11.size)
              go_wp2_with fail
              refine hK.out _ _ ?_ (fun hHeld12 => ?_)
              · (refine HKQ.out _ ?_; exact hbF)
              clear hK K
              (try simp only [Act.put, List.setIfInBounds_toArray, List.set_cons_zero, List.set_cons_succ])
              apply takeH (i := 13) rfl (by kernel_rfl) (by kernel_rfl) (by kernel_rfl) (fun _ _ _ h => h) (by rfl)
              case hy => (intro w hSw; (try dsimp only at hSw); go_simp; try with_reducible rfl)
              case hS => assumption
              (try simp only [Act.put, List.setIfInBounds_toArray, List.set_cons_zero, List.set_cons_succ])
              apply takeH (i := 14) rfl (by kernel_rfl) (by kernel_rfl) (by kernel_rfl) (fun _ _ _ h => h) (by rfl)
              case hy => (intro w hSw; (try dsimp only at hSw); go_simp; try with_reducible rfl)
              case hS => assumption
              (try simp only [Act.put, List.setIfInBounds_toArray, List.set_cons_zero, List.set_cons_succ])
              refine wpAnyH_done (by kernel_rfl) ?_ _
              have hBf := hBE.trans (hbF.mono hBE.size)
              go_wp2
              go_ret
              exact ⟨rfl, hBf⟩
            · go_simp
              have blk10 : Blk (w4x2.alloc (.cells #[.string X] 9)) w4x2.heap.size 9 #[.string X] := Blk.new _ _ _
              have hw42x10 := hw4x2.alloc hw4x2.size (.cells #[.string X] 9)
              have hne : w4x2.heap.size ≠ g4 := by have := (World.ownsRow.lt own4 g4 rfl).2; omega
              have own4 : Own (w4x2.alloc (.cells #[.string X] 9)) wE.heap.size (.slice (some ⟨g4, 0, none⟩) 0 0) [] := World.ownsRow.alloc own4 _
              obtain ⟨w42x10, hw42x10e⟩ : ∃ w42x10, w4x2.alloc (.cells #[.string X] 9) = w42x10 := ⟨_, rfl⟩
              obtain ⟨g10, hg10⟩ : ∃ g10, w4x2.heap.size = g10 := ⟨_, rfl⟩
              rw [hw42x10e] at blk10 hw42x10 ⊢
              rw [hg10] at blk10 ⊢
              rw [hw42x10e] at own4
              rw [hg10] at hne
              refine hK.out _ _ ?_ (fun hHeld10 => ?_)
              · (refine HKQ.out _ ?_; exact hw42x10)
              clear hK K
              (try simp only [Act.put, List.setIfInBounds_toArray, List.set_cons_zero, List.set_cons_succ])
              refine doH (i := 6) rfl (by kernel_rfl) (by rfl) (fun K hK => ?_)
              obtain ⟨v6, w4210x6, hr6, own6, hg6, _⟩ := append_strs own4 ol m capl HLL.out (hsE.below hw42x10) hnl (by simp; omega) hw42x10.size
              have hw4210x6 := own_below2 hw42x10 own4 (Nat.le_refl _) hg6
              have blk10 := blk10.grown hg6 (by simp [Value.ownBlock]; omega)
              obtain ⟨o6, c6, hv6, _⟩ := own6.formd
              rw [List.nil_append, HLL.out] at hv6
              rw [List.nil_append] at own6
              subst hv6
              refine Lib.wp_append_run _ _ _ 22 22 rfl _ _ rfl rfl _ _ hr6 ?_
              clear hr6
              refine hK.out _ _ ?_ (fun hHeld6 => ?_)
              · (refine HKQ.out _ ?_; exact hw4210x6)
              clear hK K
              (try simp only [Act.put, List.setIfInBounds_toArray, List.set_cons_zero, List.set_cons_succ])
              refine doH (i := 11) rfl (by kernel_rfl) (by rfl) (fun K hK => ?_)
              obtain ⟨v11, w42106x11, hr11, own11, hg11, _⟩ := append_strs own6 (some ⟨g10, 0, none⟩) 1 1 (ts := [X]) rfl (by
                intro i hi
                have hi1 : i < 1 := hi
                obtain rfl : i = 0 := by omega
                exact ⟨_, rfl, blk10.lt, blk10.cell 0⟩) (fun h => by cases h) (by rw [HLL.out]; omega) hw4210x6.size
              have hw42106x11 := own_below2 hw4210x6 own6 (Nat.le_refl _) hg11
              obtain ⟨o11, c11, hv11, hs11, hc11, _⟩ := own11.formd
              rw [HLX.out] at hv11 hc11
              subst hv11
              refine Lib.wp_append_run _ _ _ 22 22 rfl _ _ rfl rfl _ _ hr11 ?_
              clear hr11
              refine hK.out _ _ ?_ (fun hHeld11 => ?_)
              · (refine HKQ.out _ ?_; exact hw42106x11)
              clear hK K
              (try simp only [Act.put, List.setIfInBounds_toArray, List.set_cons_zero, List.set_cons_succ])
              refine doH (i := 12) rfl (by kernel_rfl) (by rfl) (fun K hK => ?_)
              go_simp
              refine (HMR.out o11 c11 hc11 _ hs11).mono ?_
              rintro e wF ⟨rfl, hbF'⟩
              have hbF : Below wE.heap.size wE wF := hw42106x11.trans (hbF'.mono hw42106x11.size)
              go_wp2_with fail
              refine hK.out _ _ ?_ (fun hHeld12 => ?_)
              · (refine HKQ.out _ ?_; exact hbF)
              clear hK K
              (try simp only [Act.put, List.setIfInBounds_toArray, List.set_cons_zero, List.set_cons_succ])
              apply takeH (i := 13) rfl (by kernel_rfl) (by kernel_rfl) (by kernel_rfl) (fun _ _ _ h => h) (by rfl)
              case hy => (intro w hSw; (try dsimp only at hSw); go_simp; try with_reducible rfl)
              case hS => assumption
              (try simp only [Act.put, List.setIfInBounds_toArray, List.set_cons_zero, List.set_cons_succ])
              apply takeH (i := 14) rfl (by kernel_rfl) (by kernel_rfl) (by kernel_rfl) (fun _ _ _ h => h) (by rfl)
              case hy => (intro w hSw; (try dsimp only at hSw); go_simp; try with_reducible rfl)
              case hS => assumption
              (try simp only [Act.put, List.setIfInBounds_toArray, List.set_cons_zero, List.set_cons_succ])
              refine wpAnyH_done (by kernel_rfl) ?_ _
              have hBf := hBE.trans (hbF.mono hBE.size)
              go_wp2
              go_ret
              exact ⟨rfl, hBf⟩
          · go_simp
            have blk10 : Blk (wx4.alloc (.cells #[.string X] 9)) wx4.heap.size 9 #[.string X] := Blk.new _ _ _
            have hw4x10 := hwx4.alloc hwx4.size (.cells #[.string X] 9)
            have hne : wx4.heap.size ≠ g4 := by have := (World.ownsRow.lt own4 g4 rfl).2; omega
            have own4 : Own (wx4.alloc (.cells #[.string X] 9)) wE.heap.size (.slice (some ⟨g4, 0, none⟩) 0 0) [] := World.ownsRow.alloc own4 _
            obtain ⟨w4x10, hw4x10e⟩ : ∃ w4x10, wx4.alloc (.cells #[.string X] 9) = w4x10 := ⟨_, rfl⟩
            obtain ⟨g10, hg10⟩ : ∃ g10, wx4.heap.size = g10 := ⟨_, rfl⟩
            rw [hw4x10e] at blk10 hw4x10 ⊢
            rw [hg10] at blk10 ⊢
            rw [hw4x10e] at own4
            rw [hg10] at hne
            refine hK.out _ _ ?_ (fun hHeld10 => ?_)
            · (refine HKQ.out _ ?_; exact hw4x10)
            clear hK K
            (try simp only [Act.put, List.setIfInBounds_toArray, List.set_cons_zero, List.set_cons_succ])
            refine doH (i := 2) rfl (by kernel_rfl) (by rfl) (fun K hK => ?_)
            go_simp
            refine (HRW.out ox cx bx _ (hCE.below hw4x10)).mono ?_
            rintro e w410x2 ⟨rfl, hw410x2'⟩
            have hw410x2 : Below wE.heap.size wE w410x2 := hw4x10.trans (hw410x2'.mono hw4x10.size)
            have own4 := own4.below hw410x2'
            have blk10 := blk10.below hw410x2' blk10.lt
            go_wp2_with fail
            refine hK.out _ _ ?_ (fun hHeld2 => ?_)
            · (refine HKQ.out _ ?_; exact hw410x2)
            clear hK K
            (try simp only [Act.put, List.setIfInBounds_toArray, List.set_cons_zero, List.set_cons_succ])
            refine doH (i := 6) rfl (by kernel_rfl) (by rfl) (fun K hK => ?_)
            obtain ⟨v6, w4102x6, hr6, own6, hg6, _⟩ := append_strs own4 ol m capl HLL.out (hsE.below hw410x2) hnl (by simp; omega) hw410x2.size
            have hw4102x6 := own_below2 hw410x2 own4 (Nat.le_refl _) hg6
            have blk10 := blk10.grown hg6 (by simp [Value.ownBlock]; omega)
            obtain ⟨o6, c6, hv6, _⟩ := own6.formd
            rw [List.nil_append, HLL.out] at hv6
            rw [List.nil_append] at own6
            subst hv6
            refine Lib.wp_append_run _ _ _ 22 22 rfl _ _ rfl rfl _ _ hr6 ?_
            clear hr6
            refine hK.out _ _ ?_ (fun hHeld6 => ?_)
            · (refine HKQ.out _ ?_; exact hw4102x6)
            clear hK K
            (try simp only [Act.put, List.setIfInBounds_toArray, List.set_cons_zero, List.set_cons_succ])
            refine doH (i := 11) rfl (by kernel_rfl) (by rfl) (fun K hK => ?_)
            obtain ⟨v11, w41026x11, hr11, own11, hg11, _⟩ := append_strs own6 (some ⟨g10, 0, none⟩) 1 1 (ts := [X]) rfl (by
              intro i hi
              have hi1 : i < 1 := hi
              obtain rfl : i = 0 := by omega
              exact ⟨_, rfl, blk10.lt, blk10.cell 0⟩) (fun h => by cases h) (by rw [HLL.out]; omega) hw4102x6.size
            have hw41026x11 := own_below2 hw4102x6 own6 (Nat.le_refl _) hg11
            obtain ⟨o11, c11, hv11, hs11, hc11, _⟩ := own11.formd
            rw [HLX.out] at hv11 hc11
            subst hv11
            refine Lib.wp_append_run _ _ _ 22 22 rfl _ _ rfl rfl _ _ hr11 ?_
            clear hr11
            refine hK.out _ _ ?_ (fun hHeld11 => ?_)
            · (refine HKQ.out _ ?_; exact hw41026x11)
            clear hK K
            (try simp only [Act.put, List.setIfInBounds_toArray, List.set_cons_zero, List.set_cons_succ])
            refine doH (i := 12) rfl (by kernel_rfl) (by rfl) (fun K hK => ?_)
            go_simp
            refine (HMR.out o11 c11 hc11 _ hs11).mono ?_
            rintro e wF ⟨rfl, hbF'⟩
            have hbF : Below wE.heap.size wE wF := hw41026x11.trans (hbF'.mono hw41026x11.size)
            go_wp2_with fail
            refine hK.out _ _ ?_ (fun hHeld12 => ?_)
            · (refine HKQ.out _ ?_; exact hbF)
            clear hK K
            (try simp only [Act.put, List.setIfInBounds_toArray, List.set_cons_zero, List.set_cons_succ])
            apply takeH (i := 13) rfl (by kernel_rfl) (by kernel_rfl) (by kernel_rfl) (fun _ _ _ h => h) (by rfl)
            case hy => (intro w hSw; (try dsimp only at hSw); go_simp; try with_reducible rfl)
            case hS => assumption
            (try simp only [Act.put, List.setIfInBounds_toArray, List.set_cons_zero, List.set_cons_succ])
            apply takeH (i := 14) rfl (by kernel_rfl) (by kernel_rfl) (by kernel_rfl) (fun _ _ _ h => h) (by rfl)
            case hy => (intro w hSw; (try dsimp only at hSw); go_simp; try with_reducible rfl)
            case hS => assumption
            (try simp only [Act.put, List.setIfInBounds_toArray, List.set_cons_zero, List.set_cons_succ])
            refine wpAnyH_done (by kernel_rfl) ?_ _
            have hBf := hBE.trans (hbF.mono hBE.size)
            go_wp2
            go_ret
            exact ⟨rfl, hBf⟩
        · go_simp
          have blk10 : Blk (wd.alloc (.cells #[.string X] 9)) wd.heap.size 9 #[.string X] := Blk.new _ _ _
          have hwx10 := hb0.alloc hb0.size (.cells #[.string X] 9)
          obtain ⟨wx10, hwx10e⟩ : ∃ wx10, wd.alloc (.cells #[.string X] 9) = wx10 := ⟨_, rfl⟩
          obtain ⟨g10, hg10⟩ : ∃ g10, wd.heap.size = g10 := ⟨_, rfl⟩
          rw [hwx10e] at blk10 hwx10 ⊢
          rw [hg10] at blk10 ⊢
          refine hK.out _ _ ?_ (fun hHeld10 => ?_)
          · (refine HKQ.out _ ?_; exact hwx10)
          clear hK K
          (try simp only [Act.put, List.setIfInBounds_toArray, List.set_cons_zero, List.set_cons_succ])
          refine doH2 (i := 2) (j := 4) rfl rfl (by kernel_rfl) (by rfl) (by rfl) (fun K hK => ?_) (fun K hK => ?_)
          · go_simp
            refine (HRW.out ox cx bx _ (hCE.below hwx10)).mono ?_
            rintro e w10x2 ⟨rfl, hw10x2'⟩
            have hw10x2 : Below wE.heap.size wE w10x2 := hwx10.trans (hw10x2'.mono hwx10.size)
            have blk10 := blk10.below hw10x2' blk10.lt
            go_wp2_with fail
            refine hK.out _ _ ?_ (fun hHeld2 => ?_)
            · (refine HKQ.out _ ?_; exact hw10x2)
            clear hK K
            (try simp only [Act.put, List.setIfInBounds_toArray, List.set_cons_zero, List.set_cons_succ])
            refine doH (i := 4) rfl (by kernel_rfl) (by rfl) (fun K hK => ?_)
            go_simp
            have own4 : Own (w10x2.alloc (.cells #[] 9)) wE.heap.size (.slice (some ⟨w10x2.heap.size, 0, none⟩) 0 0) [] := World.ownsRow_made w10x2 #[] 0 hw10x2.size (by unfold maxLen; omega) rfl
            have hw102x4 := hw10x2.alloc hw10x2.size (.cells #[] 9)
            have hne : g10 ≠ w10x2.heap.size := by have := blk10.lt; omega
            have blk10 := blk10.alloc (.cells #[] 9)
            obtain ⟨w102x4, hw102x4e⟩ : ∃ w102x4, w10x2.alloc (.cells #[] 9) = w102x4 := ⟨_, rfl⟩
            obtain ⟨g4, hg4⟩ : ∃ g4, w10x2.heap.size = g4 := ⟨_, rfl⟩
            rw [hw102x4e] at own4 hw102x4 ⊢
            rw [hg4] at own4 ⊢
            rw [hw102x4e] at blk10
            rw [hg4] at hne
            refine hK.out _ _ ?_ (fun hHeld4 => ?_)
            · (refine HKQ.out _ ?_; exact hw102x4)
            clear hK K
            (try simp only [Act.put, List.setIfInBounds_toArray, List.set_cons_zero, List.set_cons_succ])
            refine doH (i := 6) rfl (by kernel_rfl) (by rfl) (fun K hK => ?_)
            obtain ⟨v6, w1024x6, hr6, own6, hg6, _⟩ := append_strs own4 ol m capl HLL.out (hsE.below hw102x4) hnl (by simp; omega) hw102x4.size
            have hw1024x6 := own_below2 hw102x4 own4 (Nat.le_refl _) hg6
            have blk10 := blk10.grown hg6 (by simp [Value.ownBlock]; omega)
            obtain ⟨o6, c6, hv6, _⟩ := own6.formd
            rw [List.nil_append, HLL.out] at hv6
            rw [List.nil_append] at own6
            subst hv6
            refine Lib.wp_append_run _ _ _ 22 22 rfl _ _ rfl rfl _ _ hr6 ?_
            clear hr6
            refine hK.out _ _ ?_ (fun hHeld6 => ?_)
            · (refine HKQ.out _ ?_; exact hw1024x6)
            clear hK K
            (try simp only [Act.put, List.setIfInBounds_toArray, List.set_cons_zero, List.set_cons_succ])
            refine doH (i := 11) rfl (by kernel_rfl) (by rfl) (fun K hK => ?_)
            obtain ⟨v11, w10246x11, hr11, own11, hg11, _⟩ := append_strs own6 (some ⟨g10, 0, none⟩) 1 1 (ts := [X]) rfl (by
              intro i hi
              have hi1 : i < 1 := hi
              obtain rfl : i = 0 := by omega
              exact ⟨_, rfl, blk10.lt, blk10.cell 0⟩) (fun h => by cases h) (by rw [HLL.out]; omega) hw1024x6.size
            have hw10246x11 := own_below2 hw1024x6 own6 (Nat.le_refl _) hg11
            obtain ⟨o11, c11, hv11, hs11, hc11, _⟩ := own11.formd
            rw [HLX.out] at hv11 hc11
            subst hv11
            refine Lib.wp_append_run _ _ _ 22 22 rfl _ _ rfl rfl _ _ hr11 ?_
            clear hr11
            refine hK.out _ _ ?_ (fun hHeld11 => ?_)
            · (refine HKQ.out _ ?_; exact hw10246x11)
            clear hK K
            (try simp only [Act.put, List.setIfInBounds_toArray, List.set_cons_zero, List.set_cons_succ])
            refine doH (i := 12) rfl (by kernel_rfl) (by rfl) (fun K hK => ?_)
            go_simp
            refine (HMR.out o11 c11 hc11 _ hs11).mono ?_
            rintro e wF ⟨rfl, hbF'⟩
            have hbF : Below wE.heap.size wE wF := hw10246x11.trans (hbF'.mono hw10246x11.size)
            go_wp2_with fail
            refine hK.out _ _ ?_ (fun hHeld12 => ?_)
            · (refine HKQ.out _ ?_; exact hbF)
            clear hK K
            (try simp only [Act.put, List.setIfInBounds_toArray, List.set_cons_zero, List.set_cons_succ])
            apply takeH (i := 13) rfl (by kernel_rfl) (by kernel_rfl) (by kernel_rfl) (fun _ _ _ h => h) (by rfl)
            case hy => (intro w hSw; (try dsimp only at hSw); go_simp; try with_reducible rfl)
            case hS => assumption
            (try simp only [Act.put, List.setIfInBounds_toArray, List.set_cons_zero, List.set_cons_succ])
            apply takeH (i := 14) rfl (by kernel_rfl) (by kernel_rfl) (by kernel_rfl) (fun _ _ _ h => h) (by rfl)
            case hy => (intro w hSw; (try dsimp only at hSw); go_simp; try with_reducible rfl)
            case hS => assumption
            (try simp only [Act.put, List.setIfInBounds_toArray, List.set_cons_zero, List.set_cons_succ])
            refine wpAnyH_done (by kernel_rfl) ?_ _
            have hBf := hBE.trans (hbF.mono hBE.size)
            go_wp2
            go_ret
            exact ⟨rfl, hBf⟩
          · go_simp
            have own4 : Own (wx10.alloc (.cells #[] 9)) wE.heap.size (.slice (some ⟨wx10.heap.size, 0, none⟩) 0 0) [] := World.ownsRow_made wx10 #[] 0 hwx10.size (by unfold maxLen; omega) rfl
            have hw10x4 := hwx10.alloc hwx10.size (.cells #[] 9)
            have hne : g10 ≠ wx10.heap.size := by have := blk10.lt; omega
            have blk10 := blk10.alloc (.cells #[] 9)
            obtain ⟨w10x4, hw10x4e⟩ : ∃ w10x4, wx10.alloc (.cells #[] 9) = w10x4 := ⟨_, rfl⟩
            obtain ⟨g4, hg4⟩ : ∃ g4, wx10.heap.size = g4 := ⟨_, rfl⟩
            rw [hw10x4e] at own4 hw10x4 ⊢
            rw [hg4] at own4 ⊢
            rw [hw10x4e] at blk10
            rw [hg4] at hne
            refine hK.out _ _ ?_ (fun hHeld4 => ?_)
            · (refine HKQ.out _ ?_; exact hw10x4)
            clear hK K
            (try simp only [Act.put, List.setIfInBounds_toArray, List.set_cons_zero, List.set_cons_succ])
            refine doH (i := 2) rfl (by kernel_rfl) (by rfl) (fun K hK => ?_)
            go_simp
            refine (HRW.out ox cx bx _ (hCE.below hw10x4)).mono ?_
            rintro e w104x2 ⟨rfl, hw104x2'⟩
            have hw104x2 : Below wE.heap.size wE w104x2 := hw10x4.trans (hw104x2'.mono hw10x4.size)
            have own4 := own4.below hw104x2'
            have blk10 := blk10.below hw104x2' blk10.lt
            go_wp2_with fail
            refine hK.out _ _ ?_ (fun hHeld2 => ?_)
            · (refine HKQ.out _ ?_; exact hw104x2)
            clear hK K
            (try simp only [Act.put, List.setIfInBounds_toArray, List.set_cons_zero, List.set_cons_succ])
            refine doH (i := 6) rfl (by kernel_rfl) (by rfl) (fun K hK => ?_)
            obtain ⟨v6, w1042x6, hr6, own6, hg6, _⟩ := append_strs own4 ol m capl HLL.out (hsE.below hw104x2) hnl (by simp; omega) hw104x2.size
            have hw1042x6 := own_below2 hw104x2 own4 (Nat.le_refl _) hg6
            have blk10 := blk10.grown hg6 (by simp [Value.ownBlock]; omega)
            obtain ⟨o6, c6, hv6, _⟩ := own6.formd
            rw [List.nil_append, HLL.out] at hv6
            rw [List.nil_append] at own6
            subst hv6
            refine Lib.wp_append_run _ _ _ 22 22 rfl _ _ rfl rfl _ _ hr6 ?_
            clear hr6
            refine hK.out _ _ ?_ (fun hHeld6 => ?_)
            · (refine HKQ.out _ ?_; exact hw1042x6)
            clear hK K
            (try simp only [Act.put, List.setIfInBounds_toArray, List.set_cons_zero, List.set_cons_succ])
            refine doH (i := 11) rfl (by kernel_rfl) (by rfl) (fun K hK => ?_)
            obtain ⟨v11, w10426x11, hr11, own11, hg11, _⟩ := append_strs own6 (some ⟨g10, 0, none⟩) 1 1 (ts := [X]) rfl (by
              intro i hi
              have hi1 : i < 1 := hi
              obtain rfl : i = 0 := by omega
              exact ⟨_, rfl, blk10.lt, blk10.cell 0⟩) (fun h => by cases h) (by rw [HLL.out]; omega) hw1042x6.size
            have hw10426x11 := own_below2 hw1042x6 own6 (Nat.le_refl _) hg11
            obtain ⟨o11, c11, hv11, hs11, hc11, _⟩ := own11.formd
            rw [HLX.out] at hv11 hc11
            subst hv11
            refine Lib.wp_append_run _ _ _ 22 22 rfl _ _ rfl rfl _ _ hr11 ?_
            clear hr11
            refine hK.out _ _ ?_ (fun hHeld11 => ?_)
            · (refine HKQ.out _ ?_; exact hw10426x11)
            clear hK K
            (try simp only [Act.put, List.setIfInBounds_toArray, List.set_cons_zero, List.set_cons_succ])
            refine doH (i := 12) rfl (by kernel_rfl) (by rfl) (fun K hK => ?_)
            go_simp
            refine (HMR.out o11 c11 hc11 _ hs11).mono ?_
            rintro e wF ⟨rfl, hbF'⟩
            have hbF : Below wE.heap.size wE wF := hw10426x11.trans (hbF'.mono hw10426x11.size)
            go_wp2_with fail
            refine hK.out _ _ ?_ (fun hHeld12 => ?_)
            · (refine HKQ.out _ ?_; exact hbF)
            clear hK K
            (try simp only [Act.put, List.setIfInBounds_toArray, List.set_cons_zero, List.set_cons_succ])
            apply takeH (i := 13) rfl (by kernel_rfl) (by kernel_rfl) (by kernel_rfl) (fun _ _ _ h => h) (by rfl)
            case hy => (intro w hSw; (try dsimp only at hSw); go_simp; try with_reducible rfl)
            case hS => assumption
            (try simp only [Act.put, List.setIfInBounds_toArray, List.set_cons_zero, List.set_cons_succ])
            apply takeH (i := 14) rfl (by kernel_rfl) (by kernel_rfl) (by kernel_rfl) (fun _ _ _ h => h) (by rfl)
            case hy => (intro w hSw; (try dsimp only at hSw); go_simp; try with_reducible rfl)
            case hS => assumption
            (try simp only [Act.put, List.setIfInBounds_toArray, List.set_cons_zero, List.set_cons_succ])
            refine wpAnyH_done (by kernel_rfl) ?_ _
            have hBf := hBE.trans (hbF.mono hBE.size)
            go_wp2
            go_ret
            exact ⟨rfl, hBf⟩
    · have hbC : Below wz.heap.size wz (wz.drew.alloc (.cells #[.int .i64 0, .slice none 0 0] 33)) := (Below.refl _ _).drew.alloc (Nat.le_refl _) _
      have hXC : Blk (wz.drew.alloc (.cells #[.int .i64 0, .slice none 0 0] 33)) wz.heap.size 33 #[.int .i64 0, .slice none 0 0] := Blk.new wz.drew _ _
      go_simp
      refine hK.out _ _ ?_ (fun hHeld8 => ?_)
      · (refine HKP.out _ ?_; first | exact hbE | exact hbD | exact hbC | exact hbA | exact (Below.refl _ _).drew | exact Below.refl _ _)
      clear hK K
      (try simp only [Act.put, List.setIfInBounds_toArray, List.set_cons_zero, List.set_cons_succ])
      refine doH (i := 3) rfl (by kernel_rfl) (by rfl) (fun K hK => ?_)
      go_simp
      refine (HOF.out _ (hsz.below hbC)).mono ?_
      rintro e wA ⟨vA, rfl, hvA, hbA'⟩
      obtain ⟨ov, cv, hvv, hsv, hkc, hnil⟩ := hvA.formd
      rw [HK.out] at hvv hkc hnil
      subst hvv
      have hbA : Below wz.heap.size wz wA := (hbC).trans (hbA'.mono (hbC).size)
      go_wp2_with fail
      refine hK.out _ _ ?_ (fun hHeld3 => ?_)
      · (refine HKP.out _ ?_; first | exact hbE | exact hbD | exact hbC | exact hbA | exact (Below.refl _ _).drew | exact Below.refl _ _)
      clear hK K
      (try simp only [Act.put, List.setIfInBounds_toArray, List.set_cons_zero, List.set_cons_succ])
      have hXA := hXC.below hbA' hXC.lt
      refine doH (i := 7) rfl (by kernel_rfl) (by rfl) (fun K hK => ?_)
      go_simp
      refine (HAD.out ov cv hkc hnil _ (hsv)).mono ?_
      rintro e wD ⟨vD, rfl, hvD, hbD'⟩
      obtain ⟨ox, cx, hvv, _⟩ := hvD.formd
      rw [HKX.out] at hvv
      subst hvv
      have hbD : Below wz.heap.size wz wD := (hbA).trans (hbD'.mono (hbA).size)
      go_wp2_with fail
      refine hK.out _ _ ?_ (fun hHeld7 => ?_)
      · (refine HKP.out _ ?_; first | exact hbE | exact hbD | exact hbC | exact hbA | exact (Below.refl _ _).drew | exact Below.refl _ _)
      clear hK K
      (try simp only [Act.put, List.setIfInBounds_toArray, List.set_cons_zero, List.set_cons_succ])
      have hXD := hXA.below hbD' hXA.lt
      have hgl : wz.heap.size ≤ wz.heap.size := Nat.le_refl _
      have hgd : wz.heap.size < wA.heap.size := hXA.lt
      have c0 : wD.cell? ⟨wz.heap.size, 0, none⟩ = some (.int .i64 0) := hXD.cell 0
      have c1 : wD.cell? ⟨wz.heap.size, 1, none⟩ = some (.slice none 0 0) := hXD.cell 1
      have f0 := hXD.frozen 0
      have f1 := hXD.frozen 1
      refine doH (i := 9) rfl (by kernel_rfl) (by rfl) (fun K hK => ?_)
      go_simp
      have hbE := (hbD.setCell (p := ⟨wz.heap.size, 0, none⟩) hgl (.int .i64 m')).setCell (p := ⟨wz.heap.size, 1, none⟩) hgl (.slice ox kx cx)
      have hME : Blk ((wD.setCell ⟨wz.heap.size, 0, none⟩ (.int .i64 m')).setCell ⟨wz.heap.size, 1, none⟩ (.slice ox kx cx)) wz.heap.size 33 #[.int .i64 m', .slice ox kx cx] := (hXD.set_ 0 (.int .i64 m')).set_ 1 (.slice ox kx cx)
      have hCE := own_far (own_far hvD (p := ⟨wz.heap.size, 0, none⟩) hgd (.int .i64 m')) (p := ⟨wz.heap.size, 1, none⟩) hgd (.slice ox kx cx)
      obtain ⟨wE, hwE⟩ : ∃ wE, (wD.setCell ⟨wz.heap.size, 0, none⟩ (.int .i64 m')).setCell ⟨wz.heap.size, 1, none⟩ (.slice ox kx cx) = wE := ⟨_, rfl⟩
      rw [hwE] at hbE hME hCE ⊢
      obtain ⟨gx, hgx⟩ : ∃ gx, wz.heap.size = gx := ⟨_, rfl⟩
      rw [hgx] at hME ⊢
      replace hCE : ∃ bx, Own wE bx (.slice ox kx cx) (ofM (L ++ [X])) := ⟨_, hCE⟩
      obtain ⟨bx, hCE⟩ := hCE
      refine hK.out _ _ ?_ (fun hHeld9 => ?_)
      · (refine HKP.out _ ?_; first | exact hbE | exact hbD | exact hbC | exact hbA | exact (Below.refl _ _).drew | exact Below.refl _ _)
      clear hK K
      (try simp only [Act.put, List.setIfInBounds_toArray, List.set_cons_zero, List.set_cons_succ])
      refine wpAnyH_done (by kernel_rfl) ?_ _
      have hTE := hTz.below hbE hTz.lt
      have hsE := hsz.below hbE
      have hBE := hBz.trans (hbE.mono hBz.size)
      have hXE0 : wE.cell? ⟨gq, 0, none⟩ = some (.string X) := (hbE.cell (p := ⟨gq, 0, none⟩) hgq).trans hX0
      have hgqE : gq < wE.heap.size := Nat.lt_of_lt_of_le hgq hbE.size
      have HKQ := Lib.hid (show ∀ W, Below wE.heap.size wE W → ((loadVar 29 ⟨gt, 0, none⟩).run Try.prog W = .ok (.agg tabV) W ∧ (loadVar 33 ⟨gx, 0, none⟩).run Try.prog W = .ok (.agg #[.int .i64 m', .slice ox kx cx]) W ∧ (loadVar 9 ⟨gq, 0, none⟩).run Try.prog W = .ok (.string X) W) ∧ Below wE.heap.size wE W from fun W hW => ⟨⟨tab_run (hTE.below hW hTE.lt), ld_rng (hME.below hW hME.lt), txt_load ((hW.cell (p := ⟨gq, 0, none⟩) hgqE).trans hXE0)⟩, hW⟩)
      have hb0 : Below wE.heap.size wE wE.drew := (Below.refl _ _).drew
      obtain ⟨wd, hwd⟩ : ∃ wd, wE.drew = wd := ⟨_, rfl⟩
      rw [hwd] at hb0
      clear hHeld9
      go_wp2
      refine wp_region_held_drew (S := fun W => ((loadVar 29 ⟨gt, 0, none⟩).run Try.prog W = .ok (.agg tabV) W ∧ (loadVar 33 ⟨gx, 0, none⟩).run Try.prog W = .ok (.agg #[.int .i64 m', .slice ox kx cx]) W ∧ (loadVar 9 ⟨gq, 0, none⟩).run Try.prog W = .ok (.string X) W) ∧ Below wE.heap.size wE W) (by kernel_rfl) ?_ (fun hHeld0 => ?_)
      · (refine HKQ.out _ ?_; rw [hwd]; exact hb0)
      rw [hwd]
      rw [hwd] at hHeld0
      apply takeH (i := 0) rfl (by kernel_rfl) (by kernel_rfl) (by kernel_rfl) (fun _ _ _ h => h) (by rfl)
      case hy => (intro w hSw; (try dsimp only at hSw); go_simp; try with_reducible rfl)
      case hS => assumption
      (try simp only [Act.put, List.setIfInBounds_toArray, List.set_cons_zero, List.set_cons_succ])
      apply takeH (i := 1) rfl (by kernel_rfl) (by kernel_rfl) (by kernel_rfl) (fun _ _ _ h => h) (by rfl)
      case hy => (intro w hSw; (try dsimp only at hSw); go_simp; try with_reducible rfl)
      case hS => assumption
      (try simp only [Act.put, List.setIfInBounds_toArray, List.set_cons_zero, List.set_cons_succ])
      apply takeH (i := 3) rfl (by kernel_rfl) (by kernel_rfl) (by kernel_rfl) (fun _ _ _ h => h) (by rfl)
      case hy => (intro w hSw; (try dsimp only at hSw); go_simp; try with_reducible rfl)
      case hS => assumption
      (try simp only [Act.put, List.setIfInBounds_toArray, List.set_cons_zero, List.set_cons_succ])
      apply takeH (i := 5) rfl (by kernel_rfl) (by kernel_rfl) (by kernel_rfl) (fun _ _ _ h => h) (by rfl)
      case hy => (intro w hSw; (try dsimp only at hSw); go_simp; try with_reducible rfl)
      case hS => assumption
      (try simp only [Act.put, List.setIfInBounds_toArray, List.set_cons_zero, List.set_cons_succ])
      apply takeH (i := 7) rfl (by kernel_rfl) (by kernel_rfl) (by kernel_rfl) (fun _ _ _ h => h) (by rfl)
      case hy => (intro w hSw; (try dsimp only at hSw); go_simp; try with_reducible rfl)
      case hS => assumption
      (try simp only [Act.put, List.setIfInBounds_toArray, List.set_cons_zero, List.set_cons_succ])
      apply takeH (i := 8) rfl (by kernel_rfl) (by kernel_rfl) (by kernel_rfl) (fun _ _ _ h => h) (by rfl)
      case hy => (intro w hSw; (try dsimp only at hSw); go_simp; try with_reducible rfl)
      case hS => assumption
      (try simp only [Act.put, List.setIfInBounds_toArray, List.set_cons_zero, List.set_cons_succ])
      apply takeH (i := 9) rfl (by kernel_rfl) (by kernel_rfl) (by kernel_rfl) (fun _ _ _ h => h) (by rfl)
      case hy => (intro w hSw; (try dsimp only at hSw); go_simp; try with_reducible rfl)
      case hS => assumption
      (try simp only [Act.put, List.setIfInBounds_toArray, List.set_cons_zero, List.set_cons_succ])
      refine doH3 (i := 2) (j := 4) (k := 10) rfl rfl rfl (by kernel_rfl) (by rfl) (by rfl) (by rfl) (fun K hK => ?_) (fun K hK => ?_) (fun K hK => ?_)
      · go_simp
        refine (HRW.out ox cx bx _ (hCE.below hb0)).mono ?_
        rintro e wx2 ⟨rfl, hwx2'⟩
        have hwx2 : Below wE.heap.size wE wx2 := hb0.trans (hwx2'.mono hb0.size)
        go_wp2_with fail
        refine hK.out _ _ ?_ (fun hHeld2 => ?_)
        · (refine HKQ.out _ ?_; exact hwx2)
        clear hK K
        (try simp only [Act.put, List.setIfInBounds_toArray, List.set_cons_zero, List.set_cons_succ])
        refine doH2 (i := 4) (j := 10) rfl rfl (by kernel_rfl) (by rfl) (by rfl) (fun K hK => ?_) (fun K hK => ?_)
        · go_simp
          have own4 : Own (wx2.alloc (.cells #[] 9)) wE.heap.size (.slice (some ⟨wx2.heap.size, 0, none⟩) 0 0) [] := World.ownsRow_made wx2 #[] 0 hwx2.size (by unfold maxLen; omega) rfl
          have hw2x4 := hwx2.alloc hwx2.size (.cells #[] 9)
          obtain ⟨w2x4, hw2x4e⟩ : ∃ w2x4, wx2.alloc (.cells #[] 9) = w2x4 := ⟨_, rfl⟩
          obtain ⟨g4, hg4⟩ : ∃ g4, wx2.heap.size = g4 := ⟨_, rfl⟩
          rw [hw2x4e] at own4 hw2x4 ⊢
          rw [hg4] at own4 ⊢
          refine hK.out _ _ ?_ (fun hHeld4 => ?_)
          · (refine HKQ.out _ ?_; exact hw2x4)
          clear hK K
          (try simp only [Act.put, List.setIfInBounds_toArray, List.set_cons_zero, List.set_cons_succ])
          refine doH2 (i := 6) (j := 10) rfl rfl (by kernel_rfl) (by rfl) (by rfl) (fun K hK => ?_) (fun K hK => ?_)
          · obtain ⟨v6, w24x6, hr6, own6, hg6, _⟩ := append_strs own4 ol m capl HLL.out (hsE.below hw2x4) hnl (by simp; omega) hw2x4.size
            have hw24x6 := own_below2 hw2x4 own4 (Nat.le_refl _) hg6
            obtain ⟨o6, c6, hv6, _⟩ := own6.formd
            rw [List.nil_append, HLL.out] at hv6
            rw [List.nil_append] at own6
            subst hv6
            refine Lib.wp_append_run _ _ _ 22 22 rfl _ _ rfl rfl _ _ hr6 ?_
            clear hr6
            refine hK.out _ _ ?_ (fun hHeld6 => ?_)
            · (refine HKQ.out _ ?_; exact hw24x6)
            clear hK K
            (try simp only [Act.put, List.setIfInBounds_toArray, List.set_cons_zero, List.set_cons_succ])
            refine doH (i := 10) rfl (by kernel_rfl) (by rfl) (fun K hK => ?_)
            go_simp
            have blk10 : Blk (w24x6.alloc (.cells #[.string X] 9)) w24x6.heap.size 9 #[.string X] := Blk.new _ _ _
            have hw246x10 := hw24x6.alloc hw24x6.size (.cells #[.string X] 9)
            have own6 : Own (w24x6.alloc (.cells #[.string X] 9)) wE.heap.size (.slice o6 m c6) L := World.ownsRow.alloc own6 _
            obtain ⟨w246x10, hw246x10e⟩ : ∃ w246x10, w24x6.alloc (.cells #[.string X] 9) = w246x10 := ⟨_, rfl⟩
            obtain ⟨g10, hg10⟩ : ∃ g10, w24x6.heap.size = g10 := ⟨_, rfl⟩
            rw [hw246x10e] at blk10 hw246x10 ⊢
            rw [hg10] at blk10 ⊢
            rw [hw246x10e] at own6
            refine hK.out _ _ ?_ (fun hHeld10 => ?_)
            · (refine HKQ.out _ ?_; exact hw246x10)
            clear hK K
            (try simp only [Act.put, List.setIfInBounds_toArray, List.set_cons_zero, List.set_cons_succ])
            refine doH (i := 11) rfl (by kernel_rfl) (by rfl) (fun K hK => ?_)
            obtain ⟨v11, w24610x11, hr11, own11, hg11, _⟩ := append_strs own6 (some ⟨g10, 0, none⟩) 1 1 (ts := [X]) rfl (by
              intro i hi
              have hi1 : i < 1 := hi
              obtain rfl : i = 0 := by omega
              exact ⟨_, rfl, blk10.lt, blk10.cell 0⟩) (fun h => by cases h) (by rw [HLL.out]; omega) hw246x10.size
            have hw24610x11 := own_below2 hw246x10 own6 (Nat.le_refl _) hg11
            obtain ⟨o11, c11, hv11, hs11, hc11, _⟩ := own11.formd
            rw [HLX.out] at hv11 hc11
            subst hv11
            refine Lib.wp_append_run _ _ _ 22 22 rfl _ _ rfl rfl _ _ hr11 ?_
            clear hr11
            refine hK.out _ _ ?_ (fun hHeld11 => ?_)
            · (refine HKQ.out _ ?_; exact hw24610x11)
            clear hK K
            (try simp only [Act.put, List.setIfInBounds_toArray, List.set_cons_zero, List.set_cons_succ])
            refine doH (i := 12) rfl (by kernel_rfl) (by rfl) (fun K hK => ?_)
            go_simp
            refine (HMR.out o11 c11 hc11 _ hs11).mono ?_
            rintro e wF ⟨rfl, hbF'⟩
            have hbF : Below wE.heap.size wE wF := hw24610x11.trans (hbF'.mono hw24610x11.size)
            go_wp2_with fail
            refine hK.out _ _ ?_ (fun hHeld12 => ?_)
            · (refine HKQ.out _ ?_; exact hbF)
            clear hK K
            (try simp only [Act.put, List.setIfInBounds_toArray, List.set_cons_zero, List.set_cons_succ])
            apply takeH (i := 13) rfl (by kernel_rfl) (by kernel_rfl) (by kernel_rfl) (fun _ _ _ h => h) (by rfl)
            case hy => (intro w hSw; (try dsimp only at hSw); go_simp; try with_reducible rfl)
            case hS => assumption
            (try simp only [Act.put, List.setIfInBounds_toArray, List.set_cons_zero, List.set_cons_succ])
            apply takeH (i := 14) rfl (by kernel_rfl) (by kernel_rfl) (by kernel_rfl) (fun _ _ _ h => h) (by rfl)
            case hy => (intro w hSw; (try dsimp only at hSw); go_simp; try with_reducible rfl)
            case hS => assumption
            (try simp only [Act.put, List.setIfInBounds_toArray, List.set_cons_zero, List.set_cons_succ])
            refine wpAnyH_done (by kernel_rfl) ?_ _
            have hBf := hBE.trans (hbF.mono hBE.size)
            go_wp2
            go_ret
            exact ⟨rfl, hBf⟩
          · go_simp
            have blk10 : Blk (w2x4.alloc (.cells #[.string X] 9)) w2x4.heap.size 9 #[.string X] := Blk.new _ _ _
            have hw24x10 := hw2x4.alloc hw2x4.size (.cells #[.string X] 9)
            have hne : w2x4.heap.size ≠ g4 := by have := (World.ownsRow.lt own4 g4 rfl).2; omega
            have own4 : Own (w2x4.alloc (.cells #[.string X] 9)) wE.heap.size (.slice (some ⟨g4, 0, none⟩) 0 0) [] := World.ownsRow.alloc own4 _
            obtain ⟨w24x10, hw24x10e⟩ : ∃ w24x10, w2x4.alloc (.cells #[.string X] 9) = w24x10 := ⟨_, rfl⟩
            obtain ⟨g10, hg10⟩ : ∃ g10, w2x4.heap.size = g10 := ⟨_, rfl⟩
            rw [hw24x10e] at blk10 hw24x10 ⊢
            rw [hg10] at blk10 ⊢
            rw [hw24x10e] at own4
            rw [hg10] at hne
            refine hK.out _ _ ?_ (fun hHeld10 => ?_)
            · (refine HKQ.out _ ?_; exact hw24x10)
            clear hK K
            (try simp only [Act.put, List.setIfInBounds_toArray, List.set_cons_zero, List.set_cons_succ])
            refine doH (i := 6) rfl (by kernel_rfl) (by rfl) (fun K hK => ?_)
            obtain ⟨v6, w2410x6, hr6, own6, hg6, _⟩ := append_strs own4 ol m capl HLL.out (hsE.below hw24x10) hnl (by simp; omega) hw24x10.size
            have hw2410x6 := own_below2 hw24x10 own4 (Nat.le_refl _) hg6
            have blk10 := blk10.grown hg6 (by simp [Value.ownBlock]; omega)
            obtain ⟨o6, c6, hv6, _⟩ := own6.formd
            rw [List.nil_append, HLL.out] at hv6
            rw [List.nil_append] at own6
            subst hv6
            refine Lib.wp_append_run _ _ _ 22 22 rfl _ _ rfl rfl _ _ hr6 ?_
            clear hr6
            refine hK.out _ _ ?_ (fun hHeld6 => ?_)
            · (refine HKQ.out _ ?_; exact hw2410x6)
            clear hK K
            (try simp only [Act.put, List.setIfInBounds_toArray, List.set_cons_zero, List.set_cons_succ])
            refine doH (i := 11) rfl (by kernel_rfl) (by rfl) (fun K hK => ?_)
            obtain ⟨v11, w24106x11, hr11, own11, hg11, _⟩ := append_strs own6 (some ⟨g10, 0, none⟩) 1 1 (ts := [X]) rfl (by
              intro i hi
              have hi1 : i < 1 := hi
              obtain rfl : i = 0 := by omega
              exact ⟨_, rfl, blk10.lt, blk10.cell 0⟩) (fun h => by cases h) (by rw [HLL.out]; omega) hw2410x6.size
            have hw24106x11 := own_below2 hw2410x6 own6 (Nat.le_refl _) hg11
            obtain ⟨o11, c11, hv11, hs11, hc11, _⟩ := own11.formd
            rw [HLX.out] at hv11 hc11
            subst hv11
            refine Lib.wp_append_run _ _ _ 22 22 rfl _ _ rfl rfl _ _ hr11 ?_
            clear hr11
            refine hK.out _ _ ?_ (fun hHeld11 => ?_)
            · (refine HKQ.out _ ?_; exact hw24106x11)
            clear hK K
            (try simp only [Act.put, List.setIfInBounds_toArray, List.set_cons_zero, List.set_cons_succ])
            refine doH (i := 12) rfl (by kernel_rfl) (by rfl) (fun K hK => ?_)
            go_simp
            refine (HMR.out o11 c11 hc11 _ hs11).mono ?_
            rintro e wF ⟨rfl, hbF'⟩
            have hbF : Below wE.heap.size wE wF := hw24106x11.trans (hbF'.mono hw24106x11.size)
            go_wp2_with fail
            refine hK.out _ _ ?_ (fun hHeld12 => ?_)
            · (refine HKQ.out _ ?_; exact hbF)
            clear hK K
            (try simp only [Act.put, List.setIfInBounds_toArray, List.set_cons_zero, List.set_cons_succ])
            apply takeH (i := 13) rfl (by kernel_rfl) (by kernel_rfl) (by kernel_rfl) (fun _ _ _ h => h) (by rfl)
            case hy => (intro w hSw; (try dsimp only at hSw); go_simp; try with_reducible rfl)
            case hS => assumption
            (try simp only [Act.put, List.setIfInBounds_toArray, List.set_cons_zero, List.set_cons_succ])
            apply takeH (i := 14) rfl (by kernel_rfl) (by kernel_rfl) (by kernel_rfl) (fun _ _ _ h => h) (by rfl)
            case hy => (intro w hSw; (try dsimp only at hSw); go_simp; try with_reducible rfl)
            case hS => assumption
            (try simp only [Act.put, List.setIfInBounds_toArray, List.set_cons_zero, List.set_cons_succ])
            refine wpAnyH_done (by kernel_rfl) ?_ _
            have hBf := hBE.trans (hbF.mono hBE.size)
            go_wp2
            go_ret
            exact ⟨rfl, hBf⟩
        · go_simp
          have blk10 : Blk (wx2.alloc (.cells #[.string X] 9)) wx2.heap.size 9 #[.string X] := Blk.new _ _ _
          have hw2x10 := hwx2.alloc hwx2.size (.cells #[.string X] 9)
          obtain ⟨w2x10, hw2x10e⟩ : ∃ w2x10, wx2.alloc (.cells #[.string X] 9) = w2x10 := ⟨_, rfl⟩
          obtain ⟨g10, hg10⟩ : ∃ g10, wx2.heap.size = g10 := ⟨_, rfl⟩
          rw [hw2x10e] at blk10 hw2x10 ⊢
          rw [hg10] at blk10 ⊢
          refine hK.out _ _ ?_ (fun hHeld10 => ?_)
          · (refine HKQ.out _ ?_; exact hw2x10)
          clear hK K
          (try simp only [Act.put, List.setIfInBounds_toArray, List.set_cons_zero, List.set_cons_succ])
          refine doH (i := 4) rfl (by kernel_rfl) (by rfl) (fun K hK => ?_)
          go_simp
          have own4 : Own (w2x10.alloc (.cells #[] 9)) wE.heap.size (.slice (some ⟨w2x10.heap.size, 0, none⟩) 0 0) [] := World.ownsRow_made w2x10 #[] 0 hw2x10.size (by unfold maxLen; omega) rfl
          have hw210x4 := hw2x10.alloc hw2x10.size (.cells #[] 9)
          have hne : g10 ≠ w2x10.heap.size := by have := blk10.lt; omega
          have blk10 := blk10.alloc (.cells #[] 9)
          obtain ⟨w210x4, hw210x4e⟩ : ∃ w210x4, w2x10.alloc (.cells #[] 9) = w210x4 := ⟨_, rfl⟩
          obtain ⟨g4, hg4⟩ : ∃ g4, w2x10.heap.size = g4 := ⟨_, rfl⟩
          rw [hw210x4e] at own4 hw210x4 ⊢
          rw [hg4] at own4 ⊢
          rw [hw210x4e] at blk10
          rw [hg4] at hne
          refine hK.out _ _ ?_ (fun hHeld4 => ?_)
          · (refine HKQ.out _ ?_; exact hw210x4)
          clear hK K
          (try simp only [Act.put, List.setIfInBounds_toArray, List.set_cons_zero, List.set_cons_succ])
          refine doH (i := 6) rfl (by kernel_rfl) (by rfl) (fun K hK => ?_)
          obtain ⟨v6, w2104x6, hr6, own6, hg6, _⟩ := append_strs own4 ol m capl HLL.out (hsE.below hw210x4) hnl (by simp; omega) hw210x4.size
          have hw2104x6 := own_below2 hw210x4 own4 (Nat.le_refl _) hg6
          have blk10 := blk10.grown hg6 (by simp [Value.ownBlock]; omega)
          obtain ⟨o6, c6, hv6, _⟩ := own6.formd
          rw [List.nil_append, HLL.out] at hv6
          rw [List.nil_append] at own6
          subst hv6
          refine Lib.wp_append_run _ _ _ 22 22 rfl _ _ rfl rfl _ _ hr6 ?_
          clear hr6
          refine hK.out _ _ ?_ (fun hHeld6 => ?_)
          · (refine HKQ.out _ ?_; exact hw2104x6)
          clear hK K
          (try simp only [Act.put, List.setIfInBounds_toArray, List.set_cons_zero, List.set_cons_succ])
          refine doH (i := 11) rfl (by kernel_rfl) (by rfl) (fun K hK => ?_)
          obtain ⟨v11, w21046x11, hr11, own11, hg11, _⟩ := append_strs own6 (some ⟨g10, 0, none⟩) 1 1 (ts := [X]) rfl (by
            intro i hi
            have hi1 : i < 1 := hi
            obtain rfl : i = 0 := by omega
            exact ⟨_, rfl, blk10.lt, blk10.cell 0⟩) (fun h => by cases h) (by rw [HLL.out]; omega) hw2104x6.size
          have hw21046x11 := own_below2 hw2104x6 own6 (Nat.le_refl _) hg11
          obtain ⟨o11, c11, hv11, hs11, hc11, _⟩ := own11.formd
          rw [HLX.out] at hv11 hc11
          subst hv11
          refine Lib.wp_append_run _ _ _ 22 22 rfl _ _ rfl rfl _ _ hr11 ?_
          clear hr11
          refine hK.out _ _ ?_ (fun hHeld11 => ?_)
          · (refine HKQ.out _ ?_; exact hw21046x11)
          clear hK K
          (try simp only [Act.put, List.setIfInBounds_toArray, List.set_cons_zero, List.set_cons_succ])
          refine doH (i := 12) rfl (by kernel_rfl) (by rfl) (fun K hK => ?_)
          go_simp
          refine (HMR.out o11 c11 hc11 _ hs11).mono ?_
          rintro e wF ⟨rfl, hbF'⟩
          have hbF : Below wE.heap.size wE wF := hw21046x11.trans (hbF'.mono hw21046x11.size)
          go_wp2_with fail
          refine hK.out _ _ ?_ (fun hHeld12 => ?_)
          · (refine HKQ.out _ ?_; exact hbF)
          clear hK K
          (try simp only [Act.put, List.setIfInBounds_toArray, List.set_cons_zero, List.set_cons_succ])
          apply takeH (i := 13) rfl (by kernel_rfl) (by kernel_rfl) (by kernel_rfl) (fun _ _ _ h => h) (by rfl)
          case hy => (intro w hSw; (try dsimp only at hSw); go_simp; try with_reducible rfl)
          case hS => assumption
          (try simp only [Act.put, List.setIfInBounds_toArray, List.set_cons_zero, List.set_cons_succ])
          apply takeH (i := 14) rfl (by kernel_rfl) (by kernel_rfl) (by kernel_rfl) (fun _ _ _ h => h) (by rfl)
          case hy => (intro w hSw; (try dsimp only at hSw); go_simp; try with_reducible rfl)
          case hS => assumption
          (try simp only [Act.put, List.setIfInBounds_toArray, List.set_cons_zero, List.set_cons_succ])
          refine wpAnyH_done (by kernel_rfl) ?_ _
          have hBf := hBE.trans (hbF.mono hBE.size)
          go_wp2
          go_ret
          exact ⟨rfl, hBf⟩
      · go_simp
        have own4 : Own (wd.alloc (.cells #[] 9)) wE.heap.size (.slice (some ⟨wd.heap.size, 0, none⟩) 0 0) [] := World.ownsRow_made wd #[] 0 hb0.size (by unfold maxLen; omega) rfl
        have hwx4 := hb0.alloc hb0.size (.cells #[] 9)
        obtain ⟨wx4, hwx4e⟩ : ∃ wx4, wd.alloc (.cells #[] 9) = wx4 := ⟨_, rfl⟩
        obtain ⟨g4, hg4⟩ : ∃ g4, wd.heap.size = g4 := ⟨_, rfl⟩
        rw [hwx4e] at own4 hwx4 ⊢
        rw [hg4] at own4 ⊢
        refine hK.out _ _ ?_ (fun hHeld4 => ?_)
        · (refine HKQ.out _ ?_; exact hwx4)
        clear hK K
        (try simp only [Act.put, List.setIfInBounds_toArray, List.set_cons_zero, List.set_cons_succ])
        refine doH2 (i := 2) (j := 10) rfl rfl (by kernel_rfl) (by rfl) (by rfl) (fun K hK => ?_) (fun K hK => ?_)
        · go_simp
          refine (HRW.out ox cx bx _ (hCE.below hwx4)).mono ?_
          rintro e w4x2 ⟨rfl, hw4x2'⟩
          have hw4x2 : Below wE.heap.size wE w4x2 := hwx4.trans (hw4x2'.mono hwx4.size)
          have own4 := own4.below hw4x2'
          go_wp2_with fail
          refine hK.out _ _ ?_ (fun hHeld2 => ?_)
          · (refine HKQ.out _ ?_; exact hw4x2)
          clear hK K
          (try simp only [Act.put, List.setIfInBounds_toArray, List.set_cons_zero, List.set_cons_succ])
          refine doH2 (i := 6) (j := 10) rfl rfl (by kernel_rfl) (by rfl) (by rfl) (fun K hK => ?_) (fun K hK => ?_)
          · obtain ⟨v6, w42x6, hr6, own6, hg6, _⟩ := append_strs own4 ol m capl HLL.out (hsE.below hw4x2) hnl (by simp; omega) hw4x2.size
            have hw42x6 := own_below2 hw4x2 own4 (Nat.le_refl _) hg6
            obtain ⟨o6, c6, hv6, _⟩ := own6.formd
            rw [List.nil_append, HLL.out] at hv6
            rw [List.nil_append] at own6
            subst hv6
            refine Lib.wp_append_run _ _ _ 22 22 rfl _ _ rfl rfl _ _ hr6 ?_
            clear hr6
            refine hK.out _ _ ?_ (fun hHeld6 => ?_)
            · (refine HKQ.out _ ?_; exact hw42x6)
            clear hK K
            (try simp only [Act.put, List.setIfInBounds_toArray, List.set_cons_zero, List.set_cons_succ])
            refine doH (i := 10) rfl (by kernel_rfl) (by rfl) (fun K hK => ?_)
            go_simp
            have blk10 : Blk (w42x6.alloc (.cells #[.string X] 9)) w42x6.heap.size 9 #[.string X] := Blk.new _ _ _
            have hw426x10 := hw42x6.alloc hw42x6.size (.cells #[.string X] 9)
            have own6 : Own (w42x6.alloc (.cells #[.string X] 9)) wE.heap.size (.slice o6 m c6) L := World.ownsRow.alloc own6 _
            obtain ⟨w426x10, hw426x10e⟩ : ∃ w426x10, w42x6.alloc (.cells #[.string X] 9) = w426x10 := ⟨_, rfl⟩
            obtain ⟨g10, hg10⟩ : ∃ g10, w42x6.heap.size = g10 := ⟨_, rfl⟩
            rw [hw426x10e] at blk10 hw426x10 ⊢
            rw [hg10] at blk10 ⊢
            rw [hw426x10e] at own6
            refine hK.out _ _ ?_ (fun hHeld10 => ?_)
            · (refine HKQ.out _ ?_; exact hw426x10)
            clear hK K
            (try simp only [Act.put, List.setIfInBounds_toArray, List.set_cons_zero, List.set_cons_succ])
            refine doH (i := 11) rfl (by kernel_rfl) (by rfl) (fun K hK => ?_)
            obtain ⟨v11, w42610x11, hr11, own11, hg11, _⟩ := append_strs own6 (some ⟨g10, 0, none⟩) 1 1 (ts := [X]) rfl (by
              intro i hi
              have hi1 : i < 1 := hi
              obtain rfl : i = 0 := by omega
              exact ⟨_, rfl, blk10.lt, blk10.cell 0⟩) (fun h => by cases h) (by rw [HLL.out]; omega) hw426x10.size
            have hw42610x11 := own_below2 hw426x10 own6 (Nat.le_refl _) hg11
            obtain ⟨o11, c11, hv11, hs11, hc11, _⟩ := own11.formd
            rw [HLX.out] at hv11 hc11
            subst hv11
            refine Lib.wp_append_run _ _ _ 22 22 rfl _ _ rfl rfl _ _ hr11 ?_
            clear hr11
            refine hK.out _ _ ?_ (fun hHeld11 => ?_)
            · (refine HKQ.out _ ?_; exact hw42610x11)
            clear hK K
            (try simp only [Act.put, List.setIfInBounds_toArray, List.set_cons_zero, List.set_cons_succ])
            refine doH (i := 12) rfl (by kernel_rfl) (by rfl) (fun K hK => ?_)
            go_simp
            refine (HMR.out o11 c11 hc11 _ hs11).mono ?_
            rintro e wF ⟨rfl, hbF'⟩
            have hbF : Below wE.heap.size wE wF := hw42610x11.trans (hbF'.mono hw42610x11.size)
            go_wp2_with fail
            refine hK.out _ _ ?_ (fun hHeld12 => ?_)
            · (refine HKQ.out _ ?_; exact hbF)
            clear hK K
            (try simp only [Act.put, List.setIfInBounds_toArray, List.set_cons_zero, List.set_cons_succ])
            apply takeH (i := 13) rfl (by kernel_rfl) (by kernel_rfl) (by kernel_rfl) (fun _ _ _ h => h) (by rfl)
            case hy => (intro w hSw; (try dsimp only at hSw); go_simp; try with_reducible rfl)
            case hS => assumption
            (try simp only [Act.put, List.setIfInBounds_toArray, List.set_cons_zero, List.set_cons_succ])
            apply takeH (i := 14) rfl (by kernel_rfl) (by kernel_rfl) (by kernel_rfl) (fun _ _ _ h => h) (by rfl)
            case hy => (intro w hSw; (try dsimp only at hSw); go_simp; try with_reducible rfl)
            case hS => assumption
            (try simp only [Act.put, List.setIfInBounds_toArray, List.set_cons_zero, List.set_cons_succ])
            refine wpAnyH_done (by kernel_rfl) ?_ _
            have hBf := hBE.trans (hbF.mono hBE.size)
            go_wp2
            go_ret
            exact ⟨rfl, hBf⟩
          · go_simp
            have blk10 : Blk (w4x2.alloc (.cells #[.string X] 9)) w4x2.heap.size 9 #[.string X] := Blk.new _ _ _
            have hw42x10 := hw4x2.alloc hw4x2.size (.cells #[.string X] 9)
            have hne : w4x2.heap.size ≠ g4 := by have := (World.ownsRow.lt own4 g4 rfl).2; omega
            have own4 : Own (w4x2.alloc (.cells #[.string X] 9)) wE.heap.size (.slice (some ⟨g4, 0, none⟩) 0 0) [] := World.ownsRow.alloc own4 _
            obtain ⟨w42x10, hw42x10e⟩ : ∃ w42x10, w4x2.alloc (.cells #[.string X] 9) = w42x10 := ⟨_, rfl⟩
            obtain ⟨g10, hg10⟩ : ∃ g10, w4x2.heap.size = g10 := ⟨_, rfl⟩
            rw [hw42x10e] at blk10 hw42x10 ⊢
            rw [hg10] at blk10 ⊢
            rw [hw42x10e] at own4
            rw [hg10] at hne
            refine hK.out _ _ ?_ (fun hHeld10 => ?_)
            · (refine HKQ.out _ ?_; exact hw42x10)
            clear hK K
            (try simp only [Act.put, List.setIfInBounds_toArray, List.set_cons_zero, List.set_cons_succ])
            refine doH (i := 6) rfl (by kernel_rfl) (by rfl) (fun K hK => ?_)
            obtain ⟨v6, w4210x6, hr6, own6, hg6, _⟩ := append_strs own4 ol m capl HLL.out (hsE.below hw42x10) hnl (by simp; omega) hw42x10.size
            have hw4210x6 := own_below2 hw42x10 own4 (Nat.le_refl _) hg6
            have blk10 := blk10.grown hg6 (by simp [Value.ownBlock]; omega)
            obtain ⟨o6, c6, hv6, _⟩ := own6.formd
            rw [List.nil_append, HLL.out] at hv6
            rw [List.nil_append] at own6
            subst hv6
            refine Lib.wp_append_run _ _ _ 22 22 rfl _ _ rfl rfl _ _ hr6 ?_
            clear hr6
            refine hK.out _ _ ?_ (fun hHeld6 => ?_)
            · (refine HKQ.out _ ?_; exact hw4210x6)
            clear hK K
            (try simp only [Act.put, List.setIfInBounds_toArray, List.set_cons_zero, List.set_cons_succ])
            refine doH (i := 11) rfl (by kernel_rfl) (by rfl) (fun K hK => ?_)
            obtain ⟨v11, w42106x11, hr11, own11, hg11, _⟩ := append_strs own6 (some ⟨g10, 0, none⟩) 1 1 (ts := [X]) rfl (by
              intro i hi
              have hi1 : i < 1 := hi
              obtain rfl : i = 0 := by omega
              exact ⟨_, rfl, blk10.lt, blk10.cell 0⟩) (fun h => by cases h) (by rw [HLL.out]; omega) hw4210x6.size
            have hw42106x11 := own_below2 hw4210x6 own6 (Nat.le_refl _) hg11
            obtain ⟨o11, c11, hv11, hs11, hc11, _⟩ := own11.formd
            rw [HLX.out] at hv11 hc11
            subst hv11
            refine Lib.wp_append_run _ _ _ 22 22 rfl _ _ rfl rfl _ _ hr11 ?_
            clear hr11
            refine hK.out _ _ ?_ (fun hHeld11 => ?_)
            · (refine HKQ.out _ ?_; exact hw42106x11)
            clear hK K
            (try simp only [Act.put, List.setIfInBounds_toArray, List.set_cons_zero, List.set_cons_succ])
            refine doH (i := 12) rfl (by kernel_rfl) (by rfl) (fun K hK => ?_)
            go_simp
            refine (HMR.out o11 c11 hc11 _ hs11).mono ?_
            rintro e wF ⟨rfl, hbF'⟩
            have hbF : Below wE.heap.size wE wF := hw42106x11.trans (hbF'.mono hw42106x11.size)
            go_wp2_with fail
            refine hK.out _ _ ?_ (fun hHeld12 => ?_)
            · (refine HKQ.out _ ?_; exact hbF)
            clear hK K
            (try simp only [Act.put, List.setIfInBounds_toArray, List.set_cons_zero, List.set_cons_succ])
            apply takeH (i := 13) rfl (by kernel_rfl) (by kernel_rfl) (by kernel_rfl) (fun _ _ _ h => h) (by rfl)
            case hy => (intro w hSw; (try dsimp only at hSw); go_simp; try with_reducible rfl)
            case hS => assumption
            (try simp only [Act.put, List.setIfInBounds_toArray, List.set_cons_zero, List.set_cons_succ])
            apply takeH (i := 14) rfl (by kernel_rfl) (by kernel_rfl) (by kernel_rfl) (fun _ _ _ h => h) (by rfl)
            case hy => (intro w hSw; (try dsimp only at hSw); go_simp; try with_reducible rfl)
            case hS => assumption
            (try simp only [Act.put, List.setIfInBounds_toArray, List.set_cons_zero, List.set_cons_succ])
            refine wpAnyH_done (by kernel_rfl) ?_ _
            have hBf := hBE.trans (hbF.mono hBE.size)
            go_wp2
            go_ret
            exact ⟨rfl, hBf⟩
        · go_simp
          have blk10 : Blk (wx4.alloc (.cells #[.string X] 9)) wx4.heap.size 9 #[.string X] := Blk.new _ _ _
          have hw4x10 := hwx4.alloc hwx4.size (.cells #[.string X] 9)
          have hne : wx4.heap.size ≠ g4 := by have := (World.ownsRow.lt own4 g4 rfl).2; omega
          have own4 : Own (wx4.alloc (.cells #[.string X] 9)) wE.heap.size (.slice (some ⟨g4, 0, none⟩) 0 0) [] := World.ownsRow.alloc own4 _
          obtain ⟨w4x10, hw4x10e⟩ : ∃ w4x10, wx4.alloc (.cells #[.string X] 9) = w4x10 := ⟨_, rfl⟩
          obtain ⟨g10, hg10⟩ : ∃ g10, wx4.heap.size = g10 := ⟨_, rfl⟩
          rw [hw4x10e] at blk10 hw4x10 ⊢
          rw [hg10] at blk10 ⊢
          rw [hw4x10e] at own4
          rw [hg10] at hne
          refine hK.out _ _ ?_ (fun hHeld10 => ?_)
          · (refine HKQ.out _ ?_; exact hw4x10)
          clear hK K
          (try simp only [Act.put, List.setIfInBounds_toArray, List.set_cons_zero, List.set_cons_succ])
          refine doH (i := 2) rfl (by kernel_rfl) (by rfl) (fun K hK => ?_)
          go_simp
          refine (HRW.out ox cx bx _ (hCE.below hw4x10)).mono ?_
          rintro e w410x2 ⟨rfl, hw410x2'⟩
          have hw410x2 : Below wE.heap.size wE w410x2 := hw4x10.trans (hw410x2'.mono hw4x10.size)
          have own4 := own4.below hw410x2'
          have blk10 := blk10.below hw410x2' blk10.lt
          go_wp2_with fail
          refine hK.out _ _ ?_ (fun hHeld2 => ?_)
          · (refine HKQ.out _ ?_; exact hw410x2)
          clear hK K
          (try simp only [Act.put, List.setIfInBounds_toArray, List.set_cons_zero, List.set_cons_succ])
          refine doH (i := 6) rfl (by kernel_rfl) (by rfl) (fun K hK => ?_)
          obtain ⟨v6, w4102x6, hr6, own6, hg6, _⟩ := append_strs own4 ol m capl HLL.out (hsE.below hw410x2) hnl (by simp; omega) hw410x2.size
          have hw4102x6 := own_below2 hw410x2 own4 (Nat.le_refl _) hg6
          have blk10 := blk10.grown hg6 (by simp [Value.ownBlock]; omega)
          obtain ⟨o6, c6, hv6, _⟩ := own6.formd
          rw [List.nil_append, HLL.out] at hv6
          rw [List.nil_append] at own6
          subst hv6
          refine Lib.wp_append_run _ _ _ 22 22 rfl _ _ rfl rfl _ _ hr6 ?_
          clear hr6
          refine hK.out _ _ ?_ (fun hHeld6 => ?_)
          · (refine HKQ.out _ ?_; exact hw4102x6)
          clear hK K
          (try simp only [Act.put, List.setIfInBounds_toArray, List.set_cons_zero, List.set_cons_succ])
          refine doH (i := 11) rfl (by kernel_rfl) (by rfl) (fun K hK => ?_)
          obtain ⟨v11, w41026x11, hr11, own11, hg11, _⟩ := append_strs own6 (some ⟨g10, 0, none⟩) 1 1 (ts := [X]) rfl (by
            intro i hi
            have hi1 : i < 1 := hi
            obtain rfl : i = 0 := by omega
            exact ⟨_, rfl, blk10.lt, blk10.cell 0⟩) (fun h => by cases h) (by rw [HLL.out]; omega) hw4102x6.size
          have hw41026x11 := own_below2 hw4102x6 own6 (Nat.le_refl _) hg11
          obtain ⟨o11, c11, hv11, hs11, hc11, _⟩ := own11.formd
          rw [HLX.out] at hv11 hc11
          subst hv11
          refine Lib.wp_append_run _ _ _ 22 22 rfl _ _ rfl rfl _ _ hr11 ?_
          clear hr11
          refine hK.out _ _ ?_ (fun hHeld11 => ?_)
          · (refine HKQ.out _ ?_; exact hw41026x11)
          clear hK K
          (try simp only [Act.put, List.setIfInBounds_toArray, List.set_cons_zero, List.set_cons_succ])
          refine doH (i := 12) rfl (by kernel_rfl) (by rfl) (fun K hK => ?_)
          go_simp
          refine (HMR.out o11 c11 hc11 _ hs11).mono ?_
          rintro e wF ⟨rfl, hbF'⟩
          have hbF : Below wE.heap.size wE wF := hw41026x11.trans (hbF'.mono hw41026x11.size)
          go_wp2_with fail
          refine hK.out _ _ ?_ (fun hHeld12 => ?_)
          · (refine HKQ.out _ ?_; exact hbF)
          clear hK K
          (try simp only [Act.put, List.setIfInBounds_toArray, List.set_cons_zero, List.set_cons_succ])
          apply takeH (i := 13) rfl (by kernel_rfl) (by kernel_rfl) (by kernel_rfl) (fun _ _ _ h => h) (by rfl)
          case hy => (intro w hSw; (try dsimp only at hSw); go_simp; try with_reducible rfl)
          case hS => assumption
          (try simp only [Act.put, List.setIfInBounds_toArray, List.set_cons_zero, List.set_cons_succ])
          apply takeH (i := 14) rfl (by kernel_rfl) (by kernel_rfl) (by kernel_rfl) (fun _ _ _ h => h) (by rfl)
          case hy => (intro w hSw; (try dsimp only at hSw); go_simp; try with_reducible rfl)
          case hS => assumption
          (try simp only [Act.put, List.setIfInBounds_toArray, List.set_cons_zero, List.set_cons_succ])
          refine wpAnyH_done (by kernel_rfl) ?_ _
          have hBf := hBE.trans (hbF.mono hBE.size)
          go_wp2
          go_ret
          exact ⟨rfl, hBf⟩
      · go_simp
        have blk10 : Blk (wd.alloc (.cells #[.string X] 9)) wd.heap.size 9 #[.string X] := Blk.new _ _ _
        have hwx10 := hb0.alloc hb0.size (.cells #[.string X] 9)
        obtain ⟨wx10, hwx10e⟩ : ∃ wx10, wd.alloc (.cells #[.string X] 9) = wx10 := ⟨_, rfl⟩
        obtain ⟨g10, hg10⟩ : ∃ g10, wd.heap.size = g10 := ⟨_, rfl⟩
        rw [hwx10e] at blk10 hwx10 ⊢
        rw [hg10] at blk10 ⊢
        refine hK.out _ _ ?_ (fun hHeld10 => ?_)
        · (refine HKQ.out _ ?_; exact hwx10)
        clear hK K
        (try simp only [Act.put, List.setIfInBounds_toArray, List.set_cons_zero, List.set_cons_succ])
        refine doH2 (i := 2) (j := 4) rfl rfl (by kernel_rfl) (by rfl) (by rfl) (fun K hK => ?_) (fun K hK => ?_)
        · go_simp
          refine (HRW.out ox cx bx _ (hCE.below hwx10)).mono ?_
          rintro e w10x2 ⟨rfl, hw10x2'⟩
          have hw10x2 : Below wE.heap.size wE w10x2 := hwx10.trans (hw10x2'.mono hwx10.size)
          have blk10 := blk10.below hw10x2' blk10.lt
          go_wp2_with fail
          refine hK.out _ _ ?_ (fun hHeld2 => ?_)
          · (refine HKQ.out _ ?_; exact hw10x2)
          clear hK K
          (try simp only [Act.put, List.setIfInBounds_toArray, List.set_cons_zero, List.set_cons_succ])
          refine doH (i := 4) rfl (by kernel_rfl) (by rfl) (fun K hK => ?_)
          go_simp
          have own4 : Own (w10x2.alloc (.cells #[] 9)) wE.heap.size (.slice (some ⟨w10x2.heap.size, 0, none⟩) 0 0) [] := World.ownsRow_made w10x2 #[] 0 hw10x2.size (by unfold maxLen; omega) rfl
          have hw102x4 := hw10x2.alloc hw10x2.size (.cells #[] 9)
          have hne : g10 ≠ w10x2.heap.size := by have := blk10.lt; omega
          have blk10 := blk10.alloc (.cells #[] 9)
          obtain ⟨w102x4, hw102x4e⟩ : ∃ w102x4, w10x2.alloc (.cells #[] 9) = w102x4 := ⟨_, rfl⟩
          obtain ⟨g4, hg4⟩ : ∃ g4, w10x2.heap.size = g4 := ⟨_, rfl⟩
          rw [hw102x4e] at own4 hw102x4 ⊢
          rw [hg4] at own4 ⊢
          rw [hw102x4e] at blk10
          rw [hg4] at hne
          refine hK.out _ _ ?_ (fun hHeld4 => ?_)
          · (refine HKQ.out _ ?_; exact hw102x4)
          clear hK K
          (try simp only [Act.put, List.setIfInBounds_toArray, List.set_cons_zero, List.set_cons_succ])
          refine doH (i := 6) rfl (by kernel_rfl) (by rfl) (fun K hK => ?_)
          obtain ⟨v6, w1024x6, hr6, own6, hg6, _⟩ := append_strs own4 ol m capl HLL.out (hsE.below hw102x4) hnl (by simp; omega) hw102x4.size
          have hw1024x6 := own_below2 hw102x4 own4 (Nat.le_refl _) hg6
          have blk10 := blk10.grown hg6 (by simp [Value.ownBlock]; omega)
          obtain ⟨o6, c6, hv6, _⟩ := own6.formd
          rw [List.nil_append, HLL.out] at hv6
          rw [List.nil_append] at own6
          subst hv6
          refine Lib.wp_append_run _ _ _ 22 22 rfl _ _ rfl rfl _ _ hr6 ?_
          clear hr6
          refine hK.out _ _ ?_ (fun hHeld6 => ?_)
          · (refine HKQ.out _ ?_; exact hw1024x6)
          clear hK K
          (try simp only [Act.put, List.setIfInBounds_toArray, List.set_cons_zero, List.set_cons_succ])
          refine doH (i := 11) rfl (by kernel_rfl) (by rfl) (fun K hK => ?_)
          obtain ⟨v11, w10246x11, hr11, own11, hg11, _⟩ := append_strs own6 (some ⟨g10, 0, none⟩) 1 1 (ts := [X]) rfl (by
            intro i hi
            have hi1 : i < 1 := hi
            obtain rfl : i = 0 := by omega
            exact ⟨_, rfl, blk10.lt, blk10.cell 0⟩) (fun h => by cases h) (by rw [HLL.out]; omega) hw1024x6.size
          have hw10246x11 := own_below2 hw1024x6 own6 (Nat.le_refl _) hg11
          obtain ⟨o11, c11, hv11, hs11, hc11, _⟩ := own11.formd
          rw [HLX.out] at hv11 hc11
          subst hv11
          refine Lib.wp_append_run _ _ _ 22 22 rfl _ _ rfl rfl _ _ hr11 ?_
          clear hr11
          refine hK.out _ _ ?_ (fun hHeld11 => ?_)
          · (refine HKQ.out _ ?_; exact hw10246x11)
          clear hK K
          (try simp only [Act.put, List.setIfInBounds_toArray, List.set_cons_zero, List.set_cons_succ])
          refine doH (i := 12) rfl (by kernel_rfl) (by rfl) (fun K hK => ?_)
          go_simp
          refine (HMR.out o11 c11 hc11 _ hs11).mono ?_
          rintro e wF ⟨rfl, hbF'⟩
          have hbF : Below wE.heap.size wE wF := hw10246x11.trans (hbF'.mono hw10246x11.size)
          go_wp2_with fail
          refine hK.out _ _ ?_ (fun hHeld12 => ?_)
          · (refine HKQ.out _ ?_; exact hbF)
          clear hK K
          (try simp only [Act.put, List.setIfInBounds_toArray, List.set_cons_zero, List.set_cons_succ])
          apply takeH (i := 13) rfl (by kernel_rfl) (by kernel_rfl) (by kernel_rfl) (fun _ _ _ h => h) (by rfl)
          case hy => (intro w hSw; (try dsimp only at hSw); go_simp; try with_reducible rfl)
          case hS => assumption
          (try simp only [Act.put, List.setIfInBounds_toArray, List.set_cons_zero, List.set_cons_succ])
          apply takeH (i := 14) rfl (by kernel_rfl) (by kernel_rfl) (by kernel_rfl) (fun _ _ _ h => h) (by rfl)
          case hy => (intro w hSw; (try dsimp only at hSw); go_simp; try with_reducible rfl)
          case hS => assumption
          (try simp only [Act.put, List.setIfInBounds_toArray, List.set_cons_zero, List.set_cons_succ])
          refine wpAnyH_done (by kernel_rfl) ?_ _
          have hBf := hBE.trans (hbF.mono hBE.size)
          go_wp2
          go_ret
          exact ⟨rfl, hBf⟩
        · go_simp
          have own4 : Own (wx10.alloc (.cells #[] 9)) wE.heap.size (.slice (some ⟨wx10.heap.size, 0, none⟩) 0 0) [] := World.ownsRow_made wx10 #[] 0 hwx10.size (by unfold maxLen; omega) rfl
          have hw10x4 := hwx10.alloc hwx10.size (.cells #[] 9)
          have hne : g10 ≠ wx10.heap.size := by have := blk10.lt; omega
          have blk10 := blk10.alloc (.cells #[] 9)
          obtain ⟨w10x4, hw10x4e⟩ : ∃ w10x4, wx10.alloc (.cells #[] 9) = w10x4 := ⟨_, rfl⟩
          obtain ⟨g4, hg4⟩ : ∃ g4, wx10.heap.size = g4 := ⟨_, rfl⟩
          rw [hw10x4e] at own4 hw10x4 ⊢
          rw [hg4] at own4 ⊢
          rw [hw10x4e] at blk10
          rw [hg4] at hne
          refine hK.out _ _ ?_ (fun hHeld4 => ?_)
          · (refine HKQ.out _ ?_; exact hw10x4)
          clear hK K
          (try simp only [Act.put, List.setIfInBounds_toArray, List.set_cons_zero, List.set_cons_succ])
          refine doH (i := 2) rfl (by kernel_rfl) (by rfl) (fun K hK => ?_)
          go_simp
          refine (HRW.out ox cx bx _ (hCE.below hw10x4)).mono ?_
          rintro e w104x2 ⟨rfl, hw104x2'⟩
          have hw104x2 : Below wE.heap.size wE w104x2 := hw10x4.trans (hw104x2'.mono hw10x4.size)
          have own4 := own4.below hw104x2'
          have blk10 := blk10.below hw104x2' blk10.lt
          go_wp2_with fail
          refine hK.out _ _ ?_ (fun hHeld2 => ?_)
          · (refine HKQ.out _ ?_; exact hw104x2)
          clear hK K
          (try simp only [Act.put, List.setIfInBounds_toArray, List.set_cons_zero, List.set_cons_succ])
          refine doH (i := 6) rfl (by kernel_rfl) (by rfl) (fun K hK => ?_)
          obtain ⟨v6, w1042x6, hr6, own6, hg6, _⟩ := append_strs own4 ol m capl HLL.out (hsE.below hw104x2) hnl (by simp; omega) hw104x2.size
          have hw1042x6 := own_below2 hw104x2 own4 (Nat.le_refl _) hg6
          have blk10 := blk10.grown hg6 (by simp [Value.ownBlock]; omega)
          obtain ⟨o6, c6, hv6, _⟩ := own6.formd
          rw [List.nil_append, HLL.out] at hv6
          rw [List.nil_append] at own6
          subst hv6
          refine Lib.wp_append_run _ _ _ 22 22 rfl _ _ rfl rfl _ _ hr6 ?_
          clear hr6
          refine hK.out _ _ ?_ (fun hHeld6 => ?_)
          · (refine HKQ.out _ ?_; exact hw1042x6)
          clear hK K
          (try simp only [Act.put, List.setIfInBounds_toArray, List.set_cons_zero, List.set_cons_succ])
          refine doH (i := 11) rfl (by kernel_rfl) (by rfl) (fun K hK => ?_)
          obtain ⟨v11, w10426x11, hr11, own11, hg11, _⟩ := append_strs own6 (some ⟨g10, 0, none⟩) 1 1 (ts := [X]) rfl (by
            intro i hi
            have hi1 : i < 1 := hi
            obtain rfl : i = 0 := by omega
            exact ⟨_, rfl, blk10.lt, blk10.cell 0⟩) (fun h => by cases h) (by rw [HLL.out]; omega) hw1042x6.size
          have hw10426x11 := own_below2 hw1042x6 own6 (Nat.le_refl _) hg11
          obtain ⟨o11, c11, hv11, hs11, hc11, _⟩ := own11.formd
          rw [HLX.out] at hv11 hc11
          subst hv11
          refine Lib.wp_append_run _ _ _ 22 22 rfl _ _ rfl rfl _ _ hr11 ?_
          clear hr11
          refine hK.out _ _ ?_ (fun hHeld11 => ?_)
          · (refine HKQ.out _ ?_; exact hw10426x11)
          clear hK K
          (try simp only [Act.put, List.setIfInBounds_toArray, List.set_cons_zero, List.set_cons_succ])
          refine doH (i := 12) rfl (by kernel_rfl) (by rfl) (fun K hK => ?_)
          go_simp
          refine (HMR.out o11 c11 hc11 _ hs11).mono ?_
          rintro e wF ⟨rfl, hbF'⟩
          have hbF : Below wE.heap.size wE wF := hw10426x11.trans (hbF'.mono hw10426x11.size)
          go_wp2_with fail
          refine hK.out _ _ ?_ (fun hHeld12 => ?_)
          · (refine HKQ.out _ ?_; exact hbF)
          clear hK K
          (try simp only [Act.put, List.setIfInBounds_toArray, List.set_cons_zero, List.set_cons_succ])
          apply takeH (i := 13) rfl (by kernel_rfl) (by kernel_rfl) (by kernel_rfl) (fun _ _ _ h => h) (by rfl)
          case hy => (intro w hSw; (try dsimp only at hSw); go_simp; try with_reducible rfl)
          case hS => assumption
          (try simp only [Act.put, List.setIfInBounds_toArray, List.set_cons_zero, List.set_cons_succ])
          apply takeH (i := 14) rfl (by kernel_rfl) (by kernel_rfl) (by kernel_rfl) (fun _ _ _ h => h) (by rfl)
          case hy => (intro w hSw; (try dsimp only at hSw); go_simp; try with_reducible rfl)
          case hS => assumption
          (try simp only [Act.put, List.setIfInBounds_toArray, List.set_cons_zero, List.set_cons_succ])
          refine wpAnyH_done (by kernel_rfl) ?_ _
          have hBf := hBE.trans (hbF.mono hBE.size)
          go_wp2
          go_ret
          exact ⟨rfl, hBf⟩
  · rw [Bool.not_eq_true] at hfew
    rw [hfew]
    clear hfew
    go_wp2_with fail
    refine (HA.out _).mono ?_
    rintro e w4 ⟨rfl, hb4⟩
    have hB4 := hB3.trans (hb4.mono hB3.size)
    clear hB3 hb4
    go_wp2
    go_ret
    exact ⟨rfl, hB4⟩
end
end Go.Proofs.Ytmokkahkfmmnmaa

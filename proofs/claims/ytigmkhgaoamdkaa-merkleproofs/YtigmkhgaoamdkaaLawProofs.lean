/-
  The walk of the law MerkleProofs.
-/
import Derived.Test.YtigmkhgaoamdkaaLawChain
import Derived.Test.YtigmkhgaoamdkaaMRefC
import Derived.Test.YtigmkhgaoamdkaaRSame
import Derived.Test.YtigmkhgaoamdkaaHStep
namespace Go.Proofs.Ytigmkhgaoamdkaa
open Go.RowKit

section
attribute [-go_sem] loadVar
set_option maxRecDepth 100000 in
set_option maxHeartbeats 16000000 in
theorem law_proofs (oa : Option Addr) (m cap : Nat) (ss : List ByteArray) (hm : ss.length = m) (hm2 : m ≤ 9223372036854775807) (hsz : ∀ s ∈ ss, s.size ≤ 9223372036854775807) (_hcap : m ≤ cap)
    (i q : Int) (w : World) (hc : Strs w oa ss) :
    Calls Try.prog 5 #[.slice oa m cap, .int .i64 i, .int .i64 q] w fun e w' => e = .returned (.bool true) ∧ Below w.heap.size w w' := by
  have HA := Lib.hid (fun W => awake4_any W)
  have HMK := Lib.hid (fun W => make_std W)
  have HF : Hid (∀ W, Strs W oa ss → Calls Try.prog 9 #[.slice oa m cap, .int .i64 64, .int .i64 100] W fun e w' => e = .returned (.bool (fewM ss 64 100)) ∧ w' = W) := Lib.hid (fun W hW => few_any oa m cap ss hm hm2 hsz 64 100 W hW)
  have HFT := Lib.hid (show fewM ss 64 100 = true → m ≤ 64 ∧ Sz ss from fun h => by rw [← hm]; exact few_sz (by decide) (by decide) h)
  have HM := Lib.hid hm
  have HC := Lib.hid hc
  have z1 := zeroTable
  clear hsz hc hm
  go_enter Try.func5, Try.ntmps5
  go_wp2_with fail
  refine (HA.out _).mono ?_
  rintro e w3 ⟨rfl, hB3⟩
  have hc3 := HC.out.below hB3
  clear HC
  go_wp2_with fail
  refine (HF.out _ hc3).mono ?_
  rintro e w' ⟨rfl, hw⟩
  rw [hw]
  clear hw
  by_cases hfew : fewM ss 64 100 = true
  · obtain ⟨hm64, hz⟩ := HFT.out hfew
    rw [hfew]
    clear hfew
    have HLV := Lib.hid (fun W hW => rleaves_any oa m cap ss HM.out (by omega) hz W hW)
    have hzl := sz_leaves ss
    have HLL := Lib.hid (show (ss.map leafM).length = m by rw [List.length_map]; exact HM.out)
    have HL0 := Lib.hid (show 0 < m → (ss.map leafM).getD 0 ByteArray.empty = leafM (ss.getD 0 ByteArray.empty) from fun h => by
      have h1 : 0 < ss.length := by have := HM.out; omega
      rw [List.getD_eq_getElem?_getD, List.getD_eq_getElem?_getD, List.getElem?_map, List.getElem?_eq_getElem h1]; rfl)
    generalize ss.map leafM = L at *
    go_wp2_with fail
    refine (HMK.out _).mono ?_
    rintro e w4 ⟨rfl, hb4⟩
    have hc4 := hc3.below hb4
    have hB4 := hB3.trans (hb4.mono hB3.size)
    clear hB3 hb4 hc3
    have hB5 := hB4.alloc hB4.size (.cells tabV 30)
    have hT5 : Blk (w4.alloc (.cells tabV 30)) w4.heap.size 30 tabV := Blk.new _ _ _
    have hc5 := hc4.below ((Below.refl _ w4).alloc (Nat.le_refl _) (.cells tabV 30))
    go_wp2_with (refine wpList_store_row rfl 30 _ _ rfl w4.heap.size tabV rfl rfl 30 zero72 (Blk.new _ _ _) (by rw [tabV_size]; exact infoTable) (by kernel_rfl) (by kernel_rfl) ?_; rw [World.setRow_alloc_new])
    generalize w4.alloc (.cells tabV 30) = w5 at *
    generalize w4.heap.size = gt at *
    clear hB4 hc4 z1
    refine (HLV.out _ hc5).mono ?_
    rintro e w6 ⟨v, rfl, hown, hb6⟩
    obtain ⟨ob, capl, hv, hs6, hcl⟩ := hown.formc
    rw [HLL.out] at hv hcl
    subst hv
    have hB6 := hB5.trans (hb6.mono hB5.size)
    have hT6 := hT5.below hb6 hT5.lt
    have hc6 := hc5.below hb6
    clear hown hb6 hB5 hT5 hc5 HLV
    have HR1 := Lib.hid (fun W hW => mroot_any m ob capl L HLL.out (by omega) hcl hzl W hW)
    have HR2 := Lib.hid (fun W hW => rroot_any m ob capl L HLL.out (by omega) hcl hzl W hW)
    obtain ⟨RL, hRL⟩ : ∃ RL, rootM L = RL := ⟨_, rfl⟩
    rw [hRL] at HR1 HR2
    have HRR := Lib.hid hRL
    clear hRL
    by_cases hpos : 0 < m
    · have hpos' : (0 : Int) < (m : Int) := by omega
      obtain ⟨a, rfl, hab6, hca⟩ := hc6 0 (by have := HM.out; omega)
      obtain ⟨b, hob, hbb6, hcb⟩ := hs6 0 (by have := HLL.out; omega)
      subst hob
      rw [HL0.out hpos, show b.add 0 = b from rfl] at hcb
      rw [show a.add 0 = a from rfl] at hca
      have HLF := Lib.hid (fun W => mleaf_any (ss.getD 0 ByteArray.empty) (hz.get 0) W)
      generalize ss.getD 0 ByteArray.empty = x at *
      clear hc6 HL0
      have HKP6 : Hid (∀ W, Below w6.heap.size w6 W → ((loadVar 30 ⟨gt, 0, none⟩).run Try.prog W = .ok (.agg tabV) W ∧ (loadVar 9 a).run Try.prog W = .ok (.string x) W ∧ (loadVar 9 b).run Try.prog W = .ok (.string (leafM x)) W) ∧ Below w6.heap.size w6 W) := Lib.hid fun W hW => ⟨⟨tab_run (hT6.below hW hT6.lt), txt_load ((hW.cell hab6).trans hca), txt_load ((hW.cell hbb6).trans hcb)⟩, hW⟩
      have HS6 := Lib.hid hs6
      have HT6 := Lib.hid hT6
      have HB6 := Lib.hid hB6
      clear hs6 hT6 hB6 hca hcb hab6 hbb6
      go_wp2
      go_region_held3 (fun W => ((loadVar 30 ⟨gt, 0, none⟩).run Try.prog W = .ok (.agg tabV) W ∧ (loadVar 9 a).run Try.prog W = .ok (.string x) W ∧ (loadVar 9 b).run Try.prog W = .ok (.string (leafM x)) W) ∧ Below w6.heap.size w6 W)
        ((refine HKP6.out _ ?_; first | exact hE3 | exact hE2 | exact hE1 | exact (Below.refl _ _).drew | exact Below.refl _ _))
        (first
          | (have := hE2; go_at_call 19; refine (HR2.out _ (HS6.out.below hE2)).mono ?_; rintro e w9 ⟨rfl, hy3⟩; have hE3 : Below w6.heap.size w6 w9 := hE2.trans (hy3.mono hE2.size))
          | (have := hE1; go_at_call 14; refine (HR1.out _ (HS6.out.below hE1)).mono ?_; rintro e w8 ⟨rfl, hy2⟩; have hE2 : Below w6.heap.size w6 w8 := hE1.trans (hy2.mono hE1.size))
          | (go_at_call 18; refine (HLF.out _).mono ?_; rintro e w7 ⟨rfl, hy1⟩; have hE1 : Below w6.heap.size w6 w7 := (Below.refl _ _).drew.trans hy1))
      have hs9 := HS6.out.below hE3
      have hT9 := HT6.out.below hE3 HT6.out.lt
      have hB9 := HB6.out.trans (hE3.mono HB6.out.size)
      rename_i hHeld
      clear hHeld hE3 hE2 hE1 hy1 hy2 hy3 HKP6 HS6 HT6 HB6
      have hR9 := tab_run hT9
      go_wp2_with fail
      refine (HR1.out _ hs9).mono ?_
      rintro e w10 ⟨rfl, hb10⟩
      have hs10 := hs9.below hb10
      have hT10 := hT9.below hb10 hT9.lt
      have hB10 := hB9.trans (hb10.mono hB9.size)
      have hR10 := tab_run hT10
      clear hs9 hT9 hB9 hb10 hR9
      by_cases hi : i < 0 ∨ (m : Int) ≤ i
      · have HIO := Lib.hid (fun W => inclusion_out i (some b) m capl hi W)
        go_wp2_with fail
        refine (HIO.out _).mono ?_
        rintro e wr ⟨rfl, hb11⟩
        have hs := hs10.below hb11
        have hT := hT10.below hb11 hT10.lt
        have hB := hB10.trans (hb11.mono hB10.size)
        clear hs10 hT10 hB10 hb11 hR10 HIO
        by_cases hi1 : i < 0
        · clear hi
          have hR := tab_run hT
          by_cases hq : q < 1 ∨ (m : Int) < q
          · have HCO := Lib.hid (fun W => consistency_out q (some b) m capl hq W)
            go_wp2_with fail
            refine (HCO.out _).mono ?_
            rintro e wx ⟨rfl, hbx⟩
            have hBx := hB.trans (hbx.mono hB.size)
            clear hB hbx hR hT hs
            by_cases hq1 : q < 1
            · go_wp2
              go_ret
              exact ⟨rfl, hBx⟩
            · have hq2 : (m : Int) < q := by omega
              go_wp2
              go_ret
              exact ⟨rfl, hBx⟩
          · obtain ⟨z, rfl⟩ : ∃ z : Nat, q = z := ⟨q.toNat, by omega⟩
            have hz1 : ¬ (z : Int) < 1 := by omega
            have hz2 : ¬ (m : Int) < (z : Int) := by omega
            have HCI := Lib.hid (fun W hW => consistency_in z (some b) m capl L HLL.out (by omega) hcl (by omega) (by omega) hzl W hW)
            have HRC := Lib.hid (fun W hW => rcon_any m (some b) capl z true L HLL.out (by omega) (by omega) hcl (by omega) (by omega) hzl W hW)
            have HRT1 := Lib.hid (fun W hW => mroot_any z (some b) capl (L.take z) (by rw [List.length_take, HLL.out]; omega) (by omega) (by omega) (hzl.take _) W hW)
            have HCW := Lib.hid (fun oc pl pcap hq hcp W hW => consistent_own L z m oc pl pcap HLL.out (by omega) (by omega) (by omega) hzl hq hcp W hW)
            have HSM := Lib.hid (fun oc od pl pcap dcap hq hp W h1 h2 => rsame_eq oc od pl pcap dcap (conM L z true) hq hp W h1 h2)
            have hsl := slice_to (some b) m capl z (by omega)
            have HPL := Lib.hid (show (conM L z true).length ≤ 65 by rw [conM_length, HLL.out]; have := lenM_le m z true; omega)
            rw [HRR.out] at HCW
            generalize conM L z true = P at *
            generalize rootM (L.take z) = R1 at *
            have HS1 := Lib.hid (hs.take z)
            generalize L.take z = L1 at *
            clear hq
            go_wp2_with fail
            refine (HCI.out _ hs).mono ?_
            rintro e wx ⟨v, rfl, hown, hbx⟩
            obtain ⟨oc, capp, hv, hpx, hcp⟩ := hown.formc
            obtain ⟨d, hd⟩ : ∃ d, P.length = d := ⟨_, rfl⟩
            rw [hd] at hv hcp
            subst hv
            have HD := Lib.hid hd
            have hpl : d ≤ 65 := by have := HPL.out; omega
            have HCW1 := Lib.hid (fun W hW => HCW.out oc d capp hd hcp W hW)
            have HSM1 := Lib.hid (fun od dcap W h1 h2 => HSM.out oc od d capp dcap hd (by omega) W h1 h2)
            clear hd
            have HPX := Lib.hid hpx
            have HSX := Lib.hid (hs.below hbx)
            have HS1X := Lib.hid (HS1.out.below hbx)
            have hTX := hT.below hbx hT.lt
            have HBX := Lib.hid (hB.trans (hbx.mono hB.size))
            have HKPX : Hid (∀ W, Below wx.heap.size wx W → (loadVar 30 ⟨gt, 0, none⟩).run Try.prog W = .ok (.agg tabV) W ∧ Below wx.heap.size wx W) := Lib.hid fun W hW => ⟨tab_run (hTX.below hW hTX.lt), hW⟩
            clear hown hpx hbx hs hT hB hR hTX HCI HCW HSM HS1
            go_wp2
            go_region_held3 (fun w' => (loadVar 30 ⟨gt, 0, none⟩).run Try.prog w' = .ok (.agg tabV) w' ∧ Below wx.heap.size wx w')
              ((refine HKPX.out _ ?_; first | exact hE4 | exact hE3 | exact hE2 | exact hE1 | exact (Below.refl _ _).drew | exact Below.refl _ _))
              (first
                | (have := hE3; go_at_call 13; refine (HCW1.out _ (HPX.out.below hE3)).mono ?_; rintro e y4 ⟨rfl, hy4⟩; have hE4 : Below wx.heap.size wx y4 := hE3.trans (hy4.mono hE3.size))
                | (have := hE2; go_at_call 14; refine (HRT1.out _ (HS1X.out.below hE2)).mono ?_; rintro e y3 ⟨rfl, hy3⟩; have hE3 : Below wx.heap.size wx y3 := hE2.trans (hy3.mono hE2.size))
                | (have := hE1; go_at_call 20; refine (HSM1.out od capd _ (HPX.out.below hE1) hst2).mono ?_; rintro e y2 ⟨rfl, hy2⟩; have hE2 : Below wx.heap.size wx y2 := hE1.trans (hy2.mono hE1.size))
                | (go_at_call 22; refine (HRC.out _ (HSX.out.below (Below.refl _ _).drew)).mono ?_; rintro e y1 ⟨v2, rfl, hown2, hy1⟩; obtain ⟨od, capd, hv2, hst2, hcd⟩ := hown2.formc; rw [HD.out] at hv2; subst hv2; have hE1 : Below wx.heap.size wx y1 := (Below.refl _ _).drew.trans hy1))
            have hBE := HBX.out.trans (hE4.mono HBX.out.size)
            go_wp2
            go_ret
            exact ⟨rfl, hBE⟩
        · have hi2 : (m : Int) ≤ i := by omega
          clear hi
          have hR := tab_run hT
          by_cases hq : q < 1 ∨ (m : Int) < q
          · have HCO := Lib.hid (fun W => consistency_out q (some b) m capl hq W)
            go_wp2_with fail
            refine (HCO.out _).mono ?_
            rintro e wx ⟨rfl, hbx⟩
            have hBx := hB.trans (hbx.mono hB.size)
            clear hB hbx hR hT hs
            by_cases hq1 : q < 1
            · go_wp2
              go_ret
              exact ⟨rfl, hBx⟩
            · have hq2 : (m : Int) < q := by omega
              go_wp2
              go_ret
              exact ⟨rfl, hBx⟩
          · obtain ⟨z, rfl⟩ : ∃ z : Nat, q = z := ⟨q.toNat, by omega⟩
            have hz1 : ¬ (z : Int) < 1 := by omega
            have hz2 : ¬ (m : Int) < (z : Int) := by omega
            have HCI := Lib.hid (fun W hW => consistency_in z (some b) m capl L HLL.out (by omega) hcl (by omega) (by omega) hzl W hW)
            have HRC := Lib.hid (fun W hW => rcon_any m (some b) capl z true L HLL.out (by omega) (by omega) hcl (by omega) (by omega) hzl W hW)
            have HRT1 := Lib.hid (fun W hW => mroot_any z (some b) capl (L.take z) (by rw [List.length_take, HLL.out]; omega) (by omega) (by omega) (hzl.take _) W hW)
            have HCW := Lib.hid (fun oc pl pcap hq hcp W hW => consistent_own L z m oc pl pcap HLL.out (by omega) (by omega) (by omega) hzl hq hcp W hW)
            have HSM := Lib.hid (fun oc od pl pcap dcap hq hp W h1 h2 => rsame_eq oc od pl pcap dcap (conM L z true) hq hp W h1 h2)
            have hsl := slice_to (some b) m capl z (by omega)
            have HPL := Lib.hid (show (conM L z true).length ≤ 65 by rw [conM_length, HLL.out]; have := lenM_le m z true; omega)
            rw [HRR.out] at HCW
            generalize conM L z true = P at *
            generalize rootM (L.take z) = R1 at *
            have HS1 := Lib.hid (hs.take z)
            generalize L.take z = L1 at *
            clear hq
            go_wp2_with fail
            refine (HCI.out _ hs).mono ?_
            rintro e wx ⟨v, rfl, hown, hbx⟩
            obtain ⟨oc, capp, hv, hpx, hcp⟩ := hown.formc
            obtain ⟨d, hd⟩ : ∃ d, P.length = d := ⟨_, rfl⟩
            rw [hd] at hv hcp
            subst hv
            have HD := Lib.hid hd
            have hpl : d ≤ 65 := by have := HPL.out; omega
            have HCW1 := Lib.hid (fun W hW => HCW.out oc d capp hd hcp W hW)
            have HSM1 := Lib.hid (fun od dcap W h1 h2 => HSM.out oc od d capp dcap hd (by omega) W h1 h2)
            clear hd
            have HPX := Lib.hid hpx
            have HSX := Lib.hid (hs.below hbx)
            have HS1X := Lib.hid (HS1.out.below hbx)
            have hTX := hT.below hbx hT.lt
            have HBX := Lib.hid (hB.trans (hbx.mono hB.size))
            have HKPX : Hid (∀ W, Below wx.heap.size wx W → (loadVar 30 ⟨gt, 0, none⟩).run Try.prog W = .ok (.agg tabV) W ∧ Below wx.heap.size wx W) := Lib.hid fun W hW => ⟨tab_run (hTX.below hW hTX.lt), hW⟩
            clear hown hpx hbx hs hT hB hR hTX HCI HCW HSM HS1
            go_wp2
            go_region_held3 (fun w' => (loadVar 30 ⟨gt, 0, none⟩).run Try.prog w' = .ok (.agg tabV) w' ∧ Below wx.heap.size wx w')
              ((refine HKPX.out _ ?_; first | exact hE4 | exact hE3 | exact hE2 | exact hE1 | exact (Below.refl _ _).drew | exact Below.refl _ _))
              (first
                | (have := hE3; go_at_call 13; refine (HCW1.out _ (HPX.out.below hE3)).mono ?_; rintro e y4 ⟨rfl, hy4⟩; have hE4 : Below wx.heap.size wx y4 := hE3.trans (hy4.mono hE3.size))
                | (have := hE2; go_at_call 14; refine (HRT1.out _ (HS1X.out.below hE2)).mono ?_; rintro e y3 ⟨rfl, hy3⟩; have hE3 : Below wx.heap.size wx y3 := hE2.trans (hy3.mono hE2.size))
                | (have := hE1; go_at_call 20; refine (HSM1.out od capd _ (HPX.out.below hE1) hst2).mono ?_; rintro e y2 ⟨rfl, hy2⟩; have hE2 : Below wx.heap.size wx y2 := hE1.trans (hy2.mono hE1.size))
                | (go_at_call 22; refine (HRC.out _ (HSX.out.below (Below.refl _ _).drew)).mono ?_; rintro e y1 ⟨v2, rfl, hown2, hy1⟩; obtain ⟨od, capd, hv2, hst2, hcd⟩ := hown2.formc; rw [HD.out] at hv2; subst hv2; have hE1 : Below wx.heap.size wx y1 := (Below.refl _ _).drew.trans hy1))
            have hBE := HBX.out.trans (hE4.mono HBX.out.size)
            go_wp2
            go_ret
            exact ⟨rfl, hBE⟩
      · obtain ⟨k, rfl⟩ : ∃ k : Nat, i = k := ⟨i.toNat, by omega⟩
        have hi1 : ¬ (k : Int) < 0 := by omega
        have hi2 : ¬ (m : Int) ≤ (k : Int) := by omega
        have hkm : k < m := by omega
        have hk0 : (0 : Int) ≤ (k : Int) := by omega
        have hk1 : (k : Int) < (m : Int) := by omega
        have HIN := Lib.hid (fun W hW => inclusion_in k (some b) m capl L HLL.out (by omega) hcl hkm hzl W hW)
        have HRI := Lib.hid (fun W hW => rinc_any m (some b) capl k L HLL.out (by omega) (by omega) hcl hkm hzl W hW)
        have HIW := Lib.hid (fun oc pl pcap hq hcp W hW => included_own L k m oc pl pcap HLL.out hkm (by omega) hzl hq hcp W hW)
        have HSI := Lib.hid (fun oc od pl pcap dcap hq hp W h1 h2 => rsame_eq oc od pl pcap dcap (incM L k) hq hp W h1 h2)
        have HPI := Lib.hid (show (incM L k).length ≤ 64 by rw [incM_length, HLL.out]; have := depM_lt m k; omega)
        rw [HRR.out] at HIW
        generalize incM L k = P at *
        obtain ⟨bk, hbk, hkb, hkc⟩ := hs10 k (by rw [HLL.out]; exact hkm)
        obtain rfl : b = bk := by injection hbk
        generalize L.getD k ByteArray.empty = xk at *
        clear hi hbk
        go_wp2_with fail
        refine (HIN.out _ hs10).mono ?_
        rintro e w11 ⟨v, rfl, hown, hb11⟩
        obtain ⟨oc, capp, hv, hp11, hcp⟩ := hown.formc
        obtain ⟨d, hd⟩ : ∃ d, P.length = d := ⟨_, rfl⟩
        rw [hd] at hv hcp
        subst hv
        have HD := Lib.hid hd
        have hpl : d ≤ 64 := by have := HPI.out; omega
        have HIW1 := Lib.hid (fun W hW => HIW.out oc d capp hd hcp W hW)
        have HSI1 := Lib.hid (fun od dcap W h1 h2 => HSI.out oc od d capp dcap hd (by omega) W h1 h2)
        clear hd
        have HP11 := Lib.hid hp11
        have HS11 := Lib.hid (hs10.below hb11)
        have hT11 := hT10.below hb11 hT10.lt
        have HT11 := Lib.hid hT11
        have HB11 := Lib.hid (hB10.trans (hb11.mono hB10.size))
        have hkc1 := (hb11.cell (p := b.add k) (by rw [add_block]; exact hkb)).trans hkc
        have hkb1 : b.block < w11.heap.size := Nat.lt_of_lt_of_le hkb hb11.size
        have HKP11 : Hid (∀ W, Below w11.heap.size w11 W → ((loadVar 30 ⟨gt, 0, none⟩).run Try.prog W = .ok (.agg tabV) W ∧ (loadVar 9 (b.add k)).run Try.prog W = .ok (.string xk) W) ∧ Below w11.heap.size w11 W) :=
          Lib.hid fun W hW => ⟨⟨tab_run (hT11.below hW hT11.lt), txt_load ((hW.cell (by rw [add_block]; exact hkb1)).trans hkc1)⟩, hW⟩
        clear hown hp11 hb11 hs10 hT10 hB10 hR10 hT11 HIN HIW HSI hkc hkb hkc1 hkb1 HPI
        go_wp2
        go_region_held3 (fun W => ((loadVar 30 ⟨gt, 0, none⟩).run Try.prog W = .ok (.agg tabV) W ∧ (loadVar 9 (b.add k)).run Try.prog W = .ok (.string xk) W) ∧ Below w11.heap.size w11 W)
          ((refine HKP11.out _ ?_; first | exact hE3 | exact hE2 | exact hE1 | exact (Below.refl _ _).drew | exact Below.refl _ _))
          (first
            | (have := hE2; go_at_call 16; refine (HIW1.out _ (HP11.out.below hE2)).mono ?_; rintro e wr ⟨rfl, hy3⟩; have hE3 : Below w11.heap.size w11 wr := hE2.trans (hy3.mono hE2.size))
            | (have := hE1; go_at_call 20; refine (HSI1.out od capd _ (HP11.out.below hE1) hst2).mono ?_; rintro e y2 ⟨rfl, hy2⟩; have hE2 : Below w11.heap.size w11 y2 := hE1.trans (hy2.mono hE1.size))
            | (go_at_call 21; refine (HRI.out _ (HS11.out.below (Below.refl _ _).drew)).mono ?_; rintro e y1 ⟨v2, rfl, hown2, hy1⟩; obtain ⟨od, capd, hv2, hst2, hcd⟩ := hown2.formc; rw [HD.out] at hv2; subst hv2; have hE1 : Below w11.heap.size w11 y1 := (Below.refl _ _).drew.trans hy1))
        have hs := HS11.out.below hE3
        have hT := HT11.out.below hE3 HT11.out.lt
        have hB := HB11.out.trans (hE3.mono HB11.out.size)
        rename_i hHeld
        clear hHeld hE3 hE2 hE1 hy1 hy2 hy3 HKP11 HS11 HT11 HB11 hown2 hst2 hcd HIW1 HSI1 HP11 hcp HD
        have hR := tab_run hT
        by_cases hq : q < 1 ∨ (m : Int) < q
        · have HCO := Lib.hid (fun W => consistency_out q (some b) m capl hq W)
          go_wp2_with fail
          refine (HCO.out _).mono ?_
          rintro e wx ⟨rfl, hbx⟩
          have hBx := hB.trans (hbx.mono hB.size)
          clear hB hbx hR hT hs
          by_cases hq1 : q < 1
          · go_wp2
            go_ret
            exact ⟨rfl, hBx⟩
          · have hq2 : (m : Int) < q := by omega
            go_wp2
            go_ret
            exact ⟨rfl, hBx⟩
        · obtain ⟨z, rfl⟩ : ∃ z : Nat, q = z := ⟨q.toNat, by omega⟩
          have hz1 : ¬ (z : Int) < 1 := by omega
          have hz2 : ¬ (m : Int) < (z : Int) := by omega
          have HCI := Lib.hid (fun W hW => consistency_in z (some b) m capl L HLL.out (by omega) hcl (by omega) (by omega) hzl W hW)
          have HRC := Lib.hid (fun W hW => rcon_any m (some b) capl z true L HLL.out (by omega) (by omega) hcl (by omega) (by omega) hzl W hW)
          have HRT1 := Lib.hid (fun W hW => mroot_any z (some b) capl (L.take z) (by rw [List.length_take, HLL.out]; omega) (by omega) (by omega) (hzl.take _) W hW)
          have HCW := Lib.hid (fun oc pl pcap hq hcp W hW => consistent_own L z m oc pl pcap HLL.out (by omega) (by omega) (by omega) hzl hq hcp W hW)
          have HSM := Lib.hid (fun oc od pl pcap dcap hq hp W h1 h2 => rsame_eq oc od pl pcap dcap (conM L z true) hq hp W h1 h2)
          have hsl := slice_to (some b) m capl z (by omega)
          have HPL := Lib.hid (show (conM L z true).length ≤ 65 by rw [conM_length, HLL.out]; have := lenM_le m z true; omega)
          rw [HRR.out] at HCW
          generalize conM L z true = P at *
          generalize rootM (L.take z) = R1 at *
          have HS1 := Lib.hid (hs.take z)
          generalize L.take z = L1 at *
          clear hq
          go_wp2_with fail
          refine (HCI.out _ hs).mono ?_
          rintro e wx ⟨v, rfl, hown, hbx⟩
          obtain ⟨oc, capp, hv, hpx, hcp⟩ := hown.formc
          obtain ⟨d, hd⟩ : ∃ d, P.length = d := ⟨_, rfl⟩
          rw [hd] at hv hcp
          subst hv
          have HD := Lib.hid hd
          have hpl : d ≤ 65 := by have := HPL.out; omega
          have HCW1 := Lib.hid (fun W hW => HCW.out oc d capp hd hcp W hW)
          have HSM1 := Lib.hid (fun od dcap W h1 h2 => HSM.out oc od d capp dcap hd (by omega) W h1 h2)
          clear hd
          have HPX := Lib.hid hpx
          have HSX := Lib.hid (hs.below hbx)
          have HS1X := Lib.hid (HS1.out.below hbx)
          have hTX := hT.below hbx hT.lt
          have HBX := Lib.hid (hB.trans (hbx.mono hB.size))
          have HKPX : Hid (∀ W, Below wx.heap.size wx W → (loadVar 30 ⟨gt, 0, none⟩).run Try.prog W = .ok (.agg tabV) W ∧ Below wx.heap.size wx W) := Lib.hid fun W hW => ⟨tab_run (hTX.below hW hTX.lt), hW⟩
          clear hown hpx hbx hs hT hB hR hTX HCI HCW HSM HS1
          go_wp2
          go_region_held3 (fun w' => (loadVar 30 ⟨gt, 0, none⟩).run Try.prog w' = .ok (.agg tabV) w' ∧ Below wx.heap.size wx w')
            ((refine HKPX.out _ ?_; first | exact hE4 | exact hE3 | exact hE2 | exact hE1 | exact (Below.refl _ _).drew | exact Below.refl _ _))
            (first
              | (have := hE3; go_at_call 13; refine (HCW1.out _ (HPX.out.below hE3)).mono ?_; rintro e y4 ⟨rfl, hy4⟩; have hE4 : Below wx.heap.size wx y4 := hE3.trans (hy4.mono hE3.size))
              | (have := hE2; go_at_call 14; refine (HRT1.out _ (HS1X.out.below hE2)).mono ?_; rintro e y3 ⟨rfl, hy3⟩; have hE3 : Below wx.heap.size wx y3 := hE2.trans (hy3.mono hE2.size))
              | (have := hE1; go_at_call 20; refine (HSM1.out od capd _ (HPX.out.below hE1) hst2).mono ?_; rintro e y2 ⟨rfl, hy2⟩; have hE2 : Below wx.heap.size wx y2 := hE1.trans (hy2.mono hE1.size))
              | (go_at_call 22; refine (HRC.out _ (HSX.out.below (Below.refl _ _).drew)).mono ?_; rintro e y1 ⟨v2, rfl, hown2, hy1⟩; obtain ⟨od, capd, hv2, hst2, hcd⟩ := hown2.formc; rw [HD.out] at hv2; subst hv2; have hE1 : Below wx.heap.size wx y1 := (Below.refl _ _).drew.trans hy1))
          have hBE := HBX.out.trans (hE4.mono HBX.out.size)
          go_wp2
          go_ret
          exact ⟨rfl, hBE⟩
    · have hpos' : ¬ (0 : Int) < (m : Int) := by omega
      have hm0 : m ≤ 0 := by omega
      clear hc6 HL0
      have HKP6 : Hid (∀ W, Below w6.heap.size w6 W → ((loadVar 30 ⟨gt, 0, none⟩).run Try.prog W = .ok (.agg tabV) W) ∧ Below w6.heap.size w6 W) := Lib.hid fun W hW => ⟨tab_run (hT6.below hW hT6.lt), hW⟩
      have HS6 := Lib.hid hs6
      have HT6 := Lib.hid hT6
      have HB6 := Lib.hid hB6
      clear hs6 hT6 hB6
      go_wp2
      refine wp_region_held_drew (S := (fun W => ((loadVar 30 ⟨gt, 0, none⟩).run Try.prog W = .ok (.agg tabV) W) ∧ Below w6.heap.size w6 W)) (by kernel_rfl) ?_ (fun hHeld0 => ?_)
      · (refine HKP6.out _ ?_; first | exact hE3 | exact hE2 | exact (Below.refl _ _).drew | exact Below.refl _ _)
      refine takeH (i := 0) (v := ?v0) rfl (by kernel_rfl) (by kernel_rfl) (by kernel_rfl) (fun _ _ _ h => h) (by rfl) ?hy0 (by assumption) ?_
      case hy0 => (intro w hSw; (try dsimp only at hSw); go_simp; try with_reducible rfl)
      (try simp only [Act.put, List.setIfInBounds_toArray, List.set_cons_zero, List.set_cons_succ])
      refine takeH (i := 1) (v := ?v1) rfl (by kernel_rfl) (by kernel_rfl) (by kernel_rfl) (fun _ _ _ h => h) (by rfl) ?hy1 (by assumption) ?_
      case hy1 => (intro w hSw; (try dsimp only at hSw); go_simp; try with_reducible rfl)
      (try simp only [Act.put, List.setIfInBounds_toArray, List.set_cons_zero, List.set_cons_succ])
      refine takeH (i := 2) (v := ?v2) rfl (by kernel_rfl) (by kernel_rfl) (by kernel_rfl) (fun _ _ _ h => h) (by rfl) ?hy2 (by assumption) ?_
      case hy2 => (intro w hSw; (try dsimp only at hSw); go_simp; try with_reducible rfl)
      (try simp only [Act.put, List.setIfInBounds_toArray, List.set_cons_zero, List.set_cons_succ])
      refine skipH (i := 3) rfl (by kernel_rfl) (by kernel_rfl) (by kernel_rfl) (fun _ _ _ h => h) (by rfl) (by assumption) ?_
      (try simp only [Act.put, List.setIfInBounds_toArray, List.set_cons_zero, List.set_cons_succ])
      refine skipH (i := 4) rfl (by kernel_rfl) (by kernel_rfl) (by kernel_rfl) (fun _ _ _ h => h) (by rfl) (by assumption) ?_
      (try simp only [Act.put, List.setIfInBounds_toArray, List.set_cons_zero, List.set_cons_succ])
      refine skipH (i := 5) rfl (by kernel_rfl) (by kernel_rfl) (by kernel_rfl) (fun _ _ _ h => h) (by rfl) (by assumption) ?_
      (try simp only [Act.put, List.setIfInBounds_toArray, List.set_cons_zero, List.set_cons_succ])
      refine skipH (i := 6) rfl (by kernel_rfl) (by kernel_rfl) (by kernel_rfl) (fun _ _ _ h => h) (by rfl) (by assumption) ?_
      (try simp only [Act.put, List.setIfInBounds_toArray, List.set_cons_zero, List.set_cons_succ])
      refine skipH (i := 7) rfl (by kernel_rfl) (by kernel_rfl) (by kernel_rfl) (fun _ _ _ h => h) (by rfl) (by assumption) ?_
      (try simp only [Act.put, List.setIfInBounds_toArray, List.set_cons_zero, List.set_cons_succ])
      refine skipH (i := 8) rfl (by kernel_rfl) (by kernel_rfl) (by kernel_rfl) (fun _ _ _ h => h) (by rfl) (by assumption) ?_
      (try simp only [Act.put, List.setIfInBounds_toArray, List.set_cons_zero, List.set_cons_succ])
      refine skipH (i := 9) rfl (by kernel_rfl) (by kernel_rfl) (by kernel_rfl) (fun _ _ _ h => h) (by rfl) (by assumption) ?_
      (try simp only [Act.put, List.setIfInBounds_toArray, List.set_cons_zero, List.set_cons_succ])
      refine skipH (i := 10) rfl (by kernel_rfl) (by kernel_rfl) (by kernel_rfl) (fun _ _ _ h => h) (by rfl) (by assumption) ?_
      (try simp only [Act.put, List.setIfInBounds_toArray, List.set_cons_zero, List.set_cons_succ])
      refine skipH (i := 11) rfl (by kernel_rfl) (by kernel_rfl) (by kernel_rfl) (fun _ _ _ h => h) (by rfl) (by assumption) ?_
      (try simp only [Act.put, List.setIfInBounds_toArray, List.set_cons_zero, List.set_cons_succ])
      refine takeH (i := 12) (v := ?v12) rfl (by kernel_rfl) (by kernel_rfl) (by kernel_rfl) (fun _ _ _ h => h) (by rfl) ?hy12 (by assumption) ?_
      case hy12 => (intro w hSw; (try dsimp only at hSw); go_simp; try with_reducible rfl)
      (try simp only [Act.put, List.setIfInBounds_toArray, List.set_cons_zero, List.set_cons_succ])
      refine takeH (i := 13) (v := ?v13) rfl (by kernel_rfl) (by kernel_rfl) (by kernel_rfl) (fun _ _ _ h => h) (by rfl) ?hy13 (by assumption) ?_
      case hy13 => (intro w hSw; (try dsimp only at hSw); go_simp; try with_reducible rfl)
      (try simp only [Act.put, List.setIfInBounds_toArray, List.set_cons_zero, List.set_cons_succ])
      refine takeH (i := 14) (v := ?v14) rfl (by kernel_rfl) (by kernel_rfl) (by kernel_rfl) (fun _ _ _ h => h) (by rfl) ?hy14 (by assumption) ?_
      case hy14 => (intro w hSw; (try dsimp only at hSw); go_simp; try with_reducible rfl)
      (try simp only [Act.put, List.setIfInBounds_toArray, List.set_cons_zero, List.set_cons_succ])
      refine takeH (i := 15) (v := ?v15) rfl (by kernel_rfl) (by kernel_rfl) (by kernel_rfl) (fun _ _ _ h => h) (by rfl) ?hy15 (by assumption) ?_
      case hy15 => (intro w hSw; (try dsimp only at hSw); go_simp; try with_reducible rfl)
      (try simp only [Act.put, List.setIfInBounds_toArray, List.set_cons_zero, List.set_cons_succ])
      refine takeH (i := 17) (v := ?v17) rfl (by kernel_rfl) (by kernel_rfl) (by kernel_rfl) (fun _ _ _ h => h) (by rfl) ?hy17 (by assumption) ?_
      case hy17 => (intro w hSw; (try dsimp only at hSw); go_simp; try with_reducible rfl)
      (try simp only [Act.put, List.setIfInBounds_toArray, List.set_cons_zero, List.set_cons_succ])
      refine doH (i := 16) rfl (by kernel_rfl) (by rfl) (fun K hK => ?_)
      go_simp
      (go_at_call 14; refine (HR1.out _ (HS6.out.below (Below.refl _ _).drew)).mono ?_; rintro e w8 ⟨rfl, hy2⟩; have hE2 : Below w6.heap.size w6 w8 := (Below.refl _ _).drew.trans hy2)
      go_wp2_with fail
      refine hK.out _ _ ?_ (fun hHeld16 => ?_)
      · (refine HKP6.out _ ?_; first | exact hE3 | exact hE2 | exact (Below.refl _ _).drew | exact Below.refl _ _)
      clear hK K hHeld0
      (try simp only [Act.put, List.setIfInBounds_toArray, List.set_cons_zero, List.set_cons_succ])
      refine doH (i := 18) rfl (by kernel_rfl) (by rfl) (fun K hK => ?_)
      go_simp
      (go_at_call 19; refine (HR2.out _ (HS6.out.below hE2)).mono ?_; rintro e w9 ⟨rfl, hy3⟩; have hE3 : Below w6.heap.size w6 w9 := hE2.trans (hy3.mono hE2.size))
      go_wp2_with fail
      refine hK.out _ _ ?_ (fun hHeld18 => ?_)
      · (refine HKP6.out _ ?_; first | exact hE3 | exact hE2 | exact (Below.refl _ _).drew | exact Below.refl _ _)
      clear hK K hHeld16
      (try simp only [Act.put, List.setIfInBounds_toArray, List.set_cons_zero, List.set_cons_succ])
      refine takeH (i := 19) (v := ?v19) rfl (by kernel_rfl) (by kernel_rfl) (by kernel_rfl) (fun _ _ _ h => h) (by rfl) ?hy19 (by assumption) ?_
      case hy19 => (intro w hSw; (try dsimp only at hSw); go_simp; try with_reducible rfl)
      (try simp only [Act.put, List.setIfInBounds_toArray, List.set_cons_zero, List.set_cons_succ])
      refine takeH (i := 20) (v := ?v20) rfl (by kernel_rfl) (by kernel_rfl) (by kernel_rfl) (fun _ _ _ h => h) (by rfl) ?hy20 (by assumption) ?_
      case hy20 => (intro w hSw; (try dsimp only at hSw); go_simp; try with_reducible rfl)
      (try simp only [Act.put, List.setIfInBounds_toArray, List.set_cons_zero, List.set_cons_succ])
      refine wpAnyH_done (by kernel_rfl) ?_ _
      have hs9 := HS6.out.below hE3
      have hT9 := HT6.out.below hE3 HT6.out.lt
      have hB9 := HB6.out.trans (hE3.mono HB6.out.size)
      clear hHeld18 hE3 hE2 hy2 hy3 HKP6 HS6 HT6 HB6
      have hR9 := tab_run hT9
      go_wp2_with fail
      refine (HR1.out _ hs9).mono ?_
      rintro e w10 ⟨rfl, hb10⟩
      have hs10 := hs9.below hb10
      have hT10 := hT9.below hb10 hT9.lt
      have hB10 := hB9.trans (hb10.mono hB9.size)
      have hR10 := tab_run hT10
      clear hs9 hT9 hB9 hb10 hR9
      by_cases hi : i < 0 ∨ (m : Int) ≤ i
      · have HIO := Lib.hid (fun W => inclusion_out i ob m capl hi W)
        go_wp2_with fail
        refine (HIO.out _).mono ?_
        rintro e wr ⟨rfl, hb11⟩
        have hs := hs10.below hb11
        have hT := hT10.below hb11 hT10.lt
        have hB := hB10.trans (hb11.mono hB10.size)
        clear hs10 hT10 hB10 hb11 hR10 HIO
        by_cases hi1 : i < 0
        · clear hi
          have hR := tab_run hT
          by_cases hq : q < 1 ∨ (m : Int) < q
          · have HCO := Lib.hid (fun W => consistency_out q ob m capl hq W)
            go_wp2_with fail
            refine (HCO.out _).mono ?_
            rintro e wx ⟨rfl, hbx⟩
            have hBx := hB.trans (hbx.mono hB.size)
            clear hB hbx hR hT hs
            by_cases hq1 : q < 1
            · go_wp2
              go_ret
              exact ⟨rfl, hBx⟩
            · have hq2 : (m : Int) < q := by omega
              go_wp2
              go_ret
              exact ⟨rfl, hBx⟩
          · exfalso; omega
        · have hi2 : (m : Int) ≤ i := by omega
          clear hi
          have hR := tab_run hT
          by_cases hq : q < 1 ∨ (m : Int) < q
          · have HCO := Lib.hid (fun W => consistency_out q ob m capl hq W)
            go_wp2_with fail
            refine (HCO.out _).mono ?_
            rintro e wx ⟨rfl, hbx⟩
            have hBx := hB.trans (hbx.mono hB.size)
            clear hB hbx hR hT hs
            by_cases hq1 : q < 1
            · go_wp2
              go_ret
              exact ⟨rfl, hBx⟩
            · have hq2 : (m : Int) < q := by omega
              go_wp2
              go_ret
              exact ⟨rfl, hBx⟩
          · exfalso; omega
      · exfalso; omega
  · rw [Bool.not_eq_true] at hfew
    rw [hfew]
    clear hfew
    go_wp2_with fail
    refine (HA.out _).mono ?_
    rintro e w4 ⟨rfl, hb4⟩
    have hB4 := hB3.trans (hb4.mono hB3.size)
    clear hB3 hb4
    go_wp2
    go_ret
    exact ⟨rfl, hB4⟩
end
end Go.Proofs.Ytigmkhgaoamdkaa

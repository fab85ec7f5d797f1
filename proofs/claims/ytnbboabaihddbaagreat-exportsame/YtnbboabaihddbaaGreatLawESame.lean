/-
 The law ExportSame.
-/
import Derived.Test.YtnbboabaihddbaaGreatEAwMRefRt
import Derived.Test.YtnbboabaihddbaaGreatEReadM
import Derived.Test.YtnbboabaihddbaaGreatYDo
import Derived.Test.YtnbboabaihddbaaGreatYSameN
import Derived.Deep.WholeRow
namespace Go.Proofs.YtnbboabaihddbaaGreat
open Go.RowKit

section
attribute [-go_sem] loadVar
set_option maxRecDepth 100000 in
set_option maxHeartbeats 4000000 in
theorem law_esame (oa : Option Addr) (n cap : Nat) (os : List OpR) (hl : os.length = n) (_ : n ≤ cap) (_ : n ≤ 9223372036854775807) (hb : ∀ x ∈ os, BndO x)
  (ob : Option Addr) (m cap' : Nat) (os' : List OpR) (hl' : os'.length = m) (_ : m ≤ cap') (_ : m ≤ 9223372036854775807) (hb' : ∀ x ∈ os', BndO x) (w : World) (hr : RowG opK w oa os) (hr' : RowG opK w ob os') :
 Calls Tryz.prog 7 #[.slice oa n cap, .slice ob m cap'] w fun e w' => e = .returned (.bool true) ∧ Below w.heap.size w w' := by
 have HAW := Lib.hid (fun W => awake12_any W)
 have HMK := Lib.hid (fun W => make_std W)
 have HF1 := Lib.hid (fun W (hW : Below w.heap.size w W) => rfewO_any oa n cap 20 os hl (by decide) W (hr.below hW))
 have HR1 := Lib.hid (show ∀ W e w', RFewO n 20 os W e w' = ((∃ b, e = .returned (.bool b) ∧ (b = true → n ≤ 20 ∧ ∀ x ∈ os, smallB x.r = true)) ∧ Below W.heap.size W w') from fun _ _ _ => rfl)
 have HT1 := Lib.hid (fun W (hW : Below w.heap.size w W) (h : n ≤ 20) => times_any oa n cap os hl (by omega) W (hr.below hW))
 have HU1 := Lib.hid (show ∀ W e w', RTimes os W e w' = ((∃ b, e = .returned (.bool b) ∧ (b = true → ∀ x ∈ os, x.now ≤ 2147483647)) ∧ Below W.heap.size W w') from fun _ _ _ => rfl)
 obtain ⟨P1, hP1⟩ : ∃ P, playW os = P := ⟨_, rfl⟩
 have HD1 : Hid (∀ W, Below w.heap.size w W → n ≤ 20 → (∀ x ∈ os, smallB x.r = true) → Calls Tryz.prog 12 #[.agg tabV, .slice oa n cap] W fun e w' => ∃ cs ds, e = .returned (.tuple #[.agg cs, .agg ds, .bool true]) ∧ StC w' (geP W.heap.size) cs P1 ∧ WdC w' (geP W.heap.size) ds P1 ∧ Below W.heap.size W w') := Lib.hid fun W hW h1 h2 => by
  rw [← hP1]
  exact do_any oa n cap os hl (by omega) h2 (by assumption) W (hr.below hW)
 have HO1 : Hid ((∀ x ∈ os, x.now ≤ 2147483647) → OwnW P1) := Lib.hid fun h => by rw [← hP1]; exact OwnW.play os h
 have HF2 := Lib.hid (fun W (hW : Below w.heap.size w W) => rfewO_any ob m cap' 20 os' hl' (by decide) W (hr'.below hW))
 have HR2 := Lib.hid (show ∀ W e w', RFewO m 20 os' W e w' = ((∃ b, e = .returned (.bool b) ∧ (b = true → m ≤ 20 ∧ ∀ x ∈ os', smallB x.r = true)) ∧ Below W.heap.size W w') from fun _ _ _ => rfl)
 have HT2 := Lib.hid (fun W (hW : Below w.heap.size w W) (h : m ≤ 20) => times_any ob m cap' os' hl' (by omega) W (hr'.below hW))
 have HU2 := Lib.hid (show ∀ W e w', RTimes os' W e w' = ((∃ b, e = .returned (.bool b) ∧ (b = true → ∀ x ∈ os', x.now ≤ 2147483647)) ∧ Below W.heap.size W w') from fun _ _ _ => rfl)
 obtain ⟨P2, hP2⟩ : ∃ P, playW os' = P := ⟨_, rfl⟩
 have HD2 : Hid (∀ W, Below w.heap.size w W → m ≤ 20 → (∀ x ∈ os', smallB x.r = true) → Calls Tryz.prog 12 #[.agg tabV, .slice ob m cap'] W fun e w' => ∃ cs ds, e = .returned (.tuple #[.agg cs, .agg ds, .bool true]) ∧ StC w' (geP W.heap.size) cs P2 ∧ WdC w' (geP W.heap.size) ds P2 ∧ Below W.heap.size W w') := Lib.hid fun W hW h1 h2 => by
  rw [← hP2]
  exact do_any ob m cap' os' hl' (by omega) h2 (by assumption) W (hr'.below hW)
 have HO2 : Hid ((∀ x ∈ os', x.now ≤ 2147483647) → OwnW P2) := Lib.hid fun h => by rw [← hP2]; exact OwnW.play os' h
 clear hr hr' hP1 hP2 hb hb'
 go_enter Tryz.func7, Tryz.ntmps7
 go_wp2_with fail
 refine (HAW.out _).mono ?_
 rintro e w1 ⟨rfl, hb1⟩
 go_wp2_with fail
 refine (HF1.out _ hb1).mono ?_
 rintro e w2 he
 rw [HR1.out] at he
 obtain ⟨⟨b, rfl, hbt⟩, hbf⟩ := he
 have hb2 := hb1.trans (hbf.mono hb1.size)
 clear hbf
 cases b with
 | false =>
  clear hbt
  go_wp2_with fail
  refine (HAW.out _).mono ?_
  rintro e w52 ⟨rfl, hb52⟩
  have hx52 := hb2.trans (hb52.mono hb2.size)
  go_wp2
  go_ret
  exact ⟨rfl, hx52⟩
 | true =>
  obtain ⟨hn1, hs1⟩ := hbt rfl
  clear hbt
  go_wp2_with fail
  refine (HF2.out _ hb2).mono ?_
  rintro e w3 he
  rw [HR2.out] at he
  obtain ⟨⟨b, rfl, hbt⟩, hbf⟩ := he
  have hb3 := hb2.trans (hbf.mono hb2.size)
  clear hbf
  cases b with
  | false =>
   clear hbt
   go_wp2_with fail
   refine (HAW.out _).mono ?_
   rintro e w53 ⟨rfl, hb53⟩
   have hx53 := hb3.trans (hb53.mono hb3.size)
   go_wp2
   go_ret
   exact ⟨rfl, hx53⟩
  | true =>
   obtain ⟨hn2, hs2⟩ := hbt rfl
   clear hbt
   go_wp2_with fail
   refine (HT1.out _ hb3 hn1).mono ?_
   rintro e w4 he
   rw [HU1.out] at he
   obtain ⟨⟨b, rfl, hbt⟩, hbf⟩ := he
   have hb4 := hb3.trans (hbf.mono hb3.size)
   clear hbf
   cases b with
   | false =>
    clear hbt
    go_wp2_with fail
    refine (HAW.out _).mono ?_
    rintro e w54 ⟨rfl, hb54⟩
    have hx54 := hb4.trans (hb54.mono hb4.size)
    go_wp2
    go_ret
    exact ⟨rfl, hx54⟩
   | true =>
    have ho1 := HO1.out (hbt rfl)
    clear hbt
    go_wp2_with fail
    refine (HT2.out _ hb4 hn2).mono ?_
    rintro e w5 he
    rw [HU2.out] at he
    obtain ⟨⟨b, rfl, hbt⟩, hbf⟩ := he
    have hb5 := hb4.trans (hbf.mono hb4.size)
    clear hbf
    cases b with
    | false =>
     clear hbt
     go_wp2_with fail
     refine (HAW.out _).mono ?_
     rintro e w55 ⟨rfl, hb55⟩
     have hx55 := hb5.trans (hb55.mono hb5.size)
     go_wp2
     go_ret
     exact ⟨rfl, hx55⟩
    | true =>
     have ho2 := HO2.out (hbt rfl)
     clear hbt
     go_wp2_with fail
     refine (HMK.out _).mono ?_
     rintro e wm ⟨rfl, hbm⟩
     have hbn := hb5.trans (hbm.mono hb5.size)
     have hl3 := tab_run (Blk.new wm 30 tabV)
     go_wp2_with (refine wpList_store_row rfl 30 _ _ rfl wm.heap.size tabV rfl rfl 30 zero72 (Blk.new _ _ _) (by rw [tabV_size]; exact infoTable) (by kernel_rfl) (by kernel_rfl) ?_; rw [World.setRow_alloc_new])
     have hb6 := hbn.alloc hbn.size (.cells tabV 30)
     have kT : Blk (wm.alloc (.cells tabV 30)) wm.heap.size 30 tabV := Blk.new _ _ _
     clear hbm hbn
     generalize wm.alloc (.cells tabV 30) = w6 at *
     generalize wm.heap.size = gt at *
     refine (HD1.out w6 hb6 hn1 hs1).mono ?_
     rintro e wd ⟨cs, ds, rfl, hS, hD, hbd⟩
     replace kT := kT.below hbd kT.lt
     have hbe := hb6.trans (hbd.mono hb6.size)
     have zs7 := zeroS
     have zw7 := zeroW
     obtain ⟨wA7, hwA⟩ : ∃ wA, ((wd.alloc (.cells zeroSt 41)).alloc (.cells zeroWd 44)) = wA := ⟨_, rfl⟩
     have bA : Below wd.heap.size wd wA7 := by rw [← hwA]; exact ((Below.refl _ wd).alloc (Nat.le_refl _) _).alloc (by simp) _
     have kA : Blk wA7 wd.heap.size 41 zeroSt := by rw [← hwA]; exact (Blk.new _ _ _).alloc _
     have kB : Blk wA7 (wd.heap.size + 1) 44 zeroWd := by rw [← hwA]; exact Blk.new_at (by simp)
     obtain ⟨w7, hw7⟩ : ∃ x, (wA7.setRow wd.heap.size cs).setRow (wd.heap.size + 1) ds = x := ⟨_, rfl⟩
     have ks : Blk w7 wd.heap.size 41 cs := by rw [← hw7]; exact Blk.setRow (setRow_heap wA7 _ zeroSt cs 41 (0, 0) kA) (by omega) _
     have kw : Blk w7 (wd.heap.size + 1) 44 ds := by rw [← hw7]; exact setRow_heap _ _ zeroWd ds 44 (0, 0) (Blk.setRow kB (by omega) _)
     have b7 : Below wd.heap.size wd w7 := by rw [← hw7]; exact (bA.grown (only_setRow (grown_refl wA7 (some wd.heap.size)) cs) bA.size (fun k hk => by injection hk; omega)).grown (only_setRow (grown_refl _ (some (wd.heap.size + 1))) ds) (by have := bA.size; simp; omega) (fun k hk => by injection hk; omega)
     have HWA7 := Lib.hid hwA
     have HW7 := Lib.hid hw7
     have HKA7 := Lib.hid kA
     have HKB7 := Lib.hid kB
     have HIA7 : Hid ((Tryz.prog.info? 41).map (·.size) = some (cs : Array Value).size) := Lib.hid (by rw [hS.size]; exact infoS)
     have HIB7 : Hid ((Tryz.prog.info? 44).map (·.size) = some (ds : Array Value).size) := Lib.hid (by rw [hD.size]; kernel_rfl)
     have HSA7 : Hid ((zeroSt : Array Value).size = (cs : Array Value).size) := Lib.hid (by rw [hS.size]; rfl)
     have HSB7 : Hid ((zeroWd : Array Value).size = (ds : Array Value).size) := Lib.hid (by rw [hD.size]; rfl)
     have HOA7 : Hid (((cs : Array Value).all fun x => x.oneCell') = true) := Lib.hid hS.one
     have HOB7 : Hid (((ds : Array Value).all fun x => x.oneCell') = true) := Lib.hid hD.one
     clear hwA hw7 kA kB bA
     replace kT := kT.below b7 kT.lt
     have hb7 := hbe.trans (b7.mono hbe.size)
     have hS7 := hS.below b7
     have hD7 := hD.below b7
     have HSZ := Lib.hid hS.size
     clear hl3 hS hD hD7 hbe hbd kw
     have lT := tab_run kT
     go_wp2_with (first
       | rw [HWA7.out]
       | (refine wpList_store_row rfl 41 _ _ rfl wd.heap.size cs rfl rfl 41 zeroSt HKA7.out HIA7.out HSA7.out HOA7.out ?_)
       | (refine wpList_store_row rfl 44 _ _ rfl (wd.heap.size + 1) ds rfl rfl 44 zeroWd (Blk.setRow HKB7.out (by omega) _) HIB7.out HSB7.out HOB7.out ?_; rw [HW7.out]))
     clear lT
     generalize wd.heap.size = gs at *
     refine (HD2.out w7 hb7 hn2 hs2).mono ?_
     rintro e we ⟨cs2, ds2, rfl, hS, hD, hbd⟩
     replace kT := kT.below hbd kT.lt
     have hbe := hb7.trans (hbd.mono hb7.size)
     replace ks := ks.below hbd ks.lt
     replace hS7 := hS7.below hbd
     have zs8 := zeroS
     have zw8 := zeroW
     obtain ⟨wA8, hwA⟩ : ∃ wA, ((we.alloc (.cells zeroSt 41)).alloc (.cells zeroWd 44)) = wA := ⟨_, rfl⟩
     have bA : Below we.heap.size we wA8 := by rw [← hwA]; exact ((Below.refl _ we).alloc (Nat.le_refl _) _).alloc (by simp) _
     have kA : Blk wA8 we.heap.size 41 zeroSt := by rw [← hwA]; exact (Blk.new _ _ _).alloc _
     have kB : Blk wA8 (we.heap.size + 1) 44 zeroWd := by rw [← hwA]; exact Blk.new_at (by simp)
     obtain ⟨w8, hw8⟩ : ∃ x, (wA8.setRow we.heap.size cs2).setRow (we.heap.size + 1) ds2 = x := ⟨_, rfl⟩
     have kx : Blk w8 we.heap.size 41 cs2 := by rw [← hw8]; exact Blk.setRow (setRow_heap wA8 _ zeroSt cs2 41 (0, 0) kA) (by omega) _
     have ky : Blk w8 (we.heap.size + 1) 44 ds2 := by rw [← hw8]; exact setRow_heap _ _ zeroWd ds2 44 (0, 0) (Blk.setRow kB (by omega) _)
     have b8 : Below we.heap.size we w8 := by rw [← hw8]; exact (bA.grown (only_setRow (grown_refl wA8 (some we.heap.size)) cs2) bA.size (fun k hk => by injection hk; omega)).grown (only_setRow (grown_refl _ (some (we.heap.size + 1))) ds2) (by have := bA.size; simp; omega) (fun k hk => by injection hk; omega)
     have HWA8 := Lib.hid hwA
     have HW8 := Lib.hid hw8
     have HKA8 := Lib.hid kA
     have HKB8 := Lib.hid kB
     have HIA8 : Hid ((Tryz.prog.info? 41).map (·.size) = some (cs2 : Array Value).size) := Lib.hid (by rw [hS.size]; exact infoS)
     have HIB8 : Hid ((Tryz.prog.info? 44).map (·.size) = some (ds2 : Array Value).size) := Lib.hid (by rw [hD.size]; kernel_rfl)
     have HSA8 : Hid ((zeroSt : Array Value).size = (cs2 : Array Value).size) := Lib.hid (by rw [hS.size]; rfl)
     have HSB8 : Hid ((zeroWd : Array Value).size = (ds2 : Array Value).size) := Lib.hid (by rw [hD.size]; rfl)
     have HOA8 : Hid (((cs2 : Array Value).all fun x => x.oneCell') = true) := Lib.hid hS.one
     have HOB8 : Hid (((ds2 : Array Value).all fun x => x.oneCell') = true) := Lib.hid hD.one
     clear hwA hw8 kA kB bA
     replace kT := kT.below b8 kT.lt
     have hb8 := hbe.trans (b8.mono hbe.size)
     have hS8 := hS.below b8
     have hD8 := hD.below b8
     replace ks := ks.below b8 ks.lt
     replace hS7 := hS7.below b8
     have HSZ2 := Lib.hid hS.size
     have HDZ2 := Lib.hid hD.size
     have HKL : Hid (∀ W, Below w8.heap.size w8 W → (loadVar 41 ⟨gs, 0, none⟩).run Tryz.prog W = .ok (.agg cs) W ∧ (loadVar 41 ⟨we.heap.size, 0, none⟩).run Tryz.prog W = .ok (.agg cs2) W ∧ (loadVar 44 ⟨we.heap.size + 1, 0, none⟩).run Tryz.prog W = .ok (.agg ds2) W) := Lib.hid fun W hW => ⟨st_load HSZ.out (ks.below hW ks.lt), st_load HSZ2.out (kx.below hW kx.lt), wd_load HDZ2.out (ky.below hW ky.lt)⟩
     have HE1 : Hid (∀ W, Below w8.heap.size w8 W → Calls Tryz.prog 14 #[.agg cs] W fun e w' => e = .returned (.string (expB P1)) ∧ Below W.heap.size W w') := Lib.hid fun W hW => export_any _ cs P1 ho1.1 W (hS7.below hW)
     have HE2 : Hid (∀ W, Below w8.heap.size w8 W → Calls Tryz.prog 14 #[.agg cs2] W fun e w' => e = .returned (.string (expB P2)) ∧ Below W.heap.size W w') := Lib.hid fun W hW => export_any _ cs2 P2 ho2.1 W (hS8.below hW)
     have HSM : Hid (expB P1 = expB P2 → ∀ W, Below w8.heap.size w8 W → Calls Tryz.prog 17 #[.agg cs, .agg ds2] W fun e w' => e = .returned (.bool true) ∧ Below W.heap.size W w') := Lib.hid fun e W hW => by
      have hh := exp_inj ho1 ho2 e
      subst hh
      exact same11_any _ _ cs ds2 P1 ho1.1 W (hS7.below hW) (hD8.below hW)
     have HSN : Hid (expB P1 ≠ expB P2 → ∀ W, Below w8.heap.size w8 W → Calls Tryz.prog 17 #[.agg cs, .agg ds2] W fun e w' => e = .returned (.bool false) ∧ Below W.heap.size W w') := Lib.hid fun e W hW => same11_no _ _ cs ds2 P1 P2 ho1.1 ho2.1 (by
       rcases Classical.em (P1.tk = P2.tk) with h1 | h1
       · refine .inr (fun h2 => e ?_)
         unfold expB
         rw [h1, h2]
       · exact .inl h1) W (hS7.below hW) (hD8.below hW)
     clear hS hD hbe hbd hS7 hS8 hD8 ks kx ky ho1 ho2
     go_wp2_with (first
       | rw [HWA8.out]
       | (refine wpList_store_row rfl 41 _ _ rfl we.heap.size cs2 rfl rfl 41 zeroSt HKA8.out HIA8.out HSA8.out HOA8.out ?_)
       | (refine wpList_store_row rfl 44 _ _ rfl (we.heap.size + 1) ds2 rfl rfl 44 zeroWd (Blk.setRow HKB8.out (by omega) _) HIB8.out HSB8.out HOB8.out ?_; rw [HW8.out]))
     generalize hgx : we.heap.size = gx at *
     generalize hgy : gx + 1 = gy at *
     have HKP : Hid (∀ W, Below w8.heap.size w8 W → (fun W => ((loadVar 41 ⟨gs, 0, none⟩).run Tryz.prog W = .ok (.agg cs) W ∧ (loadVar 41 ⟨gx, 0, none⟩).run Tryz.prog W = .ok (.agg cs2) W ∧ (loadVar 44 ⟨gy, 0, none⟩).run Tryz.prog W = .ok (.agg ds2) W) ∧ Below w8.heap.size w8 W) W) := Lib.hid fun W hW => ⟨HKL.out W hW, hW⟩
     by_cases he : expB P1 = expB P2
     · have HSX := Lib.hid (HSM.out he)
       rw [he] at HE1
       generalize expB P2 = EX at *
       have hee : (EX.toList == EX.toList) = true := by simp
       clear he HSM HSN
       go_region_held3 (fun W => ((loadVar 41 ⟨gs, 0, none⟩).run Tryz.prog W = .ok (.agg cs) W ∧ (loadVar 41 ⟨gx, 0, none⟩).run Tryz.prog W = .ok (.agg cs2) W ∧ (loadVar 44 ⟨gy, 0, none⟩).run Tryz.prog W = .ok (.agg ds2) W) ∧ Below w8.heap.size w8 W)
        ((refine HKP.out _ ?_; first | exact hB3' | exact hB2' | exact hB1' | exact (Below.refl _ _).drew | exact Below.refl _ _))
        (first
         | (have := hB2'; go_at_call 17; refine (HSX.out _ hB2').mono ?_; rintro e w11 ⟨rfl, hb11⟩; have hB3' : Below w8.heap.size w8 w11 := hB2'.trans (hb11.mono hB2'.size))
         | (have := hB1'; go_at_call 14; refine (HE2.out _ hB1').mono ?_; rintro e w10 ⟨rfl, hb10⟩; have hB2' : Below w8.heap.size w8 w10 := hB1'.trans (hb10.mono hB1'.size))
         | (go_at_call 14; refine (HE1.out _ (Below.refl _ _).drew).mono ?_; rintro e w9 ⟨rfl, hb9⟩; have hB1' : Below w8.heap.size w8 w9 := (Below.refl _ _).drew.trans hb9))
       have hB9 := hb8.trans (hB3'.mono hb8.size)
       go_wp2
       go_ret
       exact ⟨rfl, hB9⟩
     · have HSX := Lib.hid (HSN.out he)
       generalize expB P1 = EX at *
       generalize expB P2 = EY at *
       have hee : (EX.toList == EY.toList) = false := by
        rw [beq_eq_false_iff_ne]
        exact fun h => he (toList_injY h)
       clear he HSM HSN
       go_region_held3 (fun W => ((loadVar 41 ⟨gs, 0, none⟩).run Tryz.prog W = .ok (.agg cs) W ∧ (loadVar 41 ⟨gx, 0, none⟩).run Tryz.prog W = .ok (.agg cs2) W ∧ (loadVar 44 ⟨gy, 0, none⟩).run Tryz.prog W = .ok (.agg ds2) W) ∧ Below w8.heap.size w8 W)
        ((refine HKP.out _ ?_; first | exact hB3' | exact hB2' | exact hB1' | exact (Below.refl _ _).drew | exact Below.refl _ _))
        (first
         | (have := hB2'; go_at_call 17; refine (HSX.out _ hB2').mono ?_; rintro e w11 ⟨rfl, hb11⟩; have hB3' : Below w8.heap.size w8 w11 := hB2'.trans (hb11.mono hB2'.size))
         | (have := hB1'; go_at_call 14; refine (HE2.out _ hB1').mono ?_; rintro e w10 ⟨rfl, hb10⟩; have hB2' : Below w8.heap.size w8 w10 := hB1'.trans (hb10.mono hB1'.size))
         | (go_at_call 14; refine (HE1.out _ (Below.refl _ _).drew).mono ?_; rintro e w9 ⟨rfl, hb9⟩; have hB1' : Below w8.heap.size w8 w9 := (Below.refl _ _).drew.trans hb9))
       have hB9 := hb8.trans (hB3'.mono hb8.size)
       go_wp2
       go_ret
       exact ⟨rfl, hB9⟩
end
end Go.Proofs.YtnbboabaihddbaaGreat

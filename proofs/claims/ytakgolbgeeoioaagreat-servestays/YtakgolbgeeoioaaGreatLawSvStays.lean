/-
 The law ServeStays.
-/
import Derived.Test.YtakgolbgeeoioaaGreatSvFindSNilSvValSvAnsSvAw
import Derived.Test.YtakgolbgeeoioaaGreatYRise
import Derived.Test.YtakgolbgeeoioaaGreatOpQry
import Derived.Deep.WholeRow
import Derived.Deep.CutRange
namespace Go.Proofs.YtakgolbgeeoioaaGreat
open Go.RowKit

section
attribute [-go_sem] loadVar
set_option maxRecDepth 100000 in
set_option maxHeartbeats 4000000 in
theorem law_sstays (oa : Option Addr) (n cap : Nat) (os : List OpR) (hl : os.length = n) (_ : n ≤ cap) (_ : n ≤ 9223372036854775807) (hb : ∀ x ∈ os, BndO x)
 (ob : Option Addr) (m cap' : Nat) (os' : List OpR) (hl' : os'.length = m) (_ : m ≤ cap') (_ : m ≤ 9223372036854775807) (hb' : ∀ x ∈ os', BndO x) (q : Qry) (hq : BndY q) (w : World) (hr : RowG opK w oa os) (hr' : RowG opK w ob os') :
 Calls Tryz.prog 5 #[.slice oa n cap, .slice ob m cap', .agg q.enc] w fun e w' => e = .returned (.bool true) ∧ Below w.heap.size w w' := by
 obtain ⟨k, a, b, key⟩ := q
 obtain ⟨hqk, hqa, hqb, hqz⟩ := hq
 dsimp only at hqk hqa hqb hqz
 change Calls Tryz.prog 5 #[.slice oa n cap, .slice ob m cap', .agg #[.int .i64 k, .int .i64 a, .int .i64 b, .string key]] w _
 obtain ⟨w0, hw0⟩ : ∃ w0, w.alloc (.cells #[.int .i64 k, .int .i64 a, .int .i64 b, .string key] 49) = w0 := ⟨_, rfl⟩
 have hb0 : Below w.heap.size w w0 := by rw [← hw0]; exact (Below.refl _ w).alloc (Nat.le_refl _) _
 have kq : Blk w0 w.heap.size 49 #[.int .i64 k, .int .i64 a, .int .i64 b, .string key] := by rw [← hw0]; exact Blk.new _ _ _
 have hg0 : w.heap.size < w0.heap.size := kq.lt
 have HQL : Hid (∀ X, Below w0.heap.size w0 X → (loadVar 49 ⟨w.heap.size, 0, none⟩).run Tryz.prog X = .ok (.agg #[.int .i64 k, .int .i64 a, .int .i64 b, .string key]) X ∧ (loadVar 3 ⟨w.heap.size, 0, none⟩).run Tryz.prog X = .ok (.int .i64 k) X ∧ (loadVar 9 ⟨w.heap.size, 3, none⟩).run Tryz.prog X = .ok (.string key) X) := Lib.hid fun X hX =>
  ⟨run_loadVar_row X w.heap.size 49 49 _ (0, 0) _ (kq.below hX kq.lt) Tryz.underlying49 rfl (by kernel_rfl), num_load ((kq.below hX kq.lt).cell 0), txt_load ((kq.below hX kq.lt).cell 3)⟩
 have HW0 := Lib.hid hw0
 have HB0 := Lib.hid hb0
 have HAW := Lib.hid (fun W => awake13_any W)
 have HMK := Lib.hid (fun W => make_std W)
 have hr0 := hr.below hb0
 have hr1 := hr'.below hb0
 obtain ⟨N2, hN2⟩ : ∃ N, (os ++ os').length = N := ⟨_, rfl⟩
 have hNN : N2 = n + m := by rw [← hN2, List.length_append, hl, hl']
 obtain ⟨P2, hP2⟩ : ∃ P, playW (os ++ os') = P := ⟨_, rfl⟩
 have HF1 := Lib.hid (fun W (hW : Below w0.heap.size w0 W) => rfewO_any oa n cap 20 os hl (by decide) W (hr0.below hW))
 have HR1 := Lib.hid (show ∀ W e w', RFewO n 20 os W e w' = ((∃ b, e = .returned (.bool b) ∧ (b = true → n ≤ 20 ∧ ∀ x ∈ os, smallB x.r = true)) ∧ Below W.heap.size W w') from fun _ _ _ => rfl)
 obtain ⟨P1, hP1⟩ : ∃ P, playW os = P := ⟨_, rfl⟩
 have HD1 : Hid (∀ W, Below w0.heap.size w0 W → n ≤ 20 → (∀ x ∈ os, smallB x.r = true) → Calls Tryz.prog 10 #[.agg tabV, .slice oa n cap] W fun e w' => ∃ cs ds, e = .returned (.tuple #[.agg cs, .agg ds, .bool true]) ∧ StC w' (geP W.heap.size) cs P1 ∧ WdC w' (geP W.heap.size) ds P1 ∧ Below W.heap.size W w') := Lib.hid fun W hW h1 h2 => by
  rw [← hP1]
  exact do_any oa n cap os hl (by omega) h2 (by assumption) W (hr0.below hW)
 have HF2 := Lib.hid (fun W (hW : Below w0.heap.size w0 W) => rfewO_any ob m cap' 15 os' hl' (by decide) W (hr1.below hW))
 have HR2 := Lib.hid (show ∀ W e w', RFewO m 15 os' W e w' = ((∃ b, e = .returned (.bool b) ∧ (b = true → m ≤ 15 ∧ ∀ x ∈ os', smallB x.r = true)) ∧ Below W.heap.size W w') from fun _ _ _ => rfl)
 have HD2 : Hid (∀ W o c, RowG opK W o (os ++ os') → n ≤ 20 → m ≤ 15 → (∀ x ∈ os, smallB x.r = true) → (∀ x ∈ os', smallB x.r = true) → Calls Tryz.prog 10 #[.agg tabV, .slice o N2 c] W fun e w' => ∃ cs ds, e = .returned (.tuple #[.agg cs, .agg ds, .bool true]) ∧ StC w' (geP W.heap.size) cs P2 ∧ WdC w' (geP W.heap.size) ds P2 ∧ Below W.heap.size W w') := Lib.hid fun W o c hR h1 h2 h3 h4 => by
  rw [← hP2]
  exact do_any o N2 c (os ++ os') hN2 (by omega) (fun x hx => (List.mem_append.1 hx).elim (h3 x) (h4 x)) (fun x hx => (List.mem_append.1 hx).elim (hb x) (hb' x)) W hR
 have HI1 : Hid (InvW P1) := Lib.hid (by rw [← hP1]; exact InvW.play os)
 have HI2 : Hid (InvW P2) := Lib.hid (by rw [← hP2]; exact InvW.play _)
 have HPF : Hid ((∃ a, P2.tk = P1.tk ++ a) ∧ ∃ b, P2.hd = P1.hd ++ b) := Lib.hid (by rw [← hP1, ← hP2]; exact play_front os os')
 have HO1 : Hid (∀ W, Below w0.heap.size w0 W → RowG opK W oa os) := Lib.hid fun W hW => hr0.below hW
 have HO2 : Hid (∀ W, Below w0.heap.size w0 W → RowG opK W ob os') := Lib.hid fun W hW => hr1.below hW
 clear hr hr' hr0 hr1 hP1 hP2 hb hb' hNN hw0 hb0 kq
 go_enter Tryz.func5, Tryz.ntmps5
 go_wp2_with (rw [HW0.out])
 refine (HAW.out _).mono ?_
 rintro e w1 ⟨rfl, hb1⟩
 go_wp2_with fail
 refine (HF1.out _ hb1).mono ?_
 rintro e w2 he
 rw [HR1.out] at he
 obtain ⟨⟨b, rfl, hbt⟩, hbf⟩ := he
 have hb2 := hb1.trans (hbf.mono hb1.size)
 clear hbf
 cases b with
 | false =>
  clear hbt
  go_wp2_with fail
  refine (HAW.out _).mono ?_
  rintro e w52 ⟨rfl, hb52⟩
  have hx52 := hb2.trans (hb52.mono hb2.size)
  go_wp2
  go_ret
  exact ⟨rfl, HB0.out.trans (hx52.mono HB0.out.size)⟩
 | true =>
  obtain ⟨hn1, hs1⟩ := hbt rfl
  clear hbt
  go_wp2_with fail
  refine (HF2.out _ hb2).mono ?_
  rintro e w3 he
  rw [HR2.out] at he
  obtain ⟨⟨b, rfl, hbt⟩, hbf⟩ := he
  have hb3 := hb2.trans (hbf.mono hb2.size)
  clear hbf
  cases b with
  | false =>
   clear hbt
   go_wp2_with fail
   refine (HAW.out _).mono ?_
   rintro e w53 ⟨rfl, hb53⟩
   have hx53 := hb3.trans (hb53.mono hb3.size)
   go_wp2
   go_ret
   exact ⟨rfl, HB0.out.trans (hx53.mono HB0.out.size)⟩
  | true =>
   obtain ⟨hn2, hs2⟩ := hbt rfl
   clear hbt
   obtain ⟨_, _, lk⟩ := HQL.out _ hb3
   by_cases hkl : 100 < key.size
   · have hkl' : (100 : Int) < (key.size : Int) := by omega
     go_wp2_with fail
     refine (HAW.out _).mono ?_
     rintro e w60 ⟨rfl, hb60⟩
     have hx60 := hb3.trans (hb60.mono hb3.size)
     go_wp2
     go_ret
     exact ⟨rfl, HB0.out.trans (hx60.mono HB0.out.size)⟩
   have hkl' : ¬ (100 : Int) < (key.size : Int) := by omega
   go_wp2_with fail
   refine (HMK.out _).mono ?_
   rintro e wm ⟨rfl, hbm⟩
   have hbn := hb3.trans (hbm.mono hb3.size)
   have hl3 := tab_run (Blk.new wm 29 tabV)
   go_wp2_with (refine wpList_store_row rfl 29 _ _ rfl wm.heap.size tabV rfl rfl 29 zero72 (Blk.new _ _ _) (by rw [tabV_size]; exact infoTable) (by kernel_rfl) (by kernel_rfl) ?_; rw [World.setRow_alloc_new])
   have hb5 := hbn.alloc hbn.size (.cells tabV 29)
   have kT : Blk (wm.alloc (.cells tabV 29)) wm.heap.size 29 tabV := Blk.new _ _ _
   clear hbm hbn
   generalize wm.alloc (.cells tabV 29) = w5 at *
   generalize wm.heap.size = gt at *
   refine (HD1.out w5 hb5 hn1 hs1).mono ?_
   rintro e wd ⟨cs, ds, rfl, hS, hD, hbd⟩
   replace kT := kT.below hbd kT.lt
   have hbe := hb5.trans (hbd.mono hb5.size)
   clear hl3 lk
   have zs8 := zeroS
   have zw8 := zeroW
   obtain ⟨wA8, hwA⟩ : ∃ wA, ((wd.alloc (.cells zeroSt 40)).alloc (.cells zeroWd 43)) = wA := ⟨_, rfl⟩
   have bA : Below wd.heap.size wd wA8 := by rw [← hwA]; exact ((Below.refl _ wd).alloc (Nat.le_refl _) _).alloc (by simp) _
   have kA : Blk wA8 wd.heap.size 40 zeroSt := by rw [← hwA]; exact (Blk.new _ _ _).alloc _
   have kB : Blk wA8 (wd.heap.size + 1) 43 zeroWd := by rw [← hwA]; exact Blk.new_at (by simp)
   obtain ⟨w8, hw8⟩ : ∃ x, (wA8.setRow wd.heap.size cs).setRow (wd.heap.size + 1) ds = x := ⟨_, rfl⟩
   have ks : Blk w8 wd.heap.size 40 cs := by rw [← hw8]; exact Blk.setRow (setRow_heap wA8 _ zeroSt cs 40 (0, 0) kA) (by omega) _
   have kw : Blk w8 (wd.heap.size + 1) 43 ds := by rw [← hw8]; exact setRow_heap _ _ zeroWd ds 43 (0, 0) (Blk.setRow kB (by omega) _)
   have b8 : Below wd.heap.size wd w8 := by rw [← hw8]; exact (bA.grown (only_setRow (grown_refl wA8 (some wd.heap.size)) cs) bA.size (fun k hk => by injection hk; omega)).grown (only_setRow (grown_refl _ (some (wd.heap.size + 1))) ds) (by have := bA.size; simp; omega) (fun k hk => by injection hk; omega)
   have HWA8 := Lib.hid hwA
   have HW8 := Lib.hid hw8
   have HKA8 := Lib.hid kA
   have HKB8 := Lib.hid kB
   have HIA8 : Hid ((Tryz.prog.info? 40).map (·.size) = some (cs : Array Value).size) := Lib.hid (by rw [hS.size]; exact infoS)
   have HIB8 : Hid ((Tryz.prog.info? 43).map (·.size) = some (ds : Array Value).size) := Lib.hid (by rw [hD.size]; kernel_rfl)
   have HSA8 : Hid ((zeroSt : Array Value).size = (cs : Array Value).size) := Lib.hid (by rw [hS.size]; rfl)
   have HSB8 : Hid ((zeroWd : Array Value).size = (ds : Array Value).size) := Lib.hid (by rw [hD.size]; rfl)
   have HOA8 : Hid (((cs : Array Value).all fun x => x.oneCell') = true) := Lib.hid hS.one
   have HOB8 : Hid (((ds : Array Value).all fun x => x.oneCell') = true) := Lib.hid hD.one
   clear hwA hw8 kA kB bA
   replace kT := kT.below b8 kT.lt
   have hb10 := hbe.trans (b8.mono hbe.size)
   have hS8 := hS.below b8
   have hD8 := hD.below b8
   have HSZ := Lib.hid hS.size
   clear hS hD hD8 hbe hbd kw
   go_wp2_with (first
    | rw [HWA8.out]
    | (refine wpList_store_row rfl 40 _ _ rfl wd.heap.size cs rfl rfl 40 zeroSt HKA8.out HIA8.out HSA8.out HOA8.out ?_)
    | (refine wpList_store_row rfl 43 _ _ rfl (wd.heap.size + 1) ds rfl rfl 43 zeroWd (Blk.setRow HKB8.out (by omega) _) HIB8.out HSB8.out HOB8.out ?_; rw [HW8.out]))
   have h30 := hn1
   have h20 := hn2
   have HSM := Lib.hid (And.intro hs1 hs2)
   clear hs1 hs2
   have hgT : gt < w8.heap.size := kT.lt
   have HKT : Hid (∀ W, Below w8.heap.size w8 W → (loadVar 29 ⟨gt, 0, none⟩).run Tryz.prog W = .ok (.agg tabV) W) := Lib.hid fun W hW => tab_run (kT.below hW kT.lt)
   have HOA : Hid (∀ W, Below w8.heap.size w8 W → RowG opK W oa os) := Lib.hid fun W hW => HO1.out W (hb10.trans (hW.mono hb10.size))
   have HOB : Hid (∀ W, Below w8.heap.size w8 W → RowG opK W ob os') := Lib.hid fun W hW => HO2.out W (hb10.trans (hW.mono hb10.size))
   have HLN := Lib.hid hl
   have HLM := Lib.hid hl'
   have HNN := Lib.hid hN2
   generalize wd.heap.size = gs at *
   clear hl hl' hN2 HO1 HO2
   go_upto_region 5 with fail
   go_cut [11, 12, 13] from 45 to 55 (fun p q b wx => ∃ ga gb cs2 ds2, p = .pointer (some ⟨ga, 0, none⟩) ∧ q = .pointer (some ⟨gb, 0, none⟩) ∧ b = .bool true ∧ w8.heap.size ≤ ga ∧ Blk wx ga 40 cs2 ∧ StC wx (geP w8.heap.size) cs2 P2 ∧ Below w8.heap.size w8 wx ∧ ds2 = (0 : Nat))
   case first =>
    have zs := zeroS
    have zw := zeroW
    refine wp_region_held_drew (S := fun W => (loadVar 29 ⟨gt, 0, none⟩).run Tryz.prog W = .ok (.agg tabV) W) (by kernel_rfl) ?_ (fun hHeld0 => ?_)
    · exact HKT.out _ (Below.refl _ _).drew
    have hE0 : Below w8.heap.size w8 w8.drew := (Below.refl _ _).drew
    generalize w8.drew = y0 at *
    iterate 3 (apply tkF [0, 2, 4] rfl rfl (by kernel_rfl) (fun _ _ _ h => h) (by rfl); (case hy => (intro w hSw; (try dsimp only at hSw); go_simp; try with_reducible rfl)); (case hS => assumption); (try simp only [Act.put, List.setIfInBounds_toArray, List.set_cons_zero, List.set_cons_succ]))
    refine doH3 (i := 1) (j := 11) (k := 12) rfl rfl rfl (by kernel_rfl) (by rfl) (by rfl) (by rfl) (fun K hK => ?_) (fun K hK => ?_) (fun K hK => ?_)
    go_simp
    have hO := ownG_lit opOk y0 w8.heap.size hE0.size
    have hyA := (Below.refl _ y0).alloc (Nat.le_refl _) (.cells #[] 63)
    have hE1 := hE0.trans (hyA.mono hE0.size)
    change OwnG _ (y0.alloc (.cells #[] 63)) _ _ _ at hO
    generalize y0.alloc (.cells #[] 63) = y1 at *
    generalize y0.heap.size = b0 at *
    clear hyA
    refine hK.out _ _ (HKT.out _ hE1) (fun hHeld => ?_)
    clear hK K
    (try simp only [Act.put, List.setIfInBounds_toArray, List.set_cons_zero, List.set_cons_succ])
    refine doH3 (i := 3) (j := 11) (k := 12) rfl rfl rfl (by kernel_rfl) (by rfl) (by rfl) (by rfl) (fun K hK => ?_) (fun K hK => ?_) (fun K hK => ?_)
    obtain ⟨v2, y2, hr, hO9, hg⟩ := append_g2 opOk hO oa n cap HLN.out (HOA.out y1 hE1) (by simp; omega) hE1.size
    have hE2 := hE1.grown hg hE1.size (fun j hj => (World.ownsRow.lt hO j hj).1)
    clear hO
    have hO := hO9
    clear hO9 hg
    rw [List.nil_append] at hO
    refine Lib.wp_append_run _ _ _ 22 22 rfl _ _ rfl rfl _ _ hr ?_
    clear hr
    refine hK.out _ _ (HKT.out _ hE2) (fun hHeld => ?_)
    clear hK K
    (try simp only [Act.put, List.setIfInBounds_toArray, List.set_cons_zero, List.set_cons_succ])
    refine doH3 (i := 5) (j := 11) (k := 12) rfl rfl rfl (by kernel_rfl) (by rfl) (by rfl) (by rfl) (fun K hK => ?_) (fun K hK => ?_) (fun K hK => ?_)
    obtain ⟨v3, y3, hr, hO9, hg⟩ := append_g2 opOk hO ob m cap' HLM.out (HOB.out y2 hE2) (by rw [HLN.out]; omega) hE2.size
    have hE3 := hE2.grown hg hE2.size (fun j hj => (World.ownsRow.lt hO j hj).1)
    clear hO
    have hO := hO9
    clear hO9 hg
    refine Lib.wp_append_run _ _ _ 22 22 rfl _ _ rfl rfl _ _ hr ?_
    clear hr
    obtain ⟨o5, c5, hv5, hR5, _⟩ := hO.form opOk
    rw [HNN.out] at hv5
    subst hv5
    refine hK.out _ _ (HKT.out _ hE3) (fun hHeld => ?_)
    clear hK K
    (try simp only [Act.put, List.setIfInBounds_toArray, List.set_cons_zero, List.set_cons_succ])
    refine doH3 (i := 6) (j := 11) (k := 12) rfl rfl rfl (by kernel_rfl) (by rfl) (by rfl) (by rfl) (fun K hK => ?_) (fun K hK => ?_) (fun K hK => ?_)
    go_simp
    go_at_call 10
    refine (HD2.out y3 o5 c5 hR5 h30 h20 HSM.out.1 HSM.out.2).mono ?_
    rintro e y4 ⟨cs2, ds2, rfl, hX, hXd, hyc⟩
    have hvy := hE3.size
    have hE4 : Below w8.heap.size w8 y4 := hE3.trans (hyc.mono hE3.size)
    have hs1 := hX.size
    have hs2 := hXd.size
    have ho1 := hX.one
    have ho2 := hXd.one
    obtain ⟨yc, hycc⟩ : ∃ yc, y4 = yc := ⟨_, rfl⟩
    rw [hycc] at hX
    have hbc : Below yc.heap.size yc y4 := by rw [hycc]; exact Below.refl _ _
    clear hycc hXd hO hR5
    go_wp2_with fail
    refine hK.out _ _ (HKT.out _ hE4) (fun hHeld => ?_)
    clear hK K
    (try simp only [Act.put, List.setIfInBounds_toArray, List.set_cons_zero, List.set_cons_succ])
    iterate 4 (apply tkF [7, 8, 9, 10] rfl rfl (by kernel_rfl) (fun _ _ _ h => h) (by rfl); (case hy => (intro w hSw; (try dsimp only at hSw); go_simp; try with_reducible rfl)); (case hS => assumption); (try simp only [Act.put, List.setIfInBounds_toArray, List.set_cons_zero, List.set_cons_succ]))
    refine doH2 (i := 11) (j := 12) rfl rfl (by kernel_rfl) (by rfl) (by rfl) (fun K hK => ?_) (fun K hK => ?_)
    go_simp
    have ka : Blk (y4.alloc (.cells zeroSt 40)) y4.heap.size 40 zeroSt := Blk.new _ _ _
    have hyA := (Below.refl _ y4).alloc (Nat.le_refl _) (.cells zeroSt 40)
    have hE5 := hE4.trans (hyA.mono hE4.size)
    have la : w8.heap.size ≤ y4.heap.size := hE4.size
    have ua : yc.heap.size ≤ y4.heap.size := hbc.size
    replace hbc := hbc.trans (hyA.mono hbc.size)
    generalize y4.alloc (.cells zeroSt 40) = y5 at *
    generalize y4.heap.size = ga at *
    clear hyA
    refine hK.out _ _ (HKT.out _ hE5) (fun hHeld => ?_)
    clear hK K
    (try simp only [Act.put, List.setIfInBounds_toArray, List.set_cons_zero, List.set_cons_succ])
    refine doH (i := 12) rfl (by kernel_rfl) (by rfl) (fun K hK => ?_)
    go_simp
    have kb : Blk (y5.alloc (.cells zeroWd 43)) y5.heap.size 43 zeroWd := Blk.new _ _ _
    have hyA := (Below.refl _ y5).alloc (Nat.le_refl _) (.cells zeroWd 43)
    have hE6 := hE5.trans (hyA.mono hE5.size)
    have lb : w8.heap.size ≤ y5.heap.size := hE5.size
    have dba : ga < y5.heap.size := ka.lt
    replace ka := ka.below hyA ka.lt
    have ub : yc.heap.size ≤ y5.heap.size := hbc.size
    replace hbc := hbc.trans (hyA.mono hbc.size)
    generalize y5.alloc (.cells zeroWd 43) = y6 at *
    generalize y5.heap.size = gb at *
    clear hyA
    refine hK.out _ _ (HKT.out _ hE6) (fun hHeld => ?_)
    clear hK K
    (try simp only [Act.put, List.setIfInBounds_toArray, List.set_cons_zero, List.set_cons_succ])
    refine doH (i := 13) rfl (by kernel_rfl) (by rfl) (fun K hK => ?_)
    refine wp_store_row 40 _ _ rfl ga cs2 rfl rfl 40 zeroSt ka (iSt hs1) hs1.symm ho1 ?_
    have hF1 := row_below hE6 ga (by omega) cs2
    refine hK.out _ _ (HKT.out _ hF1) (fun hHeld => ?_)
    clear hK K
    (try simp only [Act.put])
    refine doH (i := 14) rfl (by kernel_rfl) (by rfl) (fun K hK => ?_)
    refine wp_store_row 43 _ _ rfl gb ds2 rfl rfl 43 zeroWd (Blk.setRow kb (by omega) cs2) (iWd hs2) hs2.symm ho2 ?_
    have hF2 := row_below hF1 gb (by omega) ds2
    refine hK.out _ _ (HKT.out _ hF2) (fun hHeld => ?_)
    clear hK K
    (try simp only [Act.put])
    (apply tkF [15] rfl rfl (by kernel_rfl) (fun _ _ _ h => h) (by rfl); (case hy => (intro w hSw; (try dsimp only at hSw); go_simp; try with_reducible rfl)); (case hS => assumption); (try simp only [Act.put, List.setIfInBounds_toArray, List.set_cons_zero, List.set_cons_succ]))
    refine wpAnyH_done (by kernel_rfl) ?_ _
    go_wp2_with fail
    go_meet
    obtain ⟨t1, t2⟩ := rise_tail (B := w8.heap.size) (gb := gb) (ds2 := ds2) hX hbc ka (by omega) (by omega) (fun q _ _ => by omega)
    exact ⟨ga, gb, cs2, 0, rfl, rfl, rfl, la, t1, t2, hF2, rfl⟩
    go_simp
    have kb : Blk (y4.alloc (.cells zeroWd 43)) y4.heap.size 43 zeroWd := Blk.new _ _ _
    have hyA := (Below.refl _ y4).alloc (Nat.le_refl _) (.cells zeroWd 43)
    have hE7 := hE4.trans (hyA.mono hE4.size)
    have lb : w8.heap.size ≤ y4.heap.size := hE4.size
    have ub : yc.heap.size ≤ y4.heap.size := hbc.size
    replace hbc := hbc.trans (hyA.mono hbc.size)
    generalize y4.alloc (.cells zeroWd 43) = y7 at *
    generalize y4.heap.size = gb at *
    clear hyA
    refine hK.out _ _ (HKT.out _ hE7) (fun hHeld => ?_)
    clear hK K
    (try simp only [Act.put, List.setIfInBounds_toArray, List.set_cons_zero, List.set_cons_succ])
    refine doH (i := 11) rfl (by kernel_rfl) (by rfl) (fun K hK => ?_)
    go_simp
    have ka : Blk (y7.alloc (.cells zeroSt 40)) y7.heap.size 40 zeroSt := Blk.new _ _ _
    have hyA := (Below.refl _ y7).alloc (Nat.le_refl _) (.cells zeroSt 40)
    have hE8 := hE7.trans (hyA.mono hE7.size)
    have la : w8.heap.size ≤ y7.heap.size := hE7.size
    have dab : gb < y7.heap.size := kb.lt
    replace kb := kb.below hyA kb.lt
    have ua : yc.heap.size ≤ y7.heap.size := hbc.size
    replace hbc := hbc.trans (hyA.mono hbc.size)
    generalize y7.alloc (.cells zeroSt 40) = y8 at *
    generalize y7.heap.size = ga at *
    clear hyA
    refine hK.out _ _ (HKT.out _ hE8) (fun hHeld => ?_)
    clear hK K
    (try simp only [Act.put, List.setIfInBounds_toArray, List.set_cons_zero, List.set_cons_succ])
    refine doH (i := 13) rfl (by kernel_rfl) (by rfl) (fun K hK => ?_)
    refine wp_store_row 40 _ _ rfl ga cs2 rfl rfl 40 zeroSt ka (iSt hs1) hs1.symm ho1 ?_
    have hF1 := row_below hE8 ga (by omega) cs2
    refine hK.out _ _ (HKT.out _ hF1) (fun hHeld => ?_)
    clear hK K
    (try simp only [Act.put])
    refine doH (i := 14) rfl (by kernel_rfl) (by rfl) (fun K hK => ?_)
    refine wp_store_row 43 _ _ rfl gb ds2 rfl rfl 43 zeroWd (Blk.setRow kb (by omega) cs2) (iWd hs2) hs2.symm ho2 ?_
    have hF2 := row_below hF1 gb (by omega) ds2
    refine hK.out _ _ (HKT.out _ hF2) (fun hHeld => ?_)
    clear hK K
    (try simp only [Act.put])
    (apply tkF [15] rfl rfl (by kernel_rfl) (fun _ _ _ h => h) (by rfl); (case hy => (intro w hSw; (try dsimp only at hSw); go_simp; try with_reducible rfl)); (case hS => assumption); (try simp only [Act.put, List.setIfInBounds_toArray, List.set_cons_zero, List.set_cons_succ]))
    refine wpAnyH_done (by kernel_rfl) ?_ _
    go_wp2_with fail
    go_meet
    obtain ⟨t1, t2⟩ := rise_tail (B := w8.heap.size) (gb := gb) (ds2 := ds2) hX hbc ka (by omega) (by omega) (fun q _ _ => by omega)
    exact ⟨ga, gb, cs2, 0, rfl, rfl, rfl, la, t1, t2, hF2, rfl⟩
    go_simp
    have ka : Blk (y3.alloc (.cells zeroSt 40)) y3.heap.size 40 zeroSt := Blk.new _ _ _
    have hyA := (Below.refl _ y3).alloc (Nat.le_refl _) (.cells zeroSt 40)
    have hE9 := hE3.trans (hyA.mono hE3.size)
    have la : w8.heap.size ≤ y3.heap.size := hE3.size
    replace hO := hO.below hyA
    replace hR5 := hR5.below hyA
    generalize y3.alloc (.cells zeroSt 40) = y9 at *
    generalize y3.heap.size = ga at *
    clear hyA
    refine hK.out _ _ (HKT.out _ hE9) (fun hHeld => ?_)
    clear hK K
    (try simp only [Act.put, List.setIfInBounds_toArray, List.set_cons_zero, List.set_cons_succ])
    refine doH2 (i := 6) (j := 12) rfl rfl (by kernel_rfl) (by rfl) (by rfl) (fun K hK => ?_) (fun K hK => ?_)
    go_simp
    go_at_call 10
    refine (HD2.out y9 o5 c5 hR5 h30 h20 HSM.out.1 HSM.out.2).mono ?_
    rintro e y10 ⟨cs2, ds2, rfl, hX, hXd, hyc⟩
    have hvy := hE9.size
    have va : ga < y9.heap.size := ka.lt
    have hE10 : Below w8.heap.size w8 y10 := hE9.trans (hyc.mono hE9.size)
    replace ka := ka.below hyc ka.lt
    have hs1 := hX.size
    have hs2 := hXd.size
    have ho1 := hX.one
    have ho2 := hXd.one
    obtain ⟨yc, hycc⟩ : ∃ yc, y10 = yc := ⟨_, rfl⟩
    rw [hycc] at hX
    have hbc : Below yc.heap.size yc y10 := by rw [hycc]; exact Below.refl _ _
    have ua : ga < yc.heap.size := by rw [← hycc]; exact ka.lt
    clear hycc hXd hO hR5
    go_wp2_with fail
    refine hK.out _ _ (HKT.out _ hE10) (fun hHeld => ?_)
    clear hK K
    (try simp only [Act.put, List.setIfInBounds_toArray, List.set_cons_zero, List.set_cons_succ])
    iterate 4 (apply tkF [7, 8, 9, 10] rfl rfl (by kernel_rfl) (fun _ _ _ h => h) (by rfl); (case hy => (intro w hSw; (try dsimp only at hSw); go_simp; try with_reducible rfl)); (case hS => assumption); (try simp only [Act.put, List.setIfInBounds_toArray, List.set_cons_zero, List.set_cons_succ]))
    refine doH (i := 12) rfl (by kernel_rfl) (by rfl) (fun K hK => ?_)
    go_simp
    have kb : Blk (y10.alloc (.cells zeroWd 43)) y10.heap.size 43 zeroWd := Blk.new _ _ _
    have hyA := (Below.refl _ y10).alloc (Nat.le_refl _) (.cells zeroWd 43)
    have hE11 := hE10.trans (hyA.mono hE10.size)
    have lb : w8.heap.size ≤ y10.heap.size := hE10.size
    have dba : ga < y10.heap.size := ka.lt
    replace ka := ka.below hyA ka.lt
    have ub : yc.heap.size ≤ y10.heap.size := hbc.size
    replace hbc := hbc.trans (hyA.mono hbc.size)
    generalize y10.alloc (.cells zeroWd 43) = y11 at *
    generalize y10.heap.size = gb at *
    clear hyA
    refine hK.out _ _ (HKT.out _ hE11) (fun hHeld => ?_)
    clear hK K
    (try simp only [Act.put, List.setIfInBounds_toArray, List.set_cons_zero, List.set_cons_succ])
    refine doH (i := 13) rfl (by kernel_rfl) (by rfl) (fun K hK => ?_)
    refine wp_store_row 40 _ _ rfl ga cs2 rfl rfl 40 zeroSt ka (iSt hs1) hs1.symm ho1 ?_
    have hF1 := row_below hE11 ga (by omega) cs2
    refine hK.out _ _ (HKT.out _ hF1) (fun hHeld => ?_)
    clear hK K
    (try simp only [Act.put])
    refine doH (i := 14) rfl (by kernel_rfl) (by rfl) (fun K hK => ?_)
    refine wp_store_row 43 _ _ rfl gb ds2 rfl rfl 43 zeroWd (Blk.setRow kb (by omega) cs2) (iWd hs2) hs2.symm ho2 ?_
    have hF2 := row_below hF1 gb (by omega) ds2
    refine hK.out _ _ (HKT.out _ hF2) (fun hHeld => ?_)
    clear hK K
    (try simp only [Act.put])
    (apply tkF [15] rfl rfl (by kernel_rfl) (fun _ _ _ h => h) (by rfl); (case hy => (intro w hSw; (try dsimp only at hSw); go_simp; try with_reducible rfl)); (case hS => assumption); (try simp only [Act.put, List.setIfInBounds_toArray, List.set_cons_zero, List.set_cons_succ]))
    refine wpAnyH_done (by kernel_rfl) ?_ _
    go_wp2_with fail
    go_meet
    obtain ⟨t1, t2⟩ := rise_tail (B := w8.heap.size) (gb := gb) (ds2 := ds2) hX hbc ka (by omega) (by omega) (fun q _ _ => by omega)
    exact ⟨ga, gb, cs2, 0, rfl, rfl, rfl, la, t1, t2, hF2, rfl⟩
    go_simp
    have kb : Blk (y9.alloc (.cells zeroWd 43)) y9.heap.size 43 zeroWd := Blk.new _ _ _
    have hyA := (Below.refl _ y9).alloc (Nat.le_refl _) (.cells zeroWd 43)
    have hE12 := hE9.trans (hyA.mono hE9.size)
    have lb : w8.heap.size ≤ y9.heap.size := hE9.size
    have dba : ga < y9.heap.size := ka.lt
    replace ka := ka.below hyA ka.lt
    replace hO := hO.below hyA
    replace hR5 := hR5.below hyA
    generalize y9.alloc (.cells zeroWd 43) = y12 at *
    generalize y9.heap.size = gb at *
    clear hyA
    refine hK.out _ _ (HKT.out _ hE12) (fun hHeld => ?_)
    clear hK K
    (try simp only [Act.put, List.setIfInBounds_toArray, List.set_cons_zero, List.set_cons_succ])
    refine doH (i := 6) rfl (by kernel_rfl) (by rfl) (fun K hK => ?_)
    go_simp
    go_at_call 10
    refine (HD2.out y12 o5 c5 hR5 h30 h20 HSM.out.1 HSM.out.2).mono ?_
    rintro e y13 ⟨cs2, ds2, rfl, hX, hXd, hyc⟩
    have hvy := hE12.size
    have va : ga < y12.heap.size := ka.lt
    have vb : gb < y12.heap.size := kb.lt
    have hE13 : Below w8.heap.size w8 y13 := hE12.trans (hyc.mono hE12.size)
    replace ka := ka.below hyc ka.lt
    replace kb := kb.below hyc kb.lt
    have hs1 := hX.size
    have hs2 := hXd.size
    have ho1 := hX.one
    have ho2 := hXd.one
    obtain ⟨yc, hycc⟩ : ∃ yc, y13 = yc := ⟨_, rfl⟩
    rw [hycc] at hX
    have hbc : Below yc.heap.size yc y13 := by rw [hycc]; exact Below.refl _ _
    have ua : ga < yc.heap.size := by rw [← hycc]; exact ka.lt
    have ub : gb < yc.heap.size := by rw [← hycc]; exact kb.lt
    clear hycc hXd hO hR5
    go_wp2_with fail
    refine hK.out _ _ (HKT.out _ hE13) (fun hHeld => ?_)
    clear hK K
    (try simp only [Act.put, List.setIfInBounds_toArray, List.set_cons_zero, List.set_cons_succ])
    iterate 4 (apply tkF [7, 8, 9, 10] rfl rfl (by kernel_rfl) (fun _ _ _ h => h) (by rfl); (case hy => (intro w hSw; (try dsimp only at hSw); go_simp; try with_reducible rfl)); (case hS => assumption); (try simp only [Act.put, List.setIfInBounds_toArray, List.set_cons_zero, List.set_cons_succ]))
    refine doH (i := 13) rfl (by kernel_rfl) (by rfl) (fun K hK => ?_)
    refine wp_store_row 40 _ _ rfl ga cs2 rfl rfl 40 zeroSt ka (iSt hs1) hs1.symm ho1 ?_
    have hF1 := row_below hE13 ga (by omega) cs2
    refine hK.out _ _ (HKT.out _ hF1) (fun hHeld => ?_)
    clear hK K
    (try simp only [Act.put])
    refine doH (i := 14) rfl (by kernel_rfl) (by rfl) (fun K hK => ?_)
    refine wp_store_row 43 _ _ rfl gb ds2 rfl rfl 43 zeroWd (Blk.setRow kb (by omega) cs2) (iWd hs2) hs2.symm ho2 ?_
    have hF2 := row_below hF1 gb (by omega) ds2
    refine hK.out _ _ (HKT.out _ hF2) (fun hHeld => ?_)
    clear hK K
    (try simp only [Act.put])
    (apply tkF [15] rfl rfl (by kernel_rfl) (fun _ _ _ h => h) (by rfl); (case hy => (intro w hSw; (try dsimp only at hSw); go_simp; try with_reducible rfl)); (case hS => assumption); (try simp only [Act.put, List.setIfInBounds_toArray, List.set_cons_zero, List.set_cons_succ]))
    refine wpAnyH_done (by kernel_rfl) ?_ _
    go_wp2_with fail
    go_meet
    obtain ⟨t1, t2⟩ := rise_tail (B := w8.heap.size) (gb := gb) (ds2 := ds2) hX hbc ka (by omega) (by omega) (fun q _ _ => by omega)
    exact ⟨ga, gb, cs2, 0, rfl, rfl, rfl, la, t1, t2, hF2, rfl⟩
    go_simp
    have kb : Blk (y3.alloc (.cells zeroWd 43)) y3.heap.size 43 zeroWd := Blk.new _ _ _
    have hyA := (Below.refl _ y3).alloc (Nat.le_refl _) (.cells zeroWd 43)
    have hE14 := hE3.trans (hyA.mono hE3.size)
    have lb : w8.heap.size ≤ y3.heap.size := hE3.size
    replace hO := hO.below hyA
    replace hR5 := hR5.below hyA
    generalize y3.alloc (.cells zeroWd 43) = y14 at *
    generalize y3.heap.size = gb at *
    clear hyA
    refine hK.out _ _ (HKT.out _ hE14) (fun hHeld => ?_)
    clear hK K
    (try simp only [Act.put, List.setIfInBounds_toArray, List.set_cons_zero, List.set_cons_succ])
    refine doH2 (i := 6) (j := 11) rfl rfl (by kernel_rfl) (by rfl) (by rfl) (fun K hK => ?_) (fun K hK => ?_)
    go_simp
    go_at_call 10
    refine (HD2.out y14 o5 c5 hR5 h30 h20 HSM.out.1 HSM.out.2).mono ?_
    rintro e y15 ⟨cs2, ds2, rfl, hX, hXd, hyc⟩
    have hvy := hE14.size
    have vb : gb < y14.heap.size := kb.lt
    have hE15 : Below w8.heap.size w8 y15 := hE14.trans (hyc.mono hE14.size)
    replace kb := kb.below hyc kb.lt
    have hs1 := hX.size
    have hs2 := hXd.size
    have ho1 := hX.one
    have ho2 := hXd.one
    obtain ⟨yc, hycc⟩ : ∃ yc, y15 = yc := ⟨_, rfl⟩
    rw [hycc] at hX
    have hbc : Below yc.heap.size yc y15 := by rw [hycc]; exact Below.refl _ _
    have ub : gb < yc.heap.size := by rw [← hycc]; exact kb.lt
    clear hycc hXd hO hR5
    go_wp2_with fail
    refine hK.out _ _ (HKT.out _ hE15) (fun hHeld => ?_)
    clear hK K
    (try simp only [Act.put, List.setIfInBounds_toArray, List.set_cons_zero, List.set_cons_succ])
    iterate 4 (apply tkF [7, 8, 9, 10] rfl rfl (by kernel_rfl) (fun _ _ _ h => h) (by rfl); (case hy => (intro w hSw; (try dsimp only at hSw); go_simp; try with_reducible rfl)); (case hS => assumption); (try simp only [Act.put, List.setIfInBounds_toArray, List.set_cons_zero, List.set_cons_succ]))
    refine doH (i := 11) rfl (by kernel_rfl) (by rfl) (fun K hK => ?_)
    go_simp
    have ka : Blk (y15.alloc (.cells zeroSt 40)) y15.heap.size 40 zeroSt := Blk.new _ _ _
    have hyA := (Below.refl _ y15).alloc (Nat.le_refl _) (.cells zeroSt 40)
    have hE16 := hE15.trans (hyA.mono hE15.size)
    have la : w8.heap.size ≤ y15.heap.size := hE15.size
    have dab : gb < y15.heap.size := kb.lt
    replace kb := kb.below hyA kb.lt
    have ua : yc.heap.size ≤ y15.heap.size := hbc.size
    replace hbc := hbc.trans (hyA.mono hbc.size)
    generalize y15.alloc (.cells zeroSt 40) = y16 at *
    generalize y15.heap.size = ga at *
    clear hyA
    refine hK.out _ _ (HKT.out _ hE16) (fun hHeld => ?_)
    clear hK K
    (try simp only [Act.put, List.setIfInBounds_toArray, List.set_cons_zero, List.set_cons_succ])
    refine doH (i := 13) rfl (by kernel_rfl) (by rfl) (fun K hK => ?_)
    refine wp_store_row 40 _ _ rfl ga cs2 rfl rfl 40 zeroSt ka (iSt hs1) hs1.symm ho1 ?_
    have hF1 := row_below hE16 ga (by omega) cs2
    refine hK.out _ _ (HKT.out _ hF1) (fun hHeld => ?_)
    clear hK K
    (try simp only [Act.put])
    refine doH (i := 14) rfl (by kernel_rfl) (by rfl) (fun K hK => ?_)
    refine wp_store_row 43 _ _ rfl gb ds2 rfl rfl 43 zeroWd (Blk.setRow kb (by omega) cs2) (iWd hs2) hs2.symm ho2 ?_
    have hF2 := row_below hF1 gb (by omega) ds2
    refine hK.out _ _ (HKT.out _ hF2) (fun hHeld => ?_)
    clear hK K
    (try simp only [Act.put])
    (apply tkF [15] rfl rfl (by kernel_rfl) (fun _ _ _ h => h) (by rfl); (case hy => (intro w hSw; (try dsimp only at hSw); go_simp; try with_reducible rfl)); (case hS => assumption); (try simp only [Act.put, List.setIfInBounds_toArray, List.set_cons_zero, List.set_cons_succ]))
    refine wpAnyH_done (by kernel_rfl) ?_ _
    go_wp2_with fail
    go_meet
    obtain ⟨t1, t2⟩ := rise_tail (B := w8.heap.size) (gb := gb) (ds2 := ds2) hX hbc ka (by omega) (by omega) (fun q _ _ => by omega)
    exact ⟨ga, gb, cs2, 0, rfl, rfl, rfl, la, t1, t2, hF2, rfl⟩
    go_simp
    have ka : Blk (y14.alloc (.cells zeroSt 40)) y14.heap.size 40 zeroSt := Blk.new _ _ _
    have hyA := (Below.refl _ y14).alloc (Nat.le_refl _) (.cells zeroSt 40)
    have hE17 := hE14.trans (hyA.mono hE14.size)
    have la : w8.heap.size ≤ y14.heap.size := hE14.size
    have dab : gb < y14.heap.size := kb.lt
    replace kb := kb.below hyA kb.lt
    replace hO := hO.below hyA
    replace hR5 := hR5.below hyA
    generalize y14.alloc (.cells zeroSt 40) = y17 at *
    generalize y14.heap.size = ga at *
    clear hyA
    refine hK.out _ _ (HKT.out _ hE17) (fun hHeld => ?_)
    clear hK K
    (try simp only [Act.put, List.setIfInBounds_toArray, List.set_cons_zero, List.set_cons_succ])
    refine doH (i := 6) rfl (by kernel_rfl) (by rfl) (fun K hK => ?_)
    go_simp
    go_at_call 10
    refine (HD2.out y17 o5 c5 hR5 h30 h20 HSM.out.1 HSM.out.2).mono ?_
    rintro e y18 ⟨cs2, ds2, rfl, hX, hXd, hyc⟩
    have hvy := hE17.size
    have vb : gb < y17.heap.size := kb.lt
    have va : ga < y17.heap.size := ka.lt
    have hE18 : Below w8.heap.size w8 y18 := hE17.trans (hyc.mono hE17.size)
    replace kb := kb.below hyc kb.lt
    replace ka := ka.below hyc ka.lt
    have hs1 := hX.size
    have hs2 := hXd.size
    have ho1 := hX.one
    have ho2 := hXd.one
    obtain ⟨yc, hycc⟩ : ∃ yc, y18 = yc := ⟨_, rfl⟩
    rw [hycc] at hX
    have hbc : Below yc.heap.size yc y18 := by rw [hycc]; exact Below.refl _ _
    have ub : gb < yc.heap.size := by rw [← hycc]; exact kb.lt
    have ua : ga < yc.heap.size := by rw [← hycc]; exact ka.lt
    clear hycc hXd hO hR5
    go_wp2_with fail
    refine hK.out _ _ (HKT.out _ hE18) (fun hHeld => ?_)
    clear hK K
    (try simp only [Act.put, List.setIfInBounds_toArray, List.set_cons_zero, List.set_cons_succ])
    iterate 4 (apply tkF [7, 8, 9, 10] rfl rfl (by kernel_rfl) (fun _ _ _ h => h) (by rfl); (case hy => (intro w hSw; (try dsimp only at hSw); go_simp; try with_reducible rfl)); (case hS => assumption); (try simp only [Act.put, List.setIfInBounds_toArray, List.set_cons_zero, List.set_cons_succ]))
    refine doH (i := 13) rfl (by kernel_rfl) (by rfl) (fun K hK => ?_)
    refine wp_store_row 40 _ _ rfl ga cs2 rfl rfl 40 zeroSt ka (iSt hs1) hs1.symm ho1 ?_
    have hF1 := row_below hE18 ga (by omega) cs2
    refine hK.out _ _ (HKT.out _ hF1) (fun hHeld => ?_)
    clear hK K
    (try simp only [Act.put])
    refine doH (i := 14) rfl (by kernel_rfl) (by rfl) (fun K hK => ?_)
    refine wp_store_row 43 _ _ rfl gb ds2 rfl rfl 43 zeroWd (Blk.setRow kb (by omega) cs2) (iWd hs2) hs2.symm ho2 ?_
    have hF2 := row_below hF1 gb (by omega) ds2
    refine hK.out _ _ (HKT.out _ hF2) (fun hHeld => ?_)
    clear hK K
    (try simp only [Act.put])
    (apply tkF [15] rfl rfl (by kernel_rfl) (fun _ _ _ h => h) (by rfl); (case hy => (intro w hSw; (try dsimp only at hSw); go_simp; try with_reducible rfl)); (case hS => assumption); (try simp only [Act.put, List.setIfInBounds_toArray, List.set_cons_zero, List.set_cons_succ]))
    refine wpAnyH_done (by kernel_rfl) ?_ _
    go_wp2_with fail
    go_meet
    obtain ⟨t1, t2⟩ := rise_tail (B := w8.heap.size) (gb := gb) (ds2 := ds2) hX hbc ka (by omega) (by omega) (fun q _ _ => by omega)
    exact ⟨ga, gb, cs2, 0, rfl, rfl, rfl, la, t1, t2, hF2, rfl⟩
    go_simp
    have ka : Blk (y2.alloc (.cells zeroSt 40)) y2.heap.size 40 zeroSt := Blk.new _ _ _
    have hyA := (Below.refl _ y2).alloc (Nat.le_refl _) (.cells zeroSt 40)
    have hE19 := hE2.trans (hyA.mono hE2.size)
    have la : w8.heap.size ≤ y2.heap.size := hE2.size
    replace hO := hO.below hyA
    generalize y2.alloc (.cells zeroSt 40) = y19 at *
    generalize y2.heap.size = ga at *
    clear hyA
    refine hK.out _ _ (HKT.out _ hE19) (fun hHeld => ?_)
    clear hK K
    (try simp only [Act.put, List.setIfInBounds_toArray, List.set_cons_zero, List.set_cons_succ])
    refine doH2 (i := 5) (j := 12) rfl rfl (by kernel_rfl) (by rfl) (by rfl) (fun K hK => ?_) (fun K hK => ?_)
    obtain ⟨v20, y20, hr, hO9, hg⟩ := append_g2 opOk hO ob m cap' HLM.out (HOB.out y19 hE19) (by rw [HLN.out]; omega) hE19.size
    have hE20 := hE19.grown hg hE19.size (fun j hj => (World.ownsRow.lt hO j hj).1)
    replace ka := ka.grown hg (ne_row (apartT hO ka (by decide)))
    clear hO
    have hO := hO9
    clear hO9 hg
    refine Lib.wp_append_run _ _ _ 22 22 rfl _ _ rfl rfl _ _ hr ?_
    clear hr
    obtain ⟨o5, c5, hv5, hR5, _⟩ := hO.form opOk
    rw [HNN.out] at hv5
    subst hv5
    refine hK.out _ _ (HKT.out _ hE20) (fun hHeld => ?_)
    clear hK K
    (try simp only [Act.put, List.setIfInBounds_toArray, List.set_cons_zero, List.set_cons_succ])
    refine doH2 (i := 6) (j := 12) rfl rfl (by kernel_rfl) (by rfl) (by rfl) (fun K hK => ?_) (fun K hK => ?_)
    go_simp
    go_at_call 10
    refine (HD2.out y20 o5 c5 hR5 h30 h20 HSM.out.1 HSM.out.2).mono ?_
    rintro e y21 ⟨cs2, ds2, rfl, hX, hXd, hyc⟩
    have hvy := hE20.size
    have va : ga < y20.heap.size := ka.lt
    have hE21 : Below w8.heap.size w8 y21 := hE20.trans (hyc.mono hE20.size)
    replace ka := ka.below hyc ka.lt
    have hs1 := hX.size
    have hs2 := hXd.size
    have ho1 := hX.one
    have ho2 := hXd.one
    obtain ⟨yc, hycc⟩ : ∃ yc, y21 = yc := ⟨_, rfl⟩
    rw [hycc] at hX
    have hbc : Below yc.heap.size yc y21 := by rw [hycc]; exact Below.refl _ _
    have ua : ga < yc.heap.size := by rw [← hycc]; exact ka.lt
    clear hycc hXd hO hR5
    go_wp2_with fail
    refine hK.out _ _ (HKT.out _ hE21) (fun hHeld => ?_)
    clear hK K
    (try simp only [Act.put, List.setIfInBounds_toArray, List.set_cons_zero, List.set_cons_succ])
    iterate 4 (apply tkF [7, 8, 9, 10] rfl rfl (by kernel_rfl) (fun _ _ _ h => h) (by rfl); (case hy => (intro w hSw; (try dsimp only at hSw); go_simp; try with_reducible rfl)); (case hS => assumption); (try simp only [Act.put, List.setIfInBounds_toArray, List.set_cons_zero, List.set_cons_succ]))
    refine doH (i := 12) rfl (by kernel_rfl) (by rfl) (fun K hK => ?_)
    go_simp
    have kb : Blk (y21.alloc (.cells zeroWd 43)) y21.heap.size 43 zeroWd := Blk.new _ _ _
    have hyA := (Below.refl _ y21).alloc (Nat.le_refl _) (.cells zeroWd 43)
    have hE22 := hE21.trans (hyA.mono hE21.size)
    have lb : w8.heap.size ≤ y21.heap.size := hE21.size
    have dba : ga < y21.heap.size := ka.lt
    replace ka := ka.below hyA ka.lt
    have ub : yc.heap.size ≤ y21.heap.size := hbc.size
    replace hbc := hbc.trans (hyA.mono hbc.size)
    generalize y21.alloc (.cells zeroWd 43) = y22 at *
    generalize y21.heap.size = gb at *
    clear hyA
    refine hK.out _ _ (HKT.out _ hE22) (fun hHeld => ?_)
    clear hK K
    (try simp only [Act.put, List.setIfInBounds_toArray, List.set_cons_zero, List.set_cons_succ])
    refine doH (i := 13) rfl (by kernel_rfl) (by rfl) (fun K hK => ?_)
    refine wp_store_row 40 _ _ rfl ga cs2 rfl rfl 40 zeroSt ka (iSt hs1) hs1.symm ho1 ?_
    have hF1 := row_below hE22 ga (by omega) cs2
    refine hK.out _ _ (HKT.out _ hF1) (fun hHeld => ?_)
    clear hK K
    (try simp only [Act.put])
    refine doH (i := 14) rfl (by kernel_rfl) (by rfl) (fun K hK => ?_)
    refine wp_store_row 43 _ _ rfl gb ds2 rfl rfl 43 zeroWd (Blk.setRow kb (by omega) cs2) (iWd hs2) hs2.symm ho2 ?_
    have hF2 := row_below hF1 gb (by omega) ds2
    refine hK.out _ _ (HKT.out _ hF2) (fun hHeld => ?_)
    clear hK K
    (try simp only [Act.put])
    (apply tkF [15] rfl rfl (by kernel_rfl) (fun _ _ _ h => h) (by rfl); (case hy => (intro w hSw; (try dsimp only at hSw); go_simp; try with_reducible rfl)); (case hS => assumption); (try simp only [Act.put, List.setIfInBounds_toArray, List.set_cons_zero, List.set_cons_succ]))
    refine wpAnyH_done (by kernel_rfl) ?_ _
    go_wp2_with fail
    go_meet
    obtain ⟨t1, t2⟩ := rise_tail (B := w8.heap.size) (gb := gb) (ds2 := ds2) hX hbc ka (by omega) (by omega) (fun q _ _ => by omega)
    exact ⟨ga, gb, cs2, 0, rfl, rfl, rfl, la, t1, t2, hF2, rfl⟩
    go_simp
    have kb : Blk (y20.alloc (.cells zeroWd 43)) y20.heap.size 43 zeroWd := Blk.new _ _ _
    have hyA := (Below.refl _ y20).alloc (Nat.le_refl _) (.cells zeroWd 43)
    have hE23 := hE20.trans (hyA.mono hE20.size)
    have lb : w8.heap.size ≤ y20.heap.size := hE20.size
    have dba : ga < y20.heap.size := ka.lt
    replace ka := ka.below hyA ka.lt
    replace hO := hO.below hyA
    replace hR5 := hR5.below hyA
    generalize y20.alloc (.cells zeroWd 43) = y23 at *
    generalize y20.heap.size = gb at *
    clear hyA
    refine hK.out _ _ (HKT.out _ hE23) (fun hHeld => ?_)
    clear hK K
    (try simp only [Act.put, List.setIfInBounds_toArray, List.set_cons_zero, List.set_cons_succ])
    refine doH (i := 6) rfl (by kernel_rfl) (by rfl) (fun K hK => ?_)
    go_simp
    go_at_call 10
    refine (HD2.out y23 o5 c5 hR5 h30 h20 HSM.out.1 HSM.out.2).mono ?_
    rintro e y24 ⟨cs2, ds2, rfl, hX, hXd, hyc⟩
    have hvy := hE23.size
    have va : ga < y23.heap.size := ka.lt
    have vb : gb < y23.heap.size := kb.lt
    have hE24 : Below w8.heap.size w8 y24 := hE23.trans (hyc.mono hE23.size)
    replace ka := ka.below hyc ka.lt
    replace kb := kb.below hyc kb.lt
    have hs1 := hX.size
    have hs2 := hXd.size
    have ho1 := hX.one
    have ho2 := hXd.one
    obtain ⟨yc, hycc⟩ : ∃ yc, y24 = yc := ⟨_, rfl⟩
    rw [hycc] at hX
    have hbc : Below yc.heap.size yc y24 := by rw [hycc]; exact Below.refl _ _
    have ua : ga < yc.heap.size := by rw [← hycc]; exact ka.lt
    have ub : gb < yc.heap.size := by rw [← hycc]; exact kb.lt
    clear hycc hXd hO hR5
    go_wp2_with fail
    refine hK.out _ _ (HKT.out _ hE24) (fun hHeld => ?_)
    clear hK K
    (try simp only [Act.put, List.setIfInBounds_toArray, List.set_cons_zero, List.set_cons_succ])
    iterate 4 (apply tkF [7, 8, 9, 10] rfl rfl (by kernel_rfl) (fun _ _ _ h => h) (by rfl); (case hy => (intro w hSw; (try dsimp only at hSw); go_simp; try with_reducible rfl)); (case hS => assumption); (try simp only [Act.put, List.setIfInBounds_toArray, List.set_cons_zero, List.set_cons_succ]))
    refine doH (i := 13) rfl (by kernel_rfl) (by rfl) (fun K hK => ?_)
    refine wp_store_row 40 _ _ rfl ga cs2 rfl rfl 40 zeroSt ka (iSt hs1) hs1.symm ho1 ?_
    have hF1 := row_below hE24 ga (by omega) cs2
    refine hK.out _ _ (HKT.out _ hF1) (fun hHeld => ?_)
    clear hK K
    (try simp only [Act.put])
    refine doH (i := 14) rfl (by kernel_rfl) (by rfl) (fun K hK => ?_)
    refine wp_store_row 43 _ _ rfl gb ds2 rfl rfl 43 zeroWd (Blk.setRow kb (by omega) cs2) (iWd hs2) hs2.symm ho2 ?_
    have hF2 := row_below hF1 gb (by omega) ds2
    refine hK.out _ _ (HKT.out _ hF2) (fun hHeld => ?_)
    clear hK K
    (try simp only [Act.put])
    (apply tkF [15] rfl rfl (by kernel_rfl) (fun _ _ _ h => h) (by rfl); (case hy => (intro w hSw; (try dsimp only at hSw); go_simp; try with_reducible rfl)); (case hS => assumption); (try simp only [Act.put, List.setIfInBounds_toArray, List.set_cons_zero, List.set_cons_succ]))
    refine wpAnyH_done (by kernel_rfl) ?_ _
    go_wp2_with fail
    go_meet
    obtain ⟨t1, t2⟩ := rise_tail (B := w8.heap.size) (gb := gb) (ds2 := ds2) hX hbc ka (by omega) (by omega) (fun q _ _ => by omega)
    exact ⟨ga, gb, cs2, 0, rfl, rfl, rfl, la, t1, t2, hF2, rfl⟩
    go_simp
    have kb : Blk (y19.alloc (.cells zeroWd 43)) y19.heap.size 43 zeroWd := Blk.new _ _ _
    have hyA := (Below.refl _ y19).alloc (Nat.le_refl _) (.cells zeroWd 43)
    have hE25 := hE19.trans (hyA.mono hE19.size)
    have lb : w8.heap.size ≤ y19.heap.size := hE19.size
    have dba : ga < y19.heap.size := ka.lt
    replace ka := ka.below hyA ka.lt
    replace hO := hO.below hyA
    generalize y19.alloc (.cells zeroWd 43) = y25 at *
    generalize y19.heap.size = gb at *
    clear hyA
    refine hK.out _ _ (HKT.out _ hE25) (fun hHeld => ?_)
    clear hK K
    (try simp only [Act.put, List.setIfInBounds_toArray, List.set_cons_zero, List.set_cons_succ])
    refine doH (i := 5) rfl (by kernel_rfl) (by rfl) (fun K hK => ?_)
    obtain ⟨v26, y26, hr, hO9, hg⟩ := append_g2 opOk hO ob m cap' HLM.out (HOB.out y25 hE25) (by rw [HLN.out]; omega) hE25.size
    have hE26 := hE25.grown hg hE25.size (fun j hj => (World.ownsRow.lt hO j hj).1)
    replace ka := ka.grown hg (ne_row (apartT hO ka (by decide)))
    replace kb := kb.grown hg (ne_row (apartT hO kb (by decide)))
    clear hO
    have hO := hO9
    clear hO9 hg
    refine Lib.wp_append_run _ _ _ 22 22 rfl _ _ rfl rfl _ _ hr ?_
    clear hr
    obtain ⟨o5, c5, hv5, hR5, _⟩ := hO.form opOk
    rw [HNN.out] at hv5
    subst hv5
    refine hK.out _ _ (HKT.out _ hE26) (fun hHeld => ?_)
    clear hK K
    (try simp only [Act.put, List.setIfInBounds_toArray, List.set_cons_zero, List.set_cons_succ])
    refine doH (i := 6) rfl (by kernel_rfl) (by rfl) (fun K hK => ?_)
    go_simp
    go_at_call 10
    refine (HD2.out y26 o5 c5 hR5 h30 h20 HSM.out.1 HSM.out.2).mono ?_
    rintro e y27 ⟨cs2, ds2, rfl, hX, hXd, hyc⟩
    have hvy := hE26.size
    have va : ga < y26.heap.size := ka.lt
    have vb : gb < y26.heap.size := kb.lt
    have hE27 : Below w8.heap.size w8 y27 := hE26.trans (hyc.mono hE26.size)
    replace ka := ka.below hyc ka.lt
    replace kb := kb.below hyc kb.lt
    have hs1 := hX.size
    have hs2 := hXd.size
    have ho1 := hX.one
    have ho2 := hXd.one
    obtain ⟨yc, hycc⟩ : ∃ yc, y27 = yc := ⟨_, rfl⟩
    rw [hycc] at hX
    have hbc : Below yc.heap.size yc y27 := by rw [hycc]; exact Below.refl _ _
    have ua : ga < yc.heap.size := by rw [← hycc]; exact ka.lt
    have ub : gb < yc.heap.size := by rw [← hycc]; exact kb.lt
    clear hycc hXd hO hR5
    go_wp2_with fail
    refine hK.out _ _ (HKT.out _ hE27) (fun hHeld => ?_)
    clear hK K
    (try simp only [Act.put, List.setIfInBounds_toArray, List.set_cons_zero, List.set_cons_succ])
    iterate 4 (apply tkF [7, 8, 9, 10] rfl rfl (by kernel_rfl) (fun _ _ _ h => h) (by rfl); (case hy => (intro w hSw; (try dsimp only at hSw); go_simp; try with_reducible rfl)); (case hS => assumption); (try simp only [Act.put, List.setIfInBounds_toArray, List.set_cons_zero, List.set_cons_succ]))
    refine doH (i := 13) rfl (by kernel_rfl) (by rfl) (fun K hK => ?_)
    refine wp_store_row 40 _ _ rfl ga cs2 rfl rfl 40 zeroSt ka (iSt hs1) hs1.symm ho1 ?_
    have hF1 := row_below hE27 ga (by omega) cs2
    refine hK.out _ _ (HKT.out _ hF1) (fun hHeld => ?_)
    clear hK K
    (try simp only [Act.put])
    refine doH (i := 14) rfl (by kernel_rfl) (by rfl) (fun K hK => ?_)
    refine wp_store_row 43 _ _ rfl gb ds2 rfl rfl 43 zeroWd (Blk.setRow kb (by omega) cs2) (iWd hs2) hs2.symm ho2 ?_
    have hF2 := row_below hF1 gb (by omega) ds2
    refine hK.out _ _ (HKT.out _ hF2) (fun hHeld => ?_)
    clear hK K
    (try simp only [Act.put])
    (apply tkF [15] rfl rfl (by kernel_rfl) (fun _ _ _ h => h) (by rfl); (case hy => (intro w hSw; (try dsimp only at hSw); go_simp; try with_reducible rfl)); (case hS => assumption); (try simp only [Act.put, List.setIfInBounds_toArray, List.set_cons_zero, List.set_cons_succ]))
    refine wpAnyH_done (by kernel_rfl) ?_ _
    go_wp2_with fail
    go_meet
    obtain ⟨t1, t2⟩ := rise_tail (B := w8.heap.size) (gb := gb) (ds2 := ds2) hX hbc ka (by omega) (by omega) (fun q _ _ => by omega)
    exact ⟨ga, gb, cs2, 0, rfl, rfl, rfl, la, t1, t2, hF2, rfl⟩
    go_simp
    have kb : Blk (y2.alloc (.cells zeroWd 43)) y2.heap.size 43 zeroWd := Blk.new _ _ _
    have hyA := (Below.refl _ y2).alloc (Nat.le_refl _) (.cells zeroWd 43)
    have hE28 := hE2.trans (hyA.mono hE2.size)
    have lb : w8.heap.size ≤ y2.heap.size := hE2.size
    replace hO := hO.below hyA
    generalize y2.alloc (.cells zeroWd 43) = y28 at *
    generalize y2.heap.size = gb at *
    clear hyA
    refine hK.out _ _ (HKT.out _ hE28) (fun hHeld => ?_)
    clear hK K
    (try simp only [Act.put, List.setIfInBounds_toArray, List.set_cons_zero, List.set_cons_succ])
    refine doH2 (i := 5) (j := 11) rfl rfl (by kernel_rfl) (by rfl) (by rfl) (fun K hK => ?_) (fun K hK => ?_)
    obtain ⟨v29, y29, hr, hO9, hg⟩ := append_g2 opOk hO ob m cap' HLM.out (HOB.out y28 hE28) (by rw [HLN.out]; omega) hE28.size
    have hE29 := hE28.grown hg hE28.size (fun j hj => (World.ownsRow.lt hO j hj).1)
    replace kb := kb.grown hg (ne_row (apartT hO kb (by decide)))
    clear hO
    have hO := hO9
    clear hO9 hg
    refine Lib.wp_append_run _ _ _ 22 22 rfl _ _ rfl rfl _ _ hr ?_
    clear hr
    obtain ⟨o5, c5, hv5, hR5, _⟩ := hO.form opOk
    rw [HNN.out] at hv5
    subst hv5
    refine hK.out _ _ (HKT.out _ hE29) (fun hHeld => ?_)
    clear hK K
    (try simp only [Act.put, List.setIfInBounds_toArray, List.set_cons_zero, List.set_cons_succ])
    refine doH2 (i := 6) (j := 11) rfl rfl (by kernel_rfl) (by rfl) (by rfl) (fun K hK => ?_) (fun K hK => ?_)
    go_simp
    go_at_call 10
    refine (HD2.out y29 o5 c5 hR5 h30 h20 HSM.out.1 HSM.out.2).mono ?_
    rintro e y30 ⟨cs2, ds2, rfl, hX, hXd, hyc⟩
    have hvy := hE29.size
    have vb : gb < y29.heap.size := kb.lt
    have hE30 : Below w8.heap.size w8 y30 := hE29.trans (hyc.mono hE29.size)
    replace kb := kb.below hyc kb.lt
    have hs1 := hX.size
    have hs2 := hXd.size
    have ho1 := hX.one
    have ho2 := hXd.one
    obtain ⟨yc, hycc⟩ : ∃ yc, y30 = yc := ⟨_, rfl⟩
    rw [hycc] at hX
    have hbc : Below yc.heap.size yc y30 := by rw [hycc]; exact Below.refl _ _
    have ub : gb < yc.heap.size := by rw [← hycc]; exact kb.lt
    clear hycc hXd hO hR5
    go_wp2_with fail
    refine hK.out _ _ (HKT.out _ hE30) (fun hHeld => ?_)
    clear hK K
    (try simp only [Act.put, List.setIfInBounds_toArray, List.set_cons_zero, List.set_cons_succ])
    iterate 4 (apply tkF [7, 8, 9, 10] rfl rfl (by kernel_rfl) (fun _ _ _ h => h) (by rfl); (case hy => (intro w hSw; (try dsimp only at hSw); go_simp; try with_reducible rfl)); (case hS => assumption); (try simp only [Act.put, List.setIfInBounds_toArray, List.set_cons_zero, List.set_cons_succ]))
    refine doH (i := 11) rfl (by kernel_rfl) (by rfl) (fun K hK => ?_)
    go_simp
    have ka : Blk (y30.alloc (.cells zeroSt 40)) y30.heap.size 40 zeroSt := Blk.new _ _ _
    have hyA := (Below.refl _ y30).alloc (Nat.le_refl _) (.cells zeroSt 40)
    have hE31 := hE30.trans (hyA.mono hE30.size)
    have la : w8.heap.size ≤ y30.heap.size := hE30.size
    have dab : gb < y30.heap.size := kb.lt
    replace kb := kb.below hyA kb.lt
    have ua : yc.heap.size ≤ y30.heap.size := hbc.size
    replace hbc := hbc.trans (hyA.mono hbc.size)
    generalize y30.alloc (.cells zeroSt 40) = y31 at *
    generalize y30.heap.size = ga at *
    clear hyA
    refine hK.out _ _ (HKT.out _ hE31) (fun hHeld => ?_)
    clear hK K
    (try simp only [Act.put, List.setIfInBounds_toArray, List.set_cons_zero, List.set_cons_succ])
    refine doH (i := 13) rfl (by kernel_rfl) (by rfl) (fun K hK => ?_)
    refine wp_store_row 40 _ _ rfl ga cs2 rfl rfl 40 zeroSt ka (iSt hs1) hs1.symm ho1 ?_
    have hF1 := row_below hE31 ga (by omega) cs2
    refine hK.out _ _ (HKT.out _ hF1) (fun hHeld => ?_)
    clear hK K
    (try simp only [Act.put])
    refine doH (i := 14) rfl (by kernel_rfl) (by rfl) (fun K hK => ?_)
    refine wp_store_row 43 _ _ rfl gb ds2 rfl rfl 43 zeroWd (Blk.setRow kb (by omega) cs2) (iWd hs2) hs2.symm ho2 ?_
    have hF2 := row_below hF1 gb (by omega) ds2
    refine hK.out _ _ (HKT.out _ hF2) (fun hHeld => ?_)
    clear hK K
    (try simp only [Act.put])
    (apply tkF [15] rfl rfl (by kernel_rfl) (fun _ _ _ h => h) (by rfl); (case hy => (intro w hSw; (try dsimp only at hSw); go_simp; try with_reducible rfl)); (case hS => assumption); (try simp only [Act.put, List.setIfInBounds_toArray, List.set_cons_zero, List.set_cons_succ]))
    refine wpAnyH_done (by kernel_rfl) ?_ _
    go_wp2_with fail
    go_meet
    obtain ⟨t1, t2⟩ := rise_tail (B := w8.heap.size) (gb := gb) (ds2 := ds2) hX hbc ka (by omega) (by omega) (fun q _ _ => by omega)
    exact ⟨ga, gb, cs2, 0, rfl, rfl, rfl, la, t1, t2, hF2, rfl⟩
    go_simp
    have ka : Blk (y29.alloc (.cells zeroSt 40)) y29.heap.size 40 zeroSt := Blk.new _ _ _
    have hyA := (Below.refl _ y29).alloc (Nat.le_refl _) (.cells zeroSt 40)
    have hE32 := hE29.trans (hyA.mono hE29.size)
    have la : w8.heap.size ≤ y29.heap.size := hE29.size
    have dab : gb < y29.heap.size := kb.lt
    replace kb := kb.below hyA kb.lt
    replace hO := hO.below hyA
    replace hR5 := hR5.below hyA
    generalize y29.alloc (.cells zeroSt 40) = y32 at *
    generalize y29.heap.size = ga at *
    clear hyA
    refine hK.out _ _ (HKT.out _ hE32) (fun hHeld => ?_)
    clear hK K
    (try simp only [Act.put, List.setIfInBounds_toArray, List.set_cons_zero, List.set_cons_succ])
    refine doH (i := 6) rfl (by kernel_rfl) (by rfl) (fun K hK => ?_)
    go_simp
    go_at_call 10
    refine (HD2.out y32 o5 c5 hR5 h30 h20 HSM.out.1 HSM.out.2).mono ?_
    rintro e y33 ⟨cs2, ds2, rfl, hX, hXd, hyc⟩
    have hvy := hE32.size
    have vb : gb < y32.heap.size := kb.lt
    have va : ga < y32.heap.size := ka.lt
    have hE33 : Below w8.heap.size w8 y33 := hE32.trans (hyc.mono hE32.size)
    replace kb := kb.below hyc kb.lt
    replace ka := ka.below hyc ka.lt
    have hs1 := hX.size
    have hs2 := hXd.size
    have ho1 := hX.one
    have ho2 := hXd.one
    obtain ⟨yc, hycc⟩ : ∃ yc, y33 = yc := ⟨_, rfl⟩
    rw [hycc] at hX
    have hbc : Below yc.heap.size yc y33 := by rw [hycc]; exact Below.refl _ _
    have ub : gb < yc.heap.size := by rw [← hycc]; exact kb.lt
    have ua : ga < yc.heap.size := by rw [← hycc]; exact ka.lt
    clear hycc hXd hO hR5
    go_wp2_with fail
    refine hK.out _ _ (HKT.out _ hE33) (fun hHeld => ?_)
    clear hK K
    (try simp only [Act.put, List.setIfInBounds_toArray, List.set_cons_zero, List.set_cons_succ])
    iterate 4 (apply tkF [7, 8, 9, 10] rfl rfl (by kernel_rfl) (fun _ _ _ h => h) (by rfl); (case hy => (intro w hSw; (try dsimp only at hSw); go_simp; try with_reducible rfl)); (case hS => assumption); (try simp only [Act.put, List.setIfInBounds_toArray, List.set_cons_zero, List.set_cons_succ]))
    refine doH (i := 13) rfl (by kernel_rfl) (by rfl) (fun K hK => ?_)
    refine wp_store_row 40 _ _ rfl ga cs2 rfl rfl 40 zeroSt ka (iSt hs1) hs1.symm ho1 ?_
    have hF1 := row_below hE33 ga (by omega) cs2
    refine hK.out _ _ (HKT.out _ hF1) (fun hHeld => ?_)
    clear hK K
    (try simp only [Act.put])
    refine doH (i := 14) rfl (by kernel_rfl) (by rfl) (fun K hK => ?_)
    refine wp_store_row 43 _ _ rfl gb ds2 rfl rfl 43 zeroWd (Blk.setRow kb (by omega) cs2) (iWd hs2) hs2.symm ho2 ?_
    have hF2 := row_below hF1 gb (by omega) ds2
    refine hK.out _ _ (HKT.out _ hF2) (fun hHeld => ?_)
    clear hK K
    (try simp only [Act.put])
    (apply tkF [15] rfl rfl (by kernel_rfl) (fun _ _ _ h => h) (by rfl); (case hy => (intro w hSw; (try dsimp only at hSw); go_simp; try with_reducible rfl)); (case hS => assumption); (try simp only [Act.put, List.setIfInBounds_toArray, List.set_cons_zero, List.set_cons_succ]))
    refine wpAnyH_done (by kernel_rfl) ?_ _
    go_wp2_with fail
    go_meet
    obtain ⟨t1, t2⟩ := rise_tail (B := w8.heap.size) (gb := gb) (ds2 := ds2) hX hbc ka (by omega) (by omega) (fun q _ _ => by omega)
    exact ⟨ga, gb, cs2, 0, rfl, rfl, rfl, la, t1, t2, hF2, rfl⟩
    go_simp
    have ka : Blk (y28.alloc (.cells zeroSt 40)) y28.heap.size 40 zeroSt := Blk.new _ _ _
    have hyA := (Below.refl _ y28).alloc (Nat.le_refl _) (.cells zeroSt 40)
    have hE34 := hE28.trans (hyA.mono hE28.size)
    have la : w8.heap.size ≤ y28.heap.size := hE28.size
    have dab : gb < y28.heap.size := kb.lt
    replace kb := kb.below hyA kb.lt
    replace hO := hO.below hyA
    generalize y28.alloc (.cells zeroSt 40) = y34 at *
    generalize y28.heap.size = ga at *
    clear hyA
    refine hK.out _ _ (HKT.out _ hE34) (fun hHeld => ?_)
    clear hK K
    (try simp only [Act.put, List.setIfInBounds_toArray, List.set_cons_zero, List.set_cons_succ])
    refine doH (i := 5) rfl (by kernel_rfl) (by rfl) (fun K hK => ?_)
    obtain ⟨v35, y35, hr, hO9, hg⟩ := append_g2 opOk hO ob m cap' HLM.out (HOB.out y34 hE34) (by rw [HLN.out]; omega) hE34.size
    have hE35 := hE34.grown hg hE34.size (fun j hj => (World.ownsRow.lt hO j hj).1)
    replace kb := kb.grown hg (ne_row (apartT hO kb (by decide)))
    replace ka := ka.grown hg (ne_row (apartT hO ka (by decide)))
    clear hO
    have hO := hO9
    clear hO9 hg
    refine Lib.wp_append_run _ _ _ 22 22 rfl _ _ rfl rfl _ _ hr ?_
    clear hr
    obtain ⟨o5, c5, hv5, hR5, _⟩ := hO.form opOk
    rw [HNN.out] at hv5
    subst hv5
    refine hK.out _ _ (HKT.out _ hE35) (fun hHeld => ?_)
    clear hK K
    (try simp only [Act.put, List.setIfInBounds_toArray, List.set_cons_zero, List.set_cons_succ])
    refine doH (i := 6) rfl (by kernel_rfl) (by rfl) (fun K hK => ?_)
    go_simp
    go_at_call 10
    refine (HD2.out y35 o5 c5 hR5 h30 h20 HSM.out.1 HSM.out.2).mono ?_
    rintro e y36 ⟨cs2, ds2, rfl, hX, hXd, hyc⟩
    have hvy := hE35.size
    have vb : gb < y35.heap.size := kb.lt
    have va : ga < y35.heap.size := ka.lt
    have hE36 : Below w8.heap.size w8 y36 := hE35.trans (hyc.mono hE35.size)
    replace kb := kb.below hyc kb.lt
    replace ka := ka.below hyc ka.lt
    have hs1 := hX.size
    have hs2 := hXd.size
    have ho1 := hX.one
    have ho2 := hXd.one
    obtain ⟨yc, hycc⟩ : ∃ yc, y36 = yc := ⟨_, rfl⟩
    rw [hycc] at hX
    have hbc : Below yc.heap.size yc y36 := by rw [hycc]; exact Below.refl _ _
    have ub : gb < yc.heap.size := by rw [← hycc]; exact kb.lt
    have ua : ga < yc.heap.size := by rw [← hycc]; exact ka.lt
    clear hycc hXd hO hR5
    go_wp2_with fail
    refine hK.out _ _ (HKT.out _ hE36) (fun hHeld => ?_)
    clear hK K
    (try simp only [Act.put, List.setIfInBounds_toArray, List.set_cons_zero, List.set_cons_succ])
    iterate 4 (apply tkF [7, 8, 9, 10] rfl rfl (by kernel_rfl) (fun _ _ _ h => h) (by rfl); (case hy => (intro w hSw; (try dsimp only at hSw); go_simp; try with_reducible rfl)); (case hS => assumption); (try simp only [Act.put, List.setIfInBounds_toArray, List.set_cons_zero, List.set_cons_succ]))
    refine doH (i := 13) rfl (by kernel_rfl) (by rfl) (fun K hK => ?_)
    refine wp_store_row 40 _ _ rfl ga cs2 rfl rfl 40 zeroSt ka (iSt hs1) hs1.symm ho1 ?_
    have hF1 := row_below hE36 ga (by omega) cs2
    refine hK.out _ _ (HKT.out _ hF1) (fun hHeld => ?_)
    clear hK K
    (try simp only [Act.put])
    refine doH (i := 14) rfl (by kernel_rfl) (by rfl) (fun K hK => ?_)
    refine wp_store_row 43 _ _ rfl gb ds2 rfl rfl 43 zeroWd (Blk.setRow kb (by omega) cs2) (iWd hs2) hs2.symm ho2 ?_
    have hF2 := row_below hF1 gb (by omega) ds2
    refine hK.out _ _ (HKT.out _ hF2) (fun hHeld => ?_)
    clear hK K
    (try simp only [Act.put])
    (apply tkF [15] rfl rfl (by kernel_rfl) (fun _ _ _ h => h) (by rfl); (case hy => (intro w hSw; (try dsimp only at hSw); go_simp; try with_reducible rfl)); (case hS => assumption); (try simp only [Act.put, List.setIfInBounds_toArray, List.set_cons_zero, List.set_cons_succ]))
    refine wpAnyH_done (by kernel_rfl) ?_ _
    go_wp2_with fail
    go_meet
    obtain ⟨t1, t2⟩ := rise_tail (B := w8.heap.size) (gb := gb) (ds2 := ds2) hX hbc ka (by omega) (by omega) (fun q _ _ => by omega)
    exact ⟨ga, gb, cs2, 0, rfl, rfl, rfl, la, t1, t2, hF2, rfl⟩
    go_simp
    have ka : Blk (y1.alloc (.cells zeroSt 40)) y1.heap.size 40 zeroSt := Blk.new _ _ _
    have hyA := (Below.refl _ y1).alloc (Nat.le_refl _) (.cells zeroSt 40)
    have hE37 := hE1.trans (hyA.mono hE1.size)
    have la : w8.heap.size ≤ y1.heap.size := hE1.size
    replace hO := hO.below hyA
    generalize y1.alloc (.cells zeroSt 40) = y37 at *
    generalize y1.heap.size = ga at *
    clear hyA
    refine hK.out _ _ (HKT.out _ hE37) (fun hHeld => ?_)
    clear hK K
    (try simp only [Act.put, List.setIfInBounds_toArray, List.set_cons_zero, List.set_cons_succ])
    refine doH2 (i := 3) (j := 12) rfl rfl (by kernel_rfl) (by rfl) (by rfl) (fun K hK => ?_) (fun K hK => ?_)
    obtain ⟨v38, y38, hr, hO9, hg⟩ := append_g2 opOk hO oa n cap HLN.out (HOA.out y37 hE37) (by simp; omega) hE37.size
    have hE38 := hE37.grown hg hE37.size (fun j hj => (World.ownsRow.lt hO j hj).1)
    replace ka := ka.grown hg (ne_row (apartT hO ka (by decide)))
    clear hO
    have hO := hO9
    clear hO9 hg
    rw [List.nil_append] at hO
    refine Lib.wp_append_run _ _ _ 22 22 rfl _ _ rfl rfl _ _ hr ?_
    clear hr
    refine hK.out _ _ (HKT.out _ hE38) (fun hHeld => ?_)
    clear hK K
    (try simp only [Act.put, List.setIfInBounds_toArray, List.set_cons_zero, List.set_cons_succ])
    refine doH2 (i := 5) (j := 12) rfl rfl (by kernel_rfl) (by rfl) (by rfl) (fun K hK => ?_) (fun K hK => ?_)
    obtain ⟨v39, y39, hr, hO9, hg⟩ := append_g2 opOk hO ob m cap' HLM.out (HOB.out y38 hE38) (by rw [HLN.out]; omega) hE38.size
    have hE39 := hE38.grown hg hE38.size (fun j hj => (World.ownsRow.lt hO j hj).1)
    replace ka := ka.grown hg (ne_row (apartT hO ka (by decide)))
    clear hO
    have hO := hO9
    clear hO9 hg
    refine Lib.wp_append_run _ _ _ 22 22 rfl _ _ rfl rfl _ _ hr ?_
    clear hr
    obtain ⟨o5, c5, hv5, hR5, _⟩ := hO.form opOk
    rw [HNN.out] at hv5
    subst hv5
    refine hK.out _ _ (HKT.out _ hE39) (fun hHeld => ?_)
    clear hK K
    (try simp only [Act.put, List.setIfInBounds_toArray, List.set_cons_zero, List.set_cons_succ])
    refine doH2 (i := 6) (j := 12) rfl rfl (by kernel_rfl) (by rfl) (by rfl) (fun K hK => ?_) (fun K hK => ?_)
    go_simp
    go_at_call 10
    refine (HD2.out y39 o5 c5 hR5 h30 h20 HSM.out.1 HSM.out.2).mono ?_
    rintro e y40 ⟨cs2, ds2, rfl, hX, hXd, hyc⟩
    have hvy := hE39.size
    have va : ga < y39.heap.size := ka.lt
    have hE40 : Below w8.heap.size w8 y40 := hE39.trans (hyc.mono hE39.size)
    replace ka := ka.below hyc ka.lt
    have hs1 := hX.size
    have hs2 := hXd.size
    have ho1 := hX.one
    have ho2 := hXd.one
    obtain ⟨yc, hycc⟩ : ∃ yc, y40 = yc := ⟨_, rfl⟩
    rw [hycc] at hX
    have hbc : Below yc.heap.size yc y40 := by rw [hycc]; exact Below.refl _ _
    have ua : ga < yc.heap.size := by rw [← hycc]; exact ka.lt
    clear hycc hXd hO hR5
    go_wp2_with fail
    refine hK.out _ _ (HKT.out _ hE40) (fun hHeld => ?_)
    clear hK K
    (try simp only [Act.put, List.setIfInBounds_toArray, List.set_cons_zero, List.set_cons_succ])
    iterate 4 (apply tkF [7, 8, 9, 10] rfl rfl (by kernel_rfl) (fun _ _ _ h => h) (by rfl); (case hy => (intro w hSw; (try dsimp only at hSw); go_simp; try with_reducible rfl)); (case hS => assumption); (try simp only [Act.put, List.setIfInBounds_toArray, List.set_cons_zero, List.set_cons_succ]))
    refine doH (i := 12) rfl (by kernel_rfl) (by rfl) (fun K hK => ?_)
    go_simp
    have kb : Blk (y40.alloc (.cells zeroWd 43)) y40.heap.size 43 zeroWd := Blk.new _ _ _
    have hyA := (Below.refl _ y40).alloc (Nat.le_refl _) (.cells zeroWd 43)
    have hE41 := hE40.trans (hyA.mono hE40.size)
    have lb : w8.heap.size ≤ y40.heap.size := hE40.size
    have dba : ga < y40.heap.size := ka.lt
    replace ka := ka.below hyA ka.lt
    have ub : yc.heap.size ≤ y40.heap.size := hbc.size
    replace hbc := hbc.trans (hyA.mono hbc.size)
    generalize y40.alloc (.cells zeroWd 43) = y41 at *
    generalize y40.heap.size = gb at *
    clear hyA
    refine hK.out _ _ (HKT.out _ hE41) (fun hHeld => ?_)
    clear hK K
    (try simp only [Act.put, List.setIfInBounds_toArray, List.set_cons_zero, List.set_cons_succ])
    refine doH (i := 13) rfl (by kernel_rfl) (by rfl) (fun K hK => ?_)
    refine wp_store_row 40 _ _ rfl ga cs2 rfl rfl 40 zeroSt ka (iSt hs1) hs1.symm ho1 ?_
    have hF1 := row_below hE41 ga (by omega) cs2
    refine hK.out _ _ (HKT.out _ hF1) (fun hHeld => ?_)
    clear hK K
    (try simp only [Act.put])
    refine doH (i := 14) rfl (by kernel_rfl) (by rfl) (fun K hK => ?_)
    refine wp_store_row 43 _ _ rfl gb ds2 rfl rfl 43 zeroWd (Blk.setRow kb (by omega) cs2) (iWd hs2) hs2.symm ho2 ?_
    have hF2 := row_below hF1 gb (by omega) ds2
    refine hK.out _ _ (HKT.out _ hF2) (fun hHeld => ?_)
    clear hK K
    (try simp only [Act.put])
    (apply tkF [15] rfl rfl (by kernel_rfl) (fun _ _ _ h => h) (by rfl); (case hy => (intro w hSw; (try dsimp only at hSw); go_simp; try with_reducible rfl)); (case hS => assumption); (try simp only [Act.put, List.setIfInBounds_toArray, List.set_cons_zero, List.set_cons_succ]))
    refine wpAnyH_done (by kernel_rfl) ?_ _
    go_wp2_with fail
    go_meet
    obtain ⟨t1, t2⟩ := rise_tail (B := w8.heap.size) (gb := gb) (ds2 := ds2) hX hbc ka (by omega) (by omega) (fun q _ _ => by omega)
    exact ⟨ga, gb, cs2, 0, rfl, rfl, rfl, la, t1, t2, hF2, rfl⟩
    go_simp
    have kb : Blk (y39.alloc (.cells zeroWd 43)) y39.heap.size 43 zeroWd := Blk.new _ _ _
    have hyA := (Below.refl _ y39).alloc (Nat.le_refl _) (.cells zeroWd 43)
    have hE42 := hE39.trans (hyA.mono hE39.size)
    have lb : w8.heap.size ≤ y39.heap.size := hE39.size
    have dba : ga < y39.heap.size := ka.lt
    replace ka := ka.below hyA ka.lt
    replace hO := hO.below hyA
    replace hR5 := hR5.below hyA
    generalize y39.alloc (.cells zeroWd 43) = y42 at *
    generalize y39.heap.size = gb at *
    clear hyA
    refine hK.out _ _ (HKT.out _ hE42) (fun hHeld => ?_)
    clear hK K
    (try simp only [Act.put, List.setIfInBounds_toArray, List.set_cons_zero, List.set_cons_succ])
    refine doH (i := 6) rfl (by kernel_rfl) (by rfl) (fun K hK => ?_)
    go_simp
    go_at_call 10
    refine (HD2.out y42 o5 c5 hR5 h30 h20 HSM.out.1 HSM.out.2).mono ?_
    rintro e y43 ⟨cs2, ds2, rfl, hX, hXd, hyc⟩
    have hvy := hE42.size
    have va : ga < y42.heap.size := ka.lt
    have vb : gb < y42.heap.size := kb.lt
    have hE43 : Below w8.heap.size w8 y43 := hE42.trans (hyc.mono hE42.size)
    replace ka := ka.below hyc ka.lt
    replace kb := kb.below hyc kb.lt
    have hs1 := hX.size
    have hs2 := hXd.size
    have ho1 := hX.one
    have ho2 := hXd.one
    obtain ⟨yc, hycc⟩ : ∃ yc, y43 = yc := ⟨_, rfl⟩
    rw [hycc] at hX
    have hbc : Below yc.heap.size yc y43 := by rw [hycc]; exact Below.refl _ _
    have ua : ga < yc.heap.size := by rw [← hycc]; exact ka.lt
    have ub : gb < yc.heap.size := by rw [← hycc]; exact kb.lt
    clear hycc hXd hO hR5
    go_wp2_with fail
    refine hK.out _ _ (HKT.out _ hE43) (fun hHeld => ?_)
    clear hK K
    (try simp only [Act.put, List.setIfInBounds_toArray, List.set_cons_zero, List.set_cons_succ])
    iterate 4 (apply tkF [7, 8, 9, 10] rfl rfl (by kernel_rfl) (fun _ _ _ h => h) (by rfl); (case hy => (intro w hSw; (try dsimp only at hSw); go_simp; try with_reducible rfl)); (case hS => assumption); (try simp only [Act.put, List.setIfInBounds_toArray, List.set_cons_zero, List.set_cons_succ]))
    refine doH (i := 13) rfl (by kernel_rfl) (by rfl) (fun K hK => ?_)
    refine wp_store_row 40 _ _ rfl ga cs2 rfl rfl 40 zeroSt ka (iSt hs1) hs1.symm ho1 ?_
    have hF1 := row_below hE43 ga (by omega) cs2
    refine hK.out _ _ (HKT.out _ hF1) (fun hHeld => ?_)
    clear hK K
    (try simp only [Act.put])
    refine doH (i := 14) rfl (by kernel_rfl) (by rfl) (fun K hK => ?_)
    refine wp_store_row 43 _ _ rfl gb ds2 rfl rfl 43 zeroWd (Blk.setRow kb (by omega) cs2) (iWd hs2) hs2.symm ho2 ?_
    have hF2 := row_below hF1 gb (by omega) ds2
    refine hK.out _ _ (HKT.out _ hF2) (fun hHeld => ?_)
    clear hK K
    (try simp only [Act.put])
    (apply tkF [15] rfl rfl (by kernel_rfl) (fun _ _ _ h => h) (by rfl); (case hy => (intro w hSw; (try dsimp only at hSw); go_simp; try with_reducible rfl)); (case hS => assumption); (try simp only [Act.put, List.setIfInBounds_toArray, List.set_cons_zero, List.set_cons_succ]))
    refine wpAnyH_done (by kernel_rfl) ?_ _
    go_wp2_with fail
    go_meet
    obtain ⟨t1, t2⟩ := rise_tail (B := w8.heap.size) (gb := gb) (ds2 := ds2) hX hbc ka (by omega) (by omega) (fun q _ _ => by omega)
    exact ⟨ga, gb, cs2, 0, rfl, rfl, rfl, la, t1, t2, hF2, rfl⟩
    go_simp
    have kb : Blk (y38.alloc (.cells zeroWd 43)) y38.heap.size 43 zeroWd := Blk.new _ _ _
    have hyA := (Below.refl _ y38).alloc (Nat.le_refl _) (.cells zeroWd 43)
    have hE44 := hE38.trans (hyA.mono hE38.size)
    have lb : w8.heap.size ≤ y38.heap.size := hE38.size
    have dba : ga < y38.heap.size := ka.lt
    replace ka := ka.below hyA ka.lt
    replace hO := hO.below hyA
    generalize y38.alloc (.cells zeroWd 43) = y44 at *
    generalize y38.heap.size = gb at *
    clear hyA
    refine hK.out _ _ (HKT.out _ hE44) (fun hHeld => ?_)
    clear hK K
    (try simp only [Act.put, List.setIfInBounds_toArray, List.set_cons_zero, List.set_cons_succ])
    refine doH (i := 5) rfl (by kernel_rfl) (by rfl) (fun K hK => ?_)
    obtain ⟨v45, y45, hr, hO9, hg⟩ := append_g2 opOk hO ob m cap' HLM.out (HOB.out y44 hE44) (by rw [HLN.out]; omega) hE44.size
    have hE45 := hE44.grown hg hE44.size (fun j hj => (World.ownsRow.lt hO j hj).1)
    replace ka := ka.grown hg (ne_row (apartT hO ka (by decide)))
    replace kb := kb.grown hg (ne_row (apartT hO kb (by decide)))
    clear hO
    have hO := hO9
    clear hO9 hg
    refine Lib.wp_append_run _ _ _ 22 22 rfl _ _ rfl rfl _ _ hr ?_
    clear hr
    obtain ⟨o5, c5, hv5, hR5, _⟩ := hO.form opOk
    rw [HNN.out] at hv5
    subst hv5
    refine hK.out _ _ (HKT.out _ hE45) (fun hHeld => ?_)
    clear hK K
    (try simp only [Act.put, List.setIfInBounds_toArray, List.set_cons_zero, List.set_cons_succ])
    refine doH (i := 6) rfl (by kernel_rfl) (by rfl) (fun K hK => ?_)
    go_simp
    go_at_call 10
    refine (HD2.out y45 o5 c5 hR5 h30 h20 HSM.out.1 HSM.out.2).mono ?_
    rintro e y46 ⟨cs2, ds2, rfl, hX, hXd, hyc⟩
    have hvy := hE45.size
    have va : ga < y45.heap.size := ka.lt
    have vb : gb < y45.heap.size := kb.lt
    have hE46 : Below w8.heap.size w8 y46 := hE45.trans (hyc.mono hE45.size)
    replace ka := ka.below hyc ka.lt
    replace kb := kb.below hyc kb.lt
    have hs1 := hX.size
    have hs2 := hXd.size
    have ho1 := hX.one
    have ho2 := hXd.one
    obtain ⟨yc, hycc⟩ : ∃ yc, y46 = yc := ⟨_, rfl⟩
    rw [hycc] at hX
    have hbc : Below yc.heap.size yc y46 := by rw [hycc]; exact Below.refl _ _
    have ua : ga < yc.heap.size := by rw [← hycc]; exact ka.lt
    have ub : gb < yc.heap.size := by rw [← hycc]; exact kb.lt
    clear hycc hXd hO hR5
    go_wp2_with fail
    refine hK.out _ _ (HKT.out _ hE46) (fun hHeld => ?_)
    clear hK K
    (try simp only [Act.put, List.setIfInBounds_toArray, List.set_cons_zero, List.set_cons_succ])
    iterate 4 (apply tkF [7, 8, 9, 10] rfl rfl (by kernel_rfl) (fun _ _ _ h => h) (by rfl); (case hy => (intro w hSw; (try dsimp only at hSw); go_simp; try with_reducible rfl)); (case hS => assumption); (try simp only [Act.put, List.setIfInBounds_toArray, List.set_cons_zero, List.set_cons_succ]))
    refine doH (i := 13) rfl (by kernel_rfl) (by rfl) (fun K hK => ?_)
    refine wp_store_row 40 _ _ rfl ga cs2 rfl rfl 40 zeroSt ka (iSt hs1) hs1.symm ho1 ?_
    have hF1 := row_below hE46 ga (by omega) cs2
    refine hK.out _ _ (HKT.out _ hF1) (fun hHeld => ?_)
    clear hK K
    (try simp only [Act.put])
    refine doH (i := 14) rfl (by kernel_rfl) (by rfl) (fun K hK => ?_)
    refine wp_store_row 43 _ _ rfl gb ds2 rfl rfl 43 zeroWd (Blk.setRow kb (by omega) cs2) (iWd hs2) hs2.symm ho2 ?_
    have hF2 := row_below hF1 gb (by omega) ds2
    refine hK.out _ _ (HKT.out _ hF2) (fun hHeld => ?_)
    clear hK K
    (try simp only [Act.put])
    (apply tkF [15] rfl rfl (by kernel_rfl) (fun _ _ _ h => h) (by rfl); (case hy => (intro w hSw; (try dsimp only at hSw); go_simp; try with_reducible rfl)); (case hS => assumption); (try simp only [Act.put, List.setIfInBounds_toArray, List.set_cons_zero, List.set_cons_succ]))
    refine wpAnyH_done (by kernel_rfl) ?_ _
    go_wp2_with fail
    go_meet
    obtain ⟨t1, t2⟩ := rise_tail (B := w8.heap.size) (gb := gb) (ds2 := ds2) hX hbc ka (by omega) (by omega) (fun q _ _ => by omega)
    exact ⟨ga, gb, cs2, 0, rfl, rfl, rfl, la, t1, t2, hF2, rfl⟩
    go_simp
    have kb : Blk (y37.alloc (.cells zeroWd 43)) y37.heap.size 43 zeroWd := Blk.new _ _ _
    have hyA := (Below.refl _ y37).alloc (Nat.le_refl _) (.cells zeroWd 43)
    have hE47 := hE37.trans (hyA.mono hE37.size)
    have lb : w8.heap.size ≤ y37.heap.size := hE37.size
    have dba : ga < y37.heap.size := ka.lt
    replace ka := ka.below hyA ka.lt
    replace hO := hO.below hyA
    generalize y37.alloc (.cells zeroWd 43) = y47 at *
    generalize y37.heap.size = gb at *
    clear hyA
    refine hK.out _ _ (HKT.out _ hE47) (fun hHeld => ?_)
    clear hK K
    (try simp only [Act.put, List.setIfInBounds_toArray, List.set_cons_zero, List.set_cons_succ])
    refine doH (i := 3) rfl (by kernel_rfl) (by rfl) (fun K hK => ?_)
    obtain ⟨v48, y48, hr, hO9, hg⟩ := append_g2 opOk hO oa n cap HLN.out (HOA.out y47 hE47) (by simp; omega) hE47.size
    have hE48 := hE47.grown hg hE47.size (fun j hj => (World.ownsRow.lt hO j hj).1)
    replace ka := ka.grown hg (ne_row (apartT hO ka (by decide)))
    replace kb := kb.grown hg (ne_row (apartT hO kb (by decide)))
    clear hO
    have hO := hO9
    clear hO9 hg
    rw [List.nil_append] at hO
    refine Lib.wp_append_run _ _ _ 22 22 rfl _ _ rfl rfl _ _ hr ?_
    clear hr
    refine hK.out _ _ (HKT.out _ hE48) (fun hHeld => ?_)
    clear hK K
    (try simp only [Act.put, List.setIfInBounds_toArray, List.set_cons_zero, List.set_cons_succ])
    refine doH (i := 5) rfl (by kernel_rfl) (by rfl) (fun K hK => ?_)
    obtain ⟨v49, y49, hr, hO9, hg⟩ := append_g2 opOk hO ob m cap' HLM.out (HOB.out y48 hE48) (by rw [HLN.out]; omega) hE48.size
    have hE49 := hE48.grown hg hE48.size (fun j hj => (World.ownsRow.lt hO j hj).1)
    replace ka := ka.grown hg (ne_row (apartT hO ka (by decide)))
    replace kb := kb.grown hg (ne_row (apartT hO kb (by decide)))
    clear hO
    have hO := hO9
    clear hO9 hg
    refine Lib.wp_append_run _ _ _ 22 22 rfl _ _ rfl rfl _ _ hr ?_
    clear hr
    obtain ⟨o5, c5, hv5, hR5, _⟩ := hO.form opOk
    rw [HNN.out] at hv5
    subst hv5
    refine hK.out _ _ (HKT.out _ hE49) (fun hHeld => ?_)
    clear hK K
    (try simp only [Act.put, List.setIfInBounds_toArray, List.set_cons_zero, List.set_cons_succ])
    refine doH (i := 6) rfl (by kernel_rfl) (by rfl) (fun K hK => ?_)
    go_simp
    go_at_call 10
    refine (HD2.out y49 o5 c5 hR5 h30 h20 HSM.out.1 HSM.out.2).mono ?_
    rintro e y50 ⟨cs2, ds2, rfl, hX, hXd, hyc⟩
    have hvy := hE49.size
    have va : ga < y49.heap.size := ka.lt
    have vb : gb < y49.heap.size := kb.lt
    have hE50 : Below w8.heap.size w8 y50 := hE49.trans (hyc.mono hE49.size)
    replace ka := ka.below hyc ka.lt
    replace kb := kb.below hyc kb.lt
    have hs1 := hX.size
    have hs2 := hXd.size
    have ho1 := hX.one
    have ho2 := hXd.one
    obtain ⟨yc, hycc⟩ : ∃ yc, y50 = yc := ⟨_, rfl⟩
    rw [hycc] at hX
    have hbc : Below yc.heap.size yc y50 := by rw [hycc]; exact Below.refl _ _
    have ua : ga < yc.heap.size := by rw [← hycc]; exact ka.lt
    have ub : gb < yc.heap.size := by rw [← hycc]; exact kb.lt
    clear hycc hXd hO hR5
    go_wp2_with fail
    refine hK.out _ _ (HKT.out _ hE50) (fun hHeld => ?_)
    clear hK K
    (try simp only [Act.put, List.setIfInBounds_toArray, List.set_cons_zero, List.set_cons_succ])
    iterate 4 (apply tkF [7, 8, 9, 10] rfl rfl (by kernel_rfl) (fun _ _ _ h => h) (by rfl); (case hy => (intro w hSw; (try dsimp only at hSw); go_simp; try with_reducible rfl)); (case hS => assumption); (try simp only [Act.put, List.setIfInBounds_toArray, List.set_cons_zero, List.set_cons_succ]))
    refine doH (i := 13) rfl (by kernel_rfl) (by rfl) (fun K hK => ?_)
    refine wp_store_row 40 _ _ rfl ga cs2 rfl rfl 40 zeroSt ka (iSt hs1) hs1.symm ho1 ?_
    have hF1 := row_below hE50 ga (by omega) cs2
    refine hK.out _ _ (HKT.out _ hF1) (fun hHeld => ?_)
    clear hK K
    (try simp only [Act.put])
    refine doH (i := 14) rfl (by kernel_rfl) (by rfl) (fun K hK => ?_)
    refine wp_store_row 43 _ _ rfl gb ds2 rfl rfl 43 zeroWd (Blk.setRow kb (by omega) cs2) (iWd hs2) hs2.symm ho2 ?_
    have hF2 := row_below hF1 gb (by omega) ds2
    refine hK.out _ _ (HKT.out _ hF2) (fun hHeld => ?_)
    clear hK K
    (try simp only [Act.put])
    (apply tkF [15] rfl rfl (by kernel_rfl) (fun _ _ _ h => h) (by rfl); (case hy => (intro w hSw; (try dsimp only at hSw); go_simp; try with_reducible rfl)); (case hS => assumption); (try simp only [Act.put, List.setIfInBounds_toArray, List.set_cons_zero, List.set_cons_succ]))
    refine wpAnyH_done (by kernel_rfl) ?_ _
    go_wp2_with fail
    go_meet
    obtain ⟨t1, t2⟩ := rise_tail (B := w8.heap.size) (gb := gb) (ds2 := ds2) hX hbc ka (by omega) (by omega) (fun q _ _ => by omega)
    exact ⟨ga, gb, cs2, 0, rfl, rfl, rfl, la, t1, t2, hF2, rfl⟩
    go_simp
    have kb : Blk (y1.alloc (.cells zeroWd 43)) y1.heap.size 43 zeroWd := Blk.new _ _ _
    have hyA := (Below.refl _ y1).alloc (Nat.le_refl _) (.cells zeroWd 43)
    have hE51 := hE1.trans (hyA.mono hE1.size)
    have lb : w8.heap.size ≤ y1.heap.size := hE1.size
    replace hO := hO.below hyA
    generalize y1.alloc (.cells zeroWd 43) = y51 at *
    generalize y1.heap.size = gb at *
    clear hyA
    refine hK.out _ _ (HKT.out _ hE51) (fun hHeld => ?_)
    clear hK K
    (try simp only [Act.put, List.setIfInBounds_toArray, List.set_cons_zero, List.set_cons_succ])
    refine doH2 (i := 3) (j := 11) rfl rfl (by kernel_rfl) (by rfl) (by rfl) (fun K hK => ?_) (fun K hK => ?_)
    obtain ⟨v52, y52, hr, hO9, hg⟩ := append_g2 opOk hO oa n cap HLN.out (HOA.out y51 hE51) (by simp; omega) hE51.size
    have hE52 := hE51.grown hg hE51.size (fun j hj => (World.ownsRow.lt hO j hj).1)
    replace kb := kb.grown hg (ne_row (apartT hO kb (by decide)))
    clear hO
    have hO := hO9
    clear hO9 hg
    rw [List.nil_append] at hO
    refine Lib.wp_append_run _ _ _ 22 22 rfl _ _ rfl rfl _ _ hr ?_
    clear hr
    refine hK.out _ _ (HKT.out _ hE52) (fun hHeld => ?_)
    clear hK K
    (try simp only [Act.put, List.setIfInBounds_toArray, List.set_cons_zero, List.set_cons_succ])
    refine doH2 (i := 5) (j := 11) rfl rfl (by kernel_rfl) (by rfl) (by rfl) (fun K hK => ?_) (fun K hK => ?_)
    obtain ⟨v53, y53, hr, hO9, hg⟩ := append_g2 opOk hO ob m cap' HLM.out (HOB.out y52 hE52) (by rw [HLN.out]; omega) hE52.size
    have hE53 := hE52.grown hg hE52.size (fun j hj => (World.ownsRow.lt hO j hj).1)
    replace kb := kb.grown hg (ne_row (apartT hO kb (by decide)))
    clear hO
    have hO := hO9
    clear hO9 hg
    refine Lib.wp_append_run _ _ _ 22 22 rfl _ _ rfl rfl _ _ hr ?_
    clear hr
    obtain ⟨o5, c5, hv5, hR5, _⟩ := hO.form opOk
    rw [HNN.out] at hv5
    subst hv5
    refine hK.out _ _ (HKT.out _ hE53) (fun hHeld => ?_)
    clear hK K
    (try simp only [Act.put, List.setIfInBounds_toArray, List.set_cons_zero, List.set_cons_succ])
    refine doH2 (i := 6) (j := 11) rfl rfl (by kernel_rfl) (by rfl) (by rfl) (fun K hK => ?_) (fun K hK => ?_)
    go_simp
    go_at_call 10
    refine (HD2.out y53 o5 c5 hR5 h30 h20 HSM.out.1 HSM.out.2).mono ?_
    rintro e y54 ⟨cs2, ds2, rfl, hX, hXd, hyc⟩
    have hvy := hE53.size
    have vb : gb < y53.heap.size := kb.lt
    have hE54 : Below w8.heap.size w8 y54 := hE53.trans (hyc.mono hE53.size)
    replace kb := kb.below hyc kb.lt
    have hs1 := hX.size
    have hs2 := hXd.size
    have ho1 := hX.one
    have ho2 := hXd.one
    obtain ⟨yc, hycc⟩ : ∃ yc, y54 = yc := ⟨_, rfl⟩
    rw [hycc] at hX
    have hbc : Below yc.heap.size yc y54 := by rw [hycc]; exact Below.refl _ _
    have ub : gb < yc.heap.size := by rw [← hycc]; exact kb.lt
    clear hycc hXd hO hR5
    go_wp2_with fail
    refine hK.out _ _ (HKT.out _ hE54) (fun hHeld => ?_)
    clear hK K
    (try simp only [Act.put, List.setIfInBounds_toArray, List.set_cons_zero, List.set_cons_succ])
    iterate 4 (apply tkF [7, 8, 9, 10] rfl rfl (by kernel_rfl) (fun _ _ _ h => h) (by rfl); (case hy => (intro w hSw; (try dsimp only at hSw); go_simp; try with_reducible rfl)); (case hS => assumption); (try simp only [Act.put, List.setIfInBounds_toArray, List.set_cons_zero, List.set_cons_succ]))
    refine doH (i := 11) rfl (by kernel_rfl) (by rfl) (fun K hK => ?_)
    go_simp
    have ka : Blk (y54.alloc (.cells zeroSt 40)) y54.heap.size 40 zeroSt := Blk.new _ _ _
    have hyA := (Below.refl _ y54).alloc (Nat.le_refl _) (.cells zeroSt 40)
    have hE55 := hE54.trans (hyA.mono hE54.size)
    have la : w8.heap.size ≤ y54.heap.size := hE54.size
    have dab : gb < y54.heap.size := kb.lt
    replace kb := kb.below hyA kb.lt
    have ua : yc.heap.size ≤ y54.heap.size := hbc.size
    replace hbc := hbc.trans (hyA.mono hbc.size)
    generalize y54.alloc (.cells zeroSt 40) = y55 at *
    generalize y54.heap.size = ga at *
    clear hyA
    refine hK.out _ _ (HKT.out _ hE55) (fun hHeld => ?_)
    clear hK K
    (try simp only [Act.put, List.setIfInBounds_toArray, List.set_cons_zero, List.set_cons_succ])
    refine doH (i := 13) rfl (by kernel_rfl) (by rfl) (fun K hK => ?_)
    refine wp_store_row 40 _ _ rfl ga cs2 rfl rfl 40 zeroSt ka (iSt hs1) hs1.symm ho1 ?_
    have hF1 := row_below hE55 ga (by omega) cs2
    refine hK.out _ _ (HKT.out _ hF1) (fun hHeld => ?_)
    clear hK K
    (try simp only [Act.put])
    refine doH (i := 14) rfl (by kernel_rfl) (by rfl) (fun K hK => ?_)
    refine wp_store_row 43 _ _ rfl gb ds2 rfl rfl 43 zeroWd (Blk.setRow kb (by omega) cs2) (iWd hs2) hs2.symm ho2 ?_
    have hF2 := row_below hF1 gb (by omega) ds2
    refine hK.out _ _ (HKT.out _ hF2) (fun hHeld => ?_)
    clear hK K
    (try simp only [Act.put])
    (apply tkF [15] rfl rfl (by kernel_rfl) (fun _ _ _ h => h) (by rfl); (case hy => (intro w hSw; (try dsimp only at hSw); go_simp; try with_reducible rfl)); (case hS => assumption); (try simp only [Act.put, List.setIfInBounds_toArray, List.set_cons_zero, List.set_cons_succ]))
    refine wpAnyH_done (by kernel_rfl) ?_ _
    go_wp2_with fail
    go_meet
    obtain ⟨t1, t2⟩ := rise_tail (B := w8.heap.size) (gb := gb) (ds2 := ds2) hX hbc ka (by omega) (by omega) (fun q _ _ => by omega)
    exact ⟨ga, gb, cs2, 0, rfl, rfl, rfl, la, t1, t2, hF2, rfl⟩
    go_simp
    have ka : Blk (y53.alloc (.cells zeroSt 40)) y53.heap.size 40 zeroSt := Blk.new _ _ _
    have hyA := (Below.refl _ y53).alloc (Nat.le_refl _) (.cells zeroSt 40)
    have hE56 := hE53.trans (hyA.mono hE53.size)
    have la : w8.heap.size ≤ y53.heap.size := hE53.size
    have dab : gb < y53.heap.size := kb.lt
    replace kb := kb.below hyA kb.lt
    replace hO := hO.below hyA
    replace hR5 := hR5.below hyA
    generalize y53.alloc (.cells zeroSt 40) = y56 at *
    generalize y53.heap.size = ga at *
    clear hyA
    refine hK.out _ _ (HKT.out _ hE56) (fun hHeld => ?_)
    clear hK K
    (try simp only [Act.put, List.setIfInBounds_toArray, List.set_cons_zero, List.set_cons_succ])
    refine doH (i := 6) rfl (by kernel_rfl) (by rfl) (fun K hK => ?_)
    go_simp
    go_at_call 10
    refine (HD2.out y56 o5 c5 hR5 h30 h20 HSM.out.1 HSM.out.2).mono ?_
    rintro e y57 ⟨cs2, ds2, rfl, hX, hXd, hyc⟩
    have hvy := hE56.size
    have vb : gb < y56.heap.size := kb.lt
    have va : ga < y56.heap.size := ka.lt
    have hE57 : Below w8.heap.size w8 y57 := hE56.trans (hyc.mono hE56.size)
    replace kb := kb.below hyc kb.lt
    replace ka := ka.below hyc ka.lt
    have hs1 := hX.size
    have hs2 := hXd.size
    have ho1 := hX.one
    have ho2 := hXd.one
    obtain ⟨yc, hycc⟩ : ∃ yc, y57 = yc := ⟨_, rfl⟩
    rw [hycc] at hX
    have hbc : Below yc.heap.size yc y57 := by rw [hycc]; exact Below.refl _ _
    have ub : gb < yc.heap.size := by rw [← hycc]; exact kb.lt
    have ua : ga < yc.heap.size := by rw [← hycc]; exact ka.lt
    clear hycc hXd hO hR5
    go_wp2_with fail
    refine hK.out _ _ (HKT.out _ hE57) (fun hHeld => ?_)
    clear hK K
    (try simp only [Act.put, List.setIfInBounds_toArray, List.set_cons_zero, List.set_cons_succ])
    iterate 4 (apply tkF [7, 8, 9, 10] rfl rfl (by kernel_rfl) (fun _ _ _ h => h) (by rfl); (case hy => (intro w hSw; (try dsimp only at hSw); go_simp; try with_reducible rfl)); (case hS => assumption); (try simp only [Act.put, List.setIfInBounds_toArray, List.set_cons_zero, List.set_cons_succ]))
    refine doH (i := 13) rfl (by kernel_rfl) (by rfl) (fun K hK => ?_)
    refine wp_store_row 40 _ _ rfl ga cs2 rfl rfl 40 zeroSt ka (iSt hs1) hs1.symm ho1 ?_
    have hF1 := row_below hE57 ga (by omega) cs2
    refine hK.out _ _ (HKT.out _ hF1) (fun hHeld => ?_)
    clear hK K
    (try simp only [Act.put])
    refine doH (i := 14) rfl (by kernel_rfl) (by rfl) (fun K hK => ?_)
    refine wp_store_row 43 _ _ rfl gb ds2 rfl rfl 43 zeroWd (Blk.setRow kb (by omega) cs2) (iWd hs2) hs2.symm ho2 ?_
    have hF2 := row_below hF1 gb (by omega) ds2
    refine hK.out _ _ (HKT.out _ hF2) (fun hHeld => ?_)
    clear hK K
    (try simp only [Act.put])
    (apply tkF [15] rfl rfl (by kernel_rfl) (fun _ _ _ h => h) (by rfl); (case hy => (intro w hSw; (try dsimp only at hSw); go_simp; try with_reducible rfl)); (case hS => assumption); (try simp only [Act.put, List.setIfInBounds_toArray, List.set_cons_zero, List.set_cons_succ]))
    refine wpAnyH_done (by kernel_rfl) ?_ _
    go_wp2_with fail
    go_meet
    obtain ⟨t1, t2⟩ := rise_tail (B := w8.heap.size) (gb := gb) (ds2 := ds2) hX hbc ka (by omega) (by omega) (fun q _ _ => by omega)
    exact ⟨ga, gb, cs2, 0, rfl, rfl, rfl, la, t1, t2, hF2, rfl⟩
    go_simp
    have ka : Blk (y52.alloc (.cells zeroSt 40)) y52.heap.size 40 zeroSt := Blk.new _ _ _
    have hyA := (Below.refl _ y52).alloc (Nat.le_refl _) (.cells zeroSt 40)
    have hE58 := hE52.trans (hyA.mono hE52.size)
    have la : w8.heap.size ≤ y52.heap.size := hE52.size
    have dab : gb < y52.heap.size := kb.lt
    replace kb := kb.below hyA kb.lt
    replace hO := hO.below hyA
    generalize y52.alloc (.cells zeroSt 40) = y58 at *
    generalize y52.heap.size = ga at *
    clear hyA
    refine hK.out _ _ (HKT.out _ hE58) (fun hHeld => ?_)
    clear hK K
    (try simp only [Act.put, List.setIfInBounds_toArray, List.set_cons_zero, List.set_cons_succ])
    refine doH (i := 5) rfl (by kernel_rfl) (by rfl) (fun K hK => ?_)
    obtain ⟨v59, y59, hr, hO9, hg⟩ := append_g2 opOk hO ob m cap' HLM.out (HOB.out y58 hE58) (by rw [HLN.out]; omega) hE58.size
    have hE59 := hE58.grown hg hE58.size (fun j hj => (World.ownsRow.lt hO j hj).1)
    replace kb := kb.grown hg (ne_row (apartT hO kb (by decide)))
    replace ka := ka.grown hg (ne_row (apartT hO ka (by decide)))
    clear hO
    have hO := hO9
    clear hO9 hg
    refine Lib.wp_append_run _ _ _ 22 22 rfl _ _ rfl rfl _ _ hr ?_
    clear hr
    obtain ⟨o5, c5, hv5, hR5, _⟩ := hO.form opOk
    rw [HNN.out] at hv5
    subst hv5
    refine hK.out _ _ (HKT.out _ hE59) (fun hHeld => ?_)
    clear hK K
    (try simp only [Act.put, List.setIfInBounds_toArray, List.set_cons_zero, List.set_cons_succ])
    refine doH (i := 6) rfl (by kernel_rfl) (by rfl) (fun K hK => ?_)
    go_simp
    go_at_call 10
    refine (HD2.out y59 o5 c5 hR5 h30 h20 HSM.out.1 HSM.out.2).mono ?_
    rintro e y60 ⟨cs2, ds2, rfl, hX, hXd, hyc⟩
    have hvy := hE59.size
    have vb : gb < y59.heap.size := kb.lt
    have va : ga < y59.heap.size := ka.lt
    have hE60 : Below w8.heap.size w8 y60 := hE59.trans (hyc.mono hE59.size)
    replace kb := kb.below hyc kb.lt
    replace ka := ka.below hyc ka.lt
    have hs1 := hX.size
    have hs2 := hXd.size
    have ho1 := hX.one
    have ho2 := hXd.one
    obtain ⟨yc, hycc⟩ : ∃ yc, y60 = yc := ⟨_, rfl⟩
    rw [hycc] at hX
    have hbc : Below yc.heap.size yc y60 := by rw [hycc]; exact Below.refl _ _
    have ub : gb < yc.heap.size := by rw [← hycc]; exact kb.lt
    have ua : ga < yc.heap.size := by rw [← hycc]; exact ka.lt
    clear hycc hXd hO hR5
    go_wp2_with fail
    refine hK.out _ _ (HKT.out _ hE60) (fun hHeld => ?_)
    clear hK K
    (try simp only [Act.put, List.setIfInBounds_toArray, List.set_cons_zero, List.set_cons_succ])
    iterate 4 (apply tkF [7, 8, 9, 10] rfl rfl (by kernel_rfl) (fun _ _ _ h => h) (by rfl); (case hy => (intro w hSw; (try dsimp only at hSw); go_simp; try with_reducible rfl)); (case hS => assumption); (try simp only [Act.put, List.setIfInBounds_toArray, List.set_cons_zero, List.set_cons_succ]))
    refine doH (i := 13) rfl (by kernel_rfl) (by rfl) (fun K hK => ?_)
    refine wp_store_row 40 _ _ rfl ga cs2 rfl rfl 40 zeroSt ka (iSt hs1) hs1.symm ho1 ?_
    have hF1 := row_below hE60 ga (by omega) cs2
    refine hK.out _ _ (HKT.out _ hF1) (fun hHeld => ?_)
    clear hK K
    (try simp only [Act.put])
    refine doH (i := 14) rfl (by kernel_rfl) (by rfl) (fun K hK => ?_)
    refine wp_store_row 43 _ _ rfl gb ds2 rfl rfl 43 zeroWd (Blk.setRow kb (by omega) cs2) (iWd hs2) hs2.symm ho2 ?_
    have hF2 := row_below hF1 gb (by omega) ds2
    refine hK.out _ _ (HKT.out _ hF2) (fun hHeld => ?_)
    clear hK K
    (try simp only [Act.put])
    (apply tkF [15] rfl rfl (by kernel_rfl) (fun _ _ _ h => h) (by rfl); (case hy => (intro w hSw; (try dsimp only at hSw); go_simp; try with_reducible rfl)); (case hS => assumption); (try simp only [Act.put, List.setIfInBounds_toArray, List.set_cons_zero, List.set_cons_succ]))
    refine wpAnyH_done (by kernel_rfl) ?_ _
    go_wp2_with fail
    go_meet
    obtain ⟨t1, t2⟩ := rise_tail (B := w8.heap.size) (gb := gb) (ds2 := ds2) hX hbc ka (by omega) (by omega) (fun q _ _ => by omega)
    exact ⟨ga, gb, cs2, 0, rfl, rfl, rfl, la, t1, t2, hF2, rfl⟩
    go_simp
    have ka : Blk (y51.alloc (.cells zeroSt 40)) y51.heap.size 40 zeroSt := Blk.new _ _ _
    have hyA := (Below.refl _ y51).alloc (Nat.le_refl _) (.cells zeroSt 40)
    have hE61 := hE51.trans (hyA.mono hE51.size)
    have la : w8.heap.size ≤ y51.heap.size := hE51.size
    have dab : gb < y51.heap.size := kb.lt
    replace kb := kb.below hyA kb.lt
    replace hO := hO.below hyA
    generalize y51.alloc (.cells zeroSt 40) = y61 at *
    generalize y51.heap.size = ga at *
    clear hyA
    refine hK.out _ _ (HKT.out _ hE61) (fun hHeld => ?_)
    clear hK K
    (try simp only [Act.put, List.setIfInBounds_toArray, List.set_cons_zero, List.set_cons_succ])
    refine doH (i := 3) rfl (by kernel_rfl) (by rfl) (fun K hK => ?_)
    obtain ⟨v62, y62, hr, hO9, hg⟩ := append_g2 opOk hO oa n cap HLN.out (HOA.out y61 hE61) (by simp; omega) hE61.size
    have hE62 := hE61.grown hg hE61.size (fun j hj => (World.ownsRow.lt hO j hj).1)
    replace kb := kb.grown hg (ne_row (apartT hO kb (by decide)))
    replace ka := ka.grown hg (ne_row (apartT hO ka (by decide)))
    clear hO
    have hO := hO9
    clear hO9 hg
    rw [List.nil_append] at hO
    refine Lib.wp_append_run _ _ _ 22 22 rfl _ _ rfl rfl _ _ hr ?_
    clear hr
    refine hK.out _ _ (HKT.out _ hE62) (fun hHeld => ?_)
    clear hK K
    (try simp only [Act.put, List.setIfInBounds_toArray, List.set_cons_zero, List.set_cons_succ])
    refine doH (i := 5) rfl (by kernel_rfl) (by rfl) (fun K hK => ?_)
    obtain ⟨v63, y63, hr, hO9, hg⟩ := append_g2 opOk hO ob m cap' HLM.out (HOB.out y62 hE62) (by rw [HLN.out]; omega) hE62.size
    have hE63 := hE62.grown hg hE62.size (fun j hj => (World.ownsRow.lt hO j hj).1)
    replace kb := kb.grown hg (ne_row (apartT hO kb (by decide)))
    replace ka := ka.grown hg (ne_row (apartT hO ka (by decide)))
    clear hO
    have hO := hO9
    clear hO9 hg
    refine Lib.wp_append_run _ _ _ 22 22 rfl _ _ rfl rfl _ _ hr ?_
    clear hr
    obtain ⟨o5, c5, hv5, hR5, _⟩ := hO.form opOk
    rw [HNN.out] at hv5
    subst hv5
    refine hK.out _ _ (HKT.out _ hE63) (fun hHeld => ?_)
    clear hK K
    (try simp only [Act.put, List.setIfInBounds_toArray, List.set_cons_zero, List.set_cons_succ])
    refine doH (i := 6) rfl (by kernel_rfl) (by rfl) (fun K hK => ?_)
    go_simp
    go_at_call 10
    refine (HD2.out y63 o5 c5 hR5 h30 h20 HSM.out.1 HSM.out.2).mono ?_
    rintro e y64 ⟨cs2, ds2, rfl, hX, hXd, hyc⟩
    have hvy := hE63.size
    have vb : gb < y63.heap.size := kb.lt
    have va : ga < y63.heap.size := ka.lt
    have hE64 : Below w8.heap.size w8 y64 := hE63.trans (hyc.mono hE63.size)
    replace kb := kb.below hyc kb.lt
    replace ka := ka.below hyc ka.lt
    have hs1 := hX.size
    have hs2 := hXd.size
    have ho1 := hX.one
    have ho2 := hXd.one
    obtain ⟨yc, hycc⟩ : ∃ yc, y64 = yc := ⟨_, rfl⟩
    rw [hycc] at hX
    have hbc : Below yc.heap.size yc y64 := by rw [hycc]; exact Below.refl _ _
    have ub : gb < yc.heap.size := by rw [← hycc]; exact kb.lt
    have ua : ga < yc.heap.size := by rw [← hycc]; exact ka.lt
    clear hycc hXd hO hR5
    go_wp2_with fail
    refine hK.out _ _ (HKT.out _ hE64) (fun hHeld => ?_)
    clear hK K
    (try simp only [Act.put, List.setIfInBounds_toArray, List.set_cons_zero, List.set_cons_succ])
    iterate 4 (apply tkF [7, 8, 9, 10] rfl rfl (by kernel_rfl) (fun _ _ _ h => h) (by rfl); (case hy => (intro w hSw; (try dsimp only at hSw); go_simp; try with_reducible rfl)); (case hS => assumption); (try simp only [Act.put, List.setIfInBounds_toArray, List.set_cons_zero, List.set_cons_succ]))
    refine doH (i := 13) rfl (by kernel_rfl) (by rfl) (fun K hK => ?_)
    refine wp_store_row 40 _ _ rfl ga cs2 rfl rfl 40 zeroSt ka (iSt hs1) hs1.symm ho1 ?_
    have hF1 := row_below hE64 ga (by omega) cs2
    refine hK.out _ _ (HKT.out _ hF1) (fun hHeld => ?_)
    clear hK K
    (try simp only [Act.put])
    refine doH (i := 14) rfl (by kernel_rfl) (by rfl) (fun K hK => ?_)
    refine wp_store_row 43 _ _ rfl gb ds2 rfl rfl 43 zeroWd (Blk.setRow kb (by omega) cs2) (iWd hs2) hs2.symm ho2 ?_
    have hF2 := row_below hF1 gb (by omega) ds2
    refine hK.out _ _ (HKT.out _ hF2) (fun hHeld => ?_)
    clear hK K
    (try simp only [Act.put])
    (apply tkF [15] rfl rfl (by kernel_rfl) (fun _ _ _ h => h) (by rfl); (case hy => (intro w hSw; (try dsimp only at hSw); go_simp; try with_reducible rfl)); (case hS => assumption); (try simp only [Act.put, List.setIfInBounds_toArray, List.set_cons_zero, List.set_cons_succ]))
    refine wpAnyH_done (by kernel_rfl) ?_ _
    go_wp2_with fail
    go_meet
    obtain ⟨t1, t2⟩ := rise_tail (B := w8.heap.size) (gb := gb) (ds2 := ds2) hX hbc ka (by omega) (by omega) (fun q _ _ => by omega)
    exact ⟨ga, gb, cs2, 0, rfl, rfl, rfl, la, t1, t2, hF2, rfl⟩
    go_simp
    have ka : Blk (y0.alloc (.cells zeroSt 40)) y0.heap.size 40 zeroSt := Blk.new _ _ _
    have hyA := (Below.refl _ y0).alloc (Nat.le_refl _) (.cells zeroSt 40)
    have hE65 := hE0.trans (hyA.mono hE0.size)
    have la : w8.heap.size ≤ y0.heap.size := hE0.size
    generalize y0.alloc (.cells zeroSt 40) = y65 at *
    generalize y0.heap.size = ga at *
    clear hyA
    refine hK.out _ _ (HKT.out _ hE65) (fun hHeld => ?_)
    clear hK K
    (try simp only [Act.put, List.setIfInBounds_toArray, List.set_cons_zero, List.set_cons_succ])
    refine doH2 (i := 1) (j := 12) rfl rfl (by kernel_rfl) (by rfl) (by rfl) (fun K hK => ?_) (fun K hK => ?_)
    go_simp
    have hO := ownG_lit opOk y65 w8.heap.size hE65.size
    have hyA := (Below.refl _ y65).alloc (Nat.le_refl _) (.cells #[] 63)
    have hE66 := hE65.trans (hyA.mono hE65.size)
    change OwnG _ (y65.alloc (.cells #[] 63)) _ _ _ at hO
    replace ka := ka.below hyA ka.lt
    generalize y65.alloc (.cells #[] 63) = y66 at *
    generalize y65.heap.size = b0 at *
    clear hyA
    refine hK.out _ _ (HKT.out _ hE66) (fun hHeld => ?_)
    clear hK K
    (try simp only [Act.put, List.setIfInBounds_toArray, List.set_cons_zero, List.set_cons_succ])
    refine doH2 (i := 3) (j := 12) rfl rfl (by kernel_rfl) (by rfl) (by rfl) (fun K hK => ?_) (fun K hK => ?_)
    obtain ⟨v67, y67, hr, hO9, hg⟩ := append_g2 opOk hO oa n cap HLN.out (HOA.out y66 hE66) (by simp; omega) hE66.size
    have hE67 := hE66.grown hg hE66.size (fun j hj => (World.ownsRow.lt hO j hj).1)
    replace ka := ka.grown hg (ne_row (apartT hO ka (by decide)))
    clear hO
    have hO := hO9
    clear hO9 hg
    rw [List.nil_append] at hO
    refine Lib.wp_append_run _ _ _ 22 22 rfl _ _ rfl rfl _ _ hr ?_
    clear hr
    refine hK.out _ _ (HKT.out _ hE67) (fun hHeld => ?_)
    clear hK K
    (try simp only [Act.put, List.setIfInBounds_toArray, List.set_cons_zero, List.set_cons_succ])
    refine doH2 (i := 5) (j := 12) rfl rfl (by kernel_rfl) (by rfl) (by rfl) (fun K hK => ?_) (fun K hK => ?_)
    obtain ⟨v68, y68, hr, hO9, hg⟩ := append_g2 opOk hO ob m cap' HLM.out (HOB.out y67 hE67) (by rw [HLN.out]; omega) hE67.size
    have hE68 := hE67.grown hg hE67.size (fun j hj => (World.ownsRow.lt hO j hj).1)
    replace ka := ka.grown hg (ne_row (apartT hO ka (by decide)))
    clear hO
    have hO := hO9
    clear hO9 hg
    refine Lib.wp_append_run _ _ _ 22 22 rfl _ _ rfl rfl _ _ hr ?_
    clear hr
    obtain ⟨o5, c5, hv5, hR5, _⟩ := hO.form opOk
    rw [HNN.out] at hv5
    subst hv5
    refine hK.out _ _ (HKT.out _ hE68) (fun hHeld => ?_)
    clear hK K
    (try simp only [Act.put, List.setIfInBounds_toArray, List.set_cons_zero, List.set_cons_succ])
    refine doH2 (i := 6) (j := 12) rfl rfl (by kernel_rfl) (by rfl) (by rfl) (fun K hK => ?_) (fun K hK => ?_)
    go_simp
    go_at_call 10
    refine (HD2.out y68 o5 c5 hR5 h30 h20 HSM.out.1 HSM.out.2).mono ?_
    rintro e y69 ⟨cs2, ds2, rfl, hX, hXd, hyc⟩
    have hvy := hE68.size
    have va : ga < y68.heap.size := ka.lt
    have hE69 : Below w8.heap.size w8 y69 := hE68.trans (hyc.mono hE68.size)
    replace ka := ka.below hyc ka.lt
    have hs1 := hX.size
    have hs2 := hXd.size
    have ho1 := hX.one
    have ho2 := hXd.one
    obtain ⟨yc, hycc⟩ : ∃ yc, y69 = yc := ⟨_, rfl⟩
    rw [hycc] at hX
    have hbc : Below yc.heap.size yc y69 := by rw [hycc]; exact Below.refl _ _
    have ua : ga < yc.heap.size := by rw [← hycc]; exact ka.lt
    clear hycc hXd hO hR5
    go_wp2_with fail
    refine hK.out _ _ (HKT.out _ hE69) (fun hHeld => ?_)
    clear hK K
    (try simp only [Act.put, List.setIfInBounds_toArray, List.set_cons_zero, List.set_cons_succ])
    iterate 4 (apply tkF [7, 8, 9, 10] rfl rfl (by kernel_rfl) (fun _ _ _ h => h) (by rfl); (case hy => (intro w hSw; (try dsimp only at hSw); go_simp; try with_reducible rfl)); (case hS => assumption); (try simp only [Act.put, List.setIfInBounds_toArray, List.set_cons_zero, List.set_cons_succ]))
    refine doH (i := 12) rfl (by kernel_rfl) (by rfl) (fun K hK => ?_)
    go_simp
    have kb : Blk (y69.alloc (.cells zeroWd 43)) y69.heap.size 43 zeroWd := Blk.new _ _ _
    have hyA := (Below.refl _ y69).alloc (Nat.le_refl _) (.cells zeroWd 43)
    have hE70 := hE69.trans (hyA.mono hE69.size)
    have lb : w8.heap.size ≤ y69.heap.size := hE69.size
    have dba : ga < y69.heap.size := ka.lt
    replace ka := ka.below hyA ka.lt
    have ub : yc.heap.size ≤ y69.heap.size := hbc.size
    replace hbc := hbc.trans (hyA.mono hbc.size)
    generalize y69.alloc (.cells zeroWd 43) = y70 at *
    generalize y69.heap.size = gb at *
    clear hyA
    refine hK.out _ _ (HKT.out _ hE70) (fun hHeld => ?_)
    clear hK K
    (try simp only [Act.put, List.setIfInBounds_toArray, List.set_cons_zero, List.set_cons_succ])
    refine doH (i := 13) rfl (by kernel_rfl) (by rfl) (fun K hK => ?_)
    refine wp_store_row 40 _ _ rfl ga cs2 rfl rfl 40 zeroSt ka (iSt hs1) hs1.symm ho1 ?_
    have hF1 := row_below hE70 ga (by omega) cs2
    refine hK.out _ _ (HKT.out _ hF1) (fun hHeld => ?_)
    clear hK K
    (try simp only [Act.put])
    refine doH (i := 14) rfl (by kernel_rfl) (by rfl) (fun K hK => ?_)
    refine wp_store_row 43 _ _ rfl gb ds2 rfl rfl 43 zeroWd (Blk.setRow kb (by omega) cs2) (iWd hs2) hs2.symm ho2 ?_
    have hF2 := row_below hF1 gb (by omega) ds2
    refine hK.out _ _ (HKT.out _ hF2) (fun hHeld => ?_)
    clear hK K
    (try simp only [Act.put])
    (apply tkF [15] rfl rfl (by kernel_rfl) (fun _ _ _ h => h) (by rfl); (case hy => (intro w hSw; (try dsimp only at hSw); go_simp; try with_reducible rfl)); (case hS => assumption); (try simp only [Act.put, List.setIfInBounds_toArray, List.set_cons_zero, List.set_cons_succ]))
    refine wpAnyH_done (by kernel_rfl) ?_ _
    go_wp2_with fail
    go_meet
    obtain ⟨t1, t2⟩ := rise_tail (B := w8.heap.size) (gb := gb) (ds2 := ds2) hX hbc ka (by omega) (by omega) (fun q _ _ => by omega)
    exact ⟨ga, gb, cs2, 0, rfl, rfl, rfl, la, t1, t2, hF2, rfl⟩
    go_simp
    have kb : Blk (y68.alloc (.cells zeroWd 43)) y68.heap.size 43 zeroWd := Blk.new _ _ _
    have hyA := (Below.refl _ y68).alloc (Nat.le_refl _) (.cells zeroWd 43)
    have hE71 := hE68.trans (hyA.mono hE68.size)
    have lb : w8.heap.size ≤ y68.heap.size := hE68.size
    have dba : ga < y68.heap.size := ka.lt
    replace ka := ka.below hyA ka.lt
    replace hO := hO.below hyA
    replace hR5 := hR5.below hyA
    generalize y68.alloc (.cells zeroWd 43) = y71 at *
    generalize y68.heap.size = gb at *
    clear hyA
    refine hK.out _ _ (HKT.out _ hE71) (fun hHeld => ?_)
    clear hK K
    (try simp only [Act.put, List.setIfInBounds_toArray, List.set_cons_zero, List.set_cons_succ])
    refine doH (i := 6) rfl (by kernel_rfl) (by rfl) (fun K hK => ?_)
    go_simp
    go_at_call 10
    refine (HD2.out y71 o5 c5 hR5 h30 h20 HSM.out.1 HSM.out.2).mono ?_
    rintro e y72 ⟨cs2, ds2, rfl, hX, hXd, hyc⟩
    have hvy := hE71.size
    have va : ga < y71.heap.size := ka.lt
    have vb : gb < y71.heap.size := kb.lt
    have hE72 : Below w8.heap.size w8 y72 := hE71.trans (hyc.mono hE71.size)
    replace ka := ka.below hyc ka.lt
    replace kb := kb.below hyc kb.lt
    have hs1 := hX.size
    have hs2 := hXd.size
    have ho1 := hX.one
    have ho2 := hXd.one
    obtain ⟨yc, hycc⟩ : ∃ yc, y72 = yc := ⟨_, rfl⟩
    rw [hycc] at hX
    have hbc : Below yc.heap.size yc y72 := by rw [hycc]; exact Below.refl _ _
    have ua : ga < yc.heap.size := by rw [← hycc]; exact ka.lt
    have ub : gb < yc.heap.size := by rw [← hycc]; exact kb.lt
    clear hycc hXd hO hR5
    go_wp2_with fail
    refine hK.out _ _ (HKT.out _ hE72) (fun hHeld => ?_)
    clear hK K
    (try simp only [Act.put, List.setIfInBounds_toArray, List.set_cons_zero, List.set_cons_succ])
    iterate 4 (apply tkF [7, 8, 9, 10] rfl rfl (by kernel_rfl) (fun _ _ _ h => h) (by rfl); (case hy => (intro w hSw; (try dsimp only at hSw); go_simp; try with_reducible rfl)); (case hS => assumption); (try simp only [Act.put, List.setIfInBounds_toArray, List.set_cons_zero, List.set_cons_succ]))
    refine doH (i := 13) rfl (by kernel_rfl) (by rfl) (fun K hK => ?_)
    refine wp_store_row 40 _ _ rfl ga cs2 rfl rfl 40 zeroSt ka (iSt hs1) hs1.symm ho1 ?_
    have hF1 := row_below hE72 ga (by omega) cs2
    refine hK.out _ _ (HKT.out _ hF1) (fun hHeld => ?_)
    clear hK K
    (try simp only [Act.put])
    refine doH (i := 14) rfl (by kernel_rfl) (by rfl) (fun K hK => ?_)
    refine wp_store_row 43 _ _ rfl gb ds2 rfl rfl 43 zeroWd (Blk.setRow kb (by omega) cs2) (iWd hs2) hs2.symm ho2 ?_
    have hF2 := row_below hF1 gb (by omega) ds2
    refine hK.out _ _ (HKT.out _ hF2) (fun hHeld => ?_)
    clear hK K
    (try simp only [Act.put])
    (apply tkF [15] rfl rfl (by kernel_rfl) (fun _ _ _ h => h) (by rfl); (case hy => (intro w hSw; (try dsimp only at hSw); go_simp; try with_reducible rfl)); (case hS => assumption); (try simp only [Act.put, List.setIfInBounds_toArray, List.set_cons_zero, List.set_cons_succ]))
    refine wpAnyH_done (by kernel_rfl) ?_ _
    go_wp2_with fail
    go_meet
    obtain ⟨t1, t2⟩ := rise_tail (B := w8.heap.size) (gb := gb) (ds2 := ds2) hX hbc ka (by omega) (by omega) (fun q _ _ => by omega)
    exact ⟨ga, gb, cs2, 0, rfl, rfl, rfl, la, t1, t2, hF2, rfl⟩
    go_simp
    have kb : Blk (y67.alloc (.cells zeroWd 43)) y67.heap.size 43 zeroWd := Blk.new _ _ _
    have hyA := (Below.refl _ y67).alloc (Nat.le_refl _) (.cells zeroWd 43)
    have hE73 := hE67.trans (hyA.mono hE67.size)
    have lb : w8.heap.size ≤ y67.heap.size := hE67.size
    have dba : ga < y67.heap.size := ka.lt
    replace ka := ka.below hyA ka.lt
    replace hO := hO.below hyA
    generalize y67.alloc (.cells zeroWd 43) = y73 at *
    generalize y67.heap.size = gb at *
    clear hyA
    refine hK.out _ _ (HKT.out _ hE73) (fun hHeld => ?_)
    clear hK K
    (try simp only [Act.put, List.setIfInBounds_toArray, List.set_cons_zero, List.set_cons_succ])
    refine doH (i := 5) rfl (by kernel_rfl) (by rfl) (fun K hK => ?_)
    obtain ⟨v74, y74, hr, hO9, hg⟩ := append_g2 opOk hO ob m cap' HLM.out (HOB.out y73 hE73) (by rw [HLN.out]; omega) hE73.size
    have hE74 := hE73.grown hg hE73.size (fun j hj => (World.ownsRow.lt hO j hj).1)
    replace ka := ka.grown hg (ne_row (apartT hO ka (by decide)))
    replace kb := kb.grown hg (ne_row (apartT hO kb (by decide)))
    clear hO
    have hO := hO9
    clear hO9 hg
    refine Lib.wp_append_run _ _ _ 22 22 rfl _ _ rfl rfl _ _ hr ?_
    clear hr
    obtain ⟨o5, c5, hv5, hR5, _⟩ := hO.form opOk
    rw [HNN.out] at hv5
    subst hv5
    refine hK.out _ _ (HKT.out _ hE74) (fun hHeld => ?_)
    clear hK K
    (try simp only [Act.put, List.setIfInBounds_toArray, List.set_cons_zero, List.set_cons_succ])
    refine doH (i := 6) rfl (by kernel_rfl) (by rfl) (fun K hK => ?_)
    go_simp
    go_at_call 10
    refine (HD2.out y74 o5 c5 hR5 h30 h20 HSM.out.1 HSM.out.2).mono ?_
    rintro e y75 ⟨cs2, ds2, rfl, hX, hXd, hyc⟩
    have hvy := hE74.size
    have va : ga < y74.heap.size := ka.lt
    have vb : gb < y74.heap.size := kb.lt
    have hE75 : Below w8.heap.size w8 y75 := hE74.trans (hyc.mono hE74.size)
    replace ka := ka.below hyc ka.lt
    replace kb := kb.below hyc kb.lt
    have hs1 := hX.size
    have hs2 := hXd.size
    have ho1 := hX.one
    have ho2 := hXd.one
    obtain ⟨yc, hycc⟩ : ∃ yc, y75 = yc := ⟨_, rfl⟩
    rw [hycc] at hX
    have hbc : Below yc.heap.size yc y75 := by rw [hycc]; exact Below.refl _ _
    have ua : ga < yc.heap.size := by rw [← hycc]; exact ka.lt
    have ub : gb < yc.heap.size := by rw [← hycc]; exact kb.lt
    clear hycc hXd hO hR5
    go_wp2_with fail
    refine hK.out _ _ (HKT.out _ hE75) (fun hHeld => ?_)
    clear hK K
    (try simp only [Act.put, List.setIfInBounds_toArray, List.set_cons_zero, List.set_cons_succ])
    iterate 4 (apply tkF [7, 8, 9, 10] rfl rfl (by kernel_rfl) (fun _ _ _ h => h) (by rfl); (case hy => (intro w hSw; (try dsimp only at hSw); go_simp; try with_reducible rfl)); (case hS => assumption); (try simp only [Act.put, List.setIfInBounds_toArray, List.set_cons_zero, List.set_cons_succ]))
    refine doH (i := 13) rfl (by kernel_rfl) (by rfl) (fun K hK => ?_)
    refine wp_store_row 40 _ _ rfl ga cs2 rfl rfl 40 zeroSt ka (iSt hs1) hs1.symm ho1 ?_
    have hF1 := row_below hE75 ga (by omega) cs2
    refine hK.out _ _ (HKT.out _ hF1) (fun hHeld => ?_)
    clear hK K
    (try simp only [Act.put])
    refine doH (i := 14) rfl (by kernel_rfl) (by rfl) (fun K hK => ?_)
    refine wp_store_row 43 _ _ rfl gb ds2 rfl rfl 43 zeroWd (Blk.setRow kb (by omega) cs2) (iWd hs2) hs2.symm ho2 ?_
    have hF2 := row_below hF1 gb (by omega) ds2
    refine hK.out _ _ (HKT.out _ hF2) (fun hHeld => ?_)
    clear hK K
    (try simp only [Act.put])
    (apply tkF [15] rfl rfl (by kernel_rfl) (fun _ _ _ h => h) (by rfl); (case hy => (intro w hSw; (try dsimp only at hSw); go_simp; try with_reducible rfl)); (case hS => assumption); (try simp only [Act.put, List.setIfInBounds_toArray, List.set_cons_zero, List.set_cons_succ]))
    refine wpAnyH_done (by kernel_rfl) ?_ _
    go_wp2_with fail
    go_meet
    obtain ⟨t1, t2⟩ := rise_tail (B := w8.heap.size) (gb := gb) (ds2 := ds2) hX hbc ka (by omega) (by omega) (fun q _ _ => by omega)
    exact ⟨ga, gb, cs2, 0, rfl, rfl, rfl, la, t1, t2, hF2, rfl⟩
    go_simp
    have kb : Blk (y66.alloc (.cells zeroWd 43)) y66.heap.size 43 zeroWd := Blk.new _ _ _
    have hyA := (Below.refl _ y66).alloc (Nat.le_refl _) (.cells zeroWd 43)
    have hE76 := hE66.trans (hyA.mono hE66.size)
    have lb : w8.heap.size ≤ y66.heap.size := hE66.size
    have dba : ga < y66.heap.size := ka.lt
    replace ka := ka.below hyA ka.lt
    replace hO := hO.below hyA
    generalize y66.alloc (.cells zeroWd 43) = y76 at *
    generalize y66.heap.size = gb at *
    clear hyA
    refine hK.out _ _ (HKT.out _ hE76) (fun hHeld => ?_)
    clear hK K
    (try simp only [Act.put, List.setIfInBounds_toArray, List.set_cons_zero, List.set_cons_succ])
    refine doH (i := 3) rfl (by kernel_rfl) (by rfl) (fun K hK => ?_)
    obtain ⟨v77, y77, hr, hO9, hg⟩ := append_g2 opOk hO oa n cap HLN.out (HOA.out y76 hE76) (by simp; omega) hE76.size
    have hE77 := hE76.grown hg hE76.size (fun j hj => (World.ownsRow.lt hO j hj).1)
    replace ka := ka.grown hg (ne_row (apartT hO ka (by decide)))
    replace kb := kb.grown hg (ne_row (apartT hO kb (by decide)))
    clear hO
    have hO := hO9
    clear hO9 hg
    rw [List.nil_append] at hO
    refine Lib.wp_append_run _ _ _ 22 22 rfl _ _ rfl rfl _ _ hr ?_
    clear hr
    refine hK.out _ _ (HKT.out _ hE77) (fun hHeld => ?_)
    clear hK K
    (try simp only [Act.put, List.setIfInBounds_toArray, List.set_cons_zero, List.set_cons_succ])
    refine doH (i := 5) rfl (by kernel_rfl) (by rfl) (fun K hK => ?_)
    obtain ⟨v78, y78, hr, hO9, hg⟩ := append_g2 opOk hO ob m cap' HLM.out (HOB.out y77 hE77) (by rw [HLN.out]; omega) hE77.size
    have hE78 := hE77.grown hg hE77.size (fun j hj => (World.ownsRow.lt hO j hj).1)
    replace ka := ka.grown hg (ne_row (apartT hO ka (by decide)))
    replace kb := kb.grown hg (ne_row (apartT hO kb (by decide)))
    clear hO
    have hO := hO9
    clear hO9 hg
    refine Lib.wp_append_run _ _ _ 22 22 rfl _ _ rfl rfl _ _ hr ?_
    clear hr
    obtain ⟨o5, c5, hv5, hR5, _⟩ := hO.form opOk
    rw [HNN.out] at hv5
    subst hv5
    refine hK.out _ _ (HKT.out _ hE78) (fun hHeld => ?_)
    clear hK K
    (try simp only [Act.put, List.setIfInBounds_toArray, List.set_cons_zero, List.set_cons_succ])
    refine doH (i := 6) rfl (by kernel_rfl) (by rfl) (fun K hK => ?_)
    go_simp
    go_at_call 10
    refine (HD2.out y78 o5 c5 hR5 h30 h20 HSM.out.1 HSM.out.2).mono ?_
    rintro e y79 ⟨cs2, ds2, rfl, hX, hXd, hyc⟩
    have hvy := hE78.size
    have va : ga < y78.heap.size := ka.lt
    have vb : gb < y78.heap.size := kb.lt
    have hE79 : Below w8.heap.size w8 y79 := hE78.trans (hyc.mono hE78.size)
    replace ka := ka.below hyc ka.lt
    replace kb := kb.below hyc kb.lt
    have hs1 := hX.size
    have hs2 := hXd.size
    have ho1 := hX.one
    have ho2 := hXd.one
    obtain ⟨yc, hycc⟩ : ∃ yc, y79 = yc := ⟨_, rfl⟩
    rw [hycc] at hX
    have hbc : Below yc.heap.size yc y79 := by rw [hycc]; exact Below.refl _ _
    have ua : ga < yc.heap.size := by rw [← hycc]; exact ka.lt
    have ub : gb < yc.heap.size := by rw [← hycc]; exact kb.lt
    clear hycc hXd hO hR5
    go_wp2_with fail
    refine hK.out _ _ (HKT.out _ hE79) (fun hHeld => ?_)
    clear hK K
    (try simp only [Act.put, List.setIfInBounds_toArray, List.set_cons_zero, List.set_cons_succ])
    iterate 4 (apply tkF [7, 8, 9, 10] rfl rfl (by kernel_rfl) (fun _ _ _ h => h) (by rfl); (case hy => (intro w hSw; (try dsimp only at hSw); go_simp; try with_reducible rfl)); (case hS => assumption); (try simp only [Act.put, List.setIfInBounds_toArray, List.set_cons_zero, List.set_cons_succ]))
    refine doH (i := 13) rfl (by kernel_rfl) (by rfl) (fun K hK => ?_)
    refine wp_store_row 40 _ _ rfl ga cs2 rfl rfl 40 zeroSt ka (iSt hs1) hs1.symm ho1 ?_
    have hF1 := row_below hE79 ga (by omega) cs2
    refine hK.out _ _ (HKT.out _ hF1) (fun hHeld => ?_)
    clear hK K
    (try simp only [Act.put])
    refine doH (i := 14) rfl (by kernel_rfl) (by rfl) (fun K hK => ?_)
    refine wp_store_row 43 _ _ rfl gb ds2 rfl rfl 43 zeroWd (Blk.setRow kb (by omega) cs2) (iWd hs2) hs2.symm ho2 ?_
    have hF2 := row_below hF1 gb (by omega) ds2
    refine hK.out _ _ (HKT.out _ hF2) (fun hHeld => ?_)
    clear hK K
    (try simp only [Act.put])
    (apply tkF [15] rfl rfl (by kernel_rfl) (fun _ _ _ h => h) (by rfl); (case hy => (intro w hSw; (try dsimp only at hSw); go_simp; try with_reducible rfl)); (case hS => assumption); (try simp only [Act.put, List.setIfInBounds_toArray, List.set_cons_zero, List.set_cons_succ]))
    refine wpAnyH_done (by kernel_rfl) ?_ _
    go_wp2_with fail
    go_meet
    obtain ⟨t1, t2⟩ := rise_tail (B := w8.heap.size) (gb := gb) (ds2 := ds2) hX hbc ka (by omega) (by omega) (fun q _ _ => by omega)
    exact ⟨ga, gb, cs2, 0, rfl, rfl, rfl, la, t1, t2, hF2, rfl⟩
    go_simp
    have kb : Blk (y65.alloc (.cells zeroWd 43)) y65.heap.size 43 zeroWd := Blk.new _ _ _
    have hyA := (Below.refl _ y65).alloc (Nat.le_refl _) (.cells zeroWd 43)
    have hE80 := hE65.trans (hyA.mono hE65.size)
    have lb : w8.heap.size ≤ y65.heap.size := hE65.size
    have dba : ga < y65.heap.size := ka.lt
    replace ka := ka.below hyA ka.lt
    generalize y65.alloc (.cells zeroWd 43) = y80 at *
    generalize y65.heap.size = gb at *
    clear hyA
    refine hK.out _ _ (HKT.out _ hE80) (fun hHeld => ?_)
    clear hK K
    (try simp only [Act.put, List.setIfInBounds_toArray, List.set_cons_zero, List.set_cons_succ])
    refine doH (i := 1) rfl (by kernel_rfl) (by rfl) (fun K hK => ?_)
    go_simp
    have hO := ownG_lit opOk y80 w8.heap.size hE80.size
    have hyA := (Below.refl _ y80).alloc (Nat.le_refl _) (.cells #[] 63)
    have hE81 := hE80.trans (hyA.mono hE80.size)
    change OwnG _ (y80.alloc (.cells #[] 63)) _ _ _ at hO
    replace ka := ka.below hyA ka.lt
    replace kb := kb.below hyA kb.lt
    generalize y80.alloc (.cells #[] 63) = y81 at *
    generalize y80.heap.size = b0 at *
    clear hyA
    refine hK.out _ _ (HKT.out _ hE81) (fun hHeld => ?_)
    clear hK K
    (try simp only [Act.put, List.setIfInBounds_toArray, List.set_cons_zero, List.set_cons_succ])
    refine doH (i := 3) rfl (by kernel_rfl) (by rfl) (fun K hK => ?_)
    obtain ⟨v82, y82, hr, hO9, hg⟩ := append_g2 opOk hO oa n cap HLN.out (HOA.out y81 hE81) (by simp; omega) hE81.size
    have hE82 := hE81.grown hg hE81.size (fun j hj => (World.ownsRow.lt hO j hj).1)
    replace ka := ka.grown hg (ne_row (apartT hO ka (by decide)))
    replace kb := kb.grown hg (ne_row (apartT hO kb (by decide)))
    clear hO
    have hO := hO9
    clear hO9 hg
    rw [List.nil_append] at hO
    refine Lib.wp_append_run _ _ _ 22 22 rfl _ _ rfl rfl _ _ hr ?_
    clear hr
    refine hK.out _ _ (HKT.out _ hE82) (fun hHeld => ?_)
    clear hK K
    (try simp only [Act.put, List.setIfInBounds_toArray, List.set_cons_zero, List.set_cons_succ])
    refine doH (i := 5) rfl (by kernel_rfl) (by rfl) (fun K hK => ?_)
    obtain ⟨v83, y83, hr, hO9, hg⟩ := append_g2 opOk hO ob m cap' HLM.out (HOB.out y82 hE82) (by rw [HLN.out]; omega) hE82.size
    have hE83 := hE82.grown hg hE82.size (fun j hj => (World.ownsRow.lt hO j hj).1)
    replace ka := ka.grown hg (ne_row (apartT hO ka (by decide)))
    replace kb := kb.grown hg (ne_row (apartT hO kb (by decide)))
    clear hO
    have hO := hO9
    clear hO9 hg
    refine Lib.wp_append_run _ _ _ 22 22 rfl _ _ rfl rfl _ _ hr ?_
    clear hr
    obtain ⟨o5, c5, hv5, hR5, _⟩ := hO.form opOk
    rw [HNN.out] at hv5
    subst hv5
    refine hK.out _ _ (HKT.out _ hE83) (fun hHeld => ?_)
    clear hK K
    (try simp only [Act.put, List.setIfInBounds_toArray, List.set_cons_zero, List.set_cons_succ])
    refine doH (i := 6) rfl (by kernel_rfl) (by rfl) (fun K hK => ?_)
    go_simp
    go_at_call 10
    refine (HD2.out y83 o5 c5 hR5 h30 h20 HSM.out.1 HSM.out.2).mono ?_
    rintro e y84 ⟨cs2, ds2, rfl, hX, hXd, hyc⟩
    have hvy := hE83.size
    have va : ga < y83.heap.size := ka.lt
    have vb : gb < y83.heap.size := kb.lt
    have hE84 : Below w8.heap.size w8 y84 := hE83.trans (hyc.mono hE83.size)
    replace ka := ka.below hyc ka.lt
    replace kb := kb.below hyc kb.lt
    have hs1 := hX.size
    have hs2 := hXd.size
    have ho1 := hX.one
    have ho2 := hXd.one
    obtain ⟨yc, hycc⟩ : ∃ yc, y84 = yc := ⟨_, rfl⟩
    rw [hycc] at hX
    have hbc : Below yc.heap.size yc y84 := by rw [hycc]; exact Below.refl _ _
    have ua : ga < yc.heap.size := by rw [← hycc]; exact ka.lt
    have ub : gb < yc.heap.size := by rw [← hycc]; exact kb.lt
    clear hycc hXd hO hR5
    go_wp2_with fail
    refine hK.out _ _ (HKT.out _ hE84) (fun hHeld => ?_)
    clear hK K
    (try simp only [Act.put, List.setIfInBounds_toArray, List.set_cons_zero, List.set_cons_succ])
    iterate 4 (apply tkF [7, 8, 9, 10] rfl rfl (by kernel_rfl) (fun _ _ _ h => h) (by rfl); (case hy => (intro w hSw; (try dsimp only at hSw); go_simp; try with_reducible rfl)); (case hS => assumption); (try simp only [Act.put, List.setIfInBounds_toArray, List.set_cons_zero, List.set_cons_succ]))
    refine doH (i := 13) rfl (by kernel_rfl) (by rfl) (fun K hK => ?_)
    refine wp_store_row 40 _ _ rfl ga cs2 rfl rfl 40 zeroSt ka (iSt hs1) hs1.symm ho1 ?_
    have hF1 := row_below hE84 ga (by omega) cs2
    refine hK.out _ _ (HKT.out _ hF1) (fun hHeld => ?_)
    clear hK K
    (try simp only [Act.put])
    refine doH (i := 14) rfl (by kernel_rfl) (by rfl) (fun K hK => ?_)
    refine wp_store_row 43 _ _ rfl gb ds2 rfl rfl 43 zeroWd (Blk.setRow kb (by omega) cs2) (iWd hs2) hs2.symm ho2 ?_
    have hF2 := row_below hF1 gb (by omega) ds2
    refine hK.out _ _ (HKT.out _ hF2) (fun hHeld => ?_)
    clear hK K
    (try simp only [Act.put])
    (apply tkF [15] rfl rfl (by kernel_rfl) (fun _ _ _ h => h) (by rfl); (case hy => (intro w hSw; (try dsimp only at hSw); go_simp; try with_reducible rfl)); (case hS => assumption); (try simp only [Act.put, List.setIfInBounds_toArray, List.set_cons_zero, List.set_cons_succ]))
    refine wpAnyH_done (by kernel_rfl) ?_ _
    go_wp2_with fail
    go_meet
    obtain ⟨t1, t2⟩ := rise_tail (B := w8.heap.size) (gb := gb) (ds2 := ds2) hX hbc ka (by omega) (by omega) (fun q _ _ => by omega)
    exact ⟨ga, gb, cs2, 0, rfl, rfl, rfl, la, t1, t2, hF2, rfl⟩
    go_simp
    have kb : Blk (y0.alloc (.cells zeroWd 43)) y0.heap.size 43 zeroWd := Blk.new _ _ _
    have hyA := (Below.refl _ y0).alloc (Nat.le_refl _) (.cells zeroWd 43)
    have hE85 := hE0.trans (hyA.mono hE0.size)
    have lb : w8.heap.size ≤ y0.heap.size := hE0.size
    generalize y0.alloc (.cells zeroWd 43) = y85 at *
    generalize y0.heap.size = gb at *
    clear hyA
    refine hK.out _ _ (HKT.out _ hE85) (fun hHeld => ?_)
    clear hK K
    (try simp only [Act.put, List.setIfInBounds_toArray, List.set_cons_zero, List.set_cons_succ])
    refine doH2 (i := 1) (j := 11) rfl rfl (by kernel_rfl) (by rfl) (by rfl) (fun K hK => ?_) (fun K hK => ?_)
    go_simp
    have hO := ownG_lit opOk y85 w8.heap.size hE85.size
    have hyA := (Below.refl _ y85).alloc (Nat.le_refl _) (.cells #[] 63)
    have hE86 := hE85.trans (hyA.mono hE85.size)
    change OwnG _ (y85.alloc (.cells #[] 63)) _ _ _ at hO
    replace kb := kb.below hyA kb.lt
    generalize y85.alloc (.cells #[] 63) = y86 at *
    generalize y85.heap.size = b0 at *
    clear hyA
    refine hK.out _ _ (HKT.out _ hE86) (fun hHeld => ?_)
    clear hK K
    (try simp only [Act.put, List.setIfInBounds_toArray, List.set_cons_zero, List.set_cons_succ])
    refine doH2 (i := 3) (j := 11) rfl rfl (by kernel_rfl) (by rfl) (by rfl) (fun K hK => ?_) (fun K hK => ?_)
    obtain ⟨v87, y87, hr, hO9, hg⟩ := append_g2 opOk hO oa n cap HLN.out (HOA.out y86 hE86) (by simp; omega) hE86.size
    have hE87 := hE86.grown hg hE86.size (fun j hj => (World.ownsRow.lt hO j hj).1)
    replace kb := kb.grown hg (ne_row (apartT hO kb (by decide)))
    clear hO
    have hO := hO9
    clear hO9 hg
    rw [List.nil_append] at hO
    refine Lib.wp_append_run _ _ _ 22 22 rfl _ _ rfl rfl _ _ hr ?_
    clear hr
    refine hK.out _ _ (HKT.out _ hE87) (fun hHeld => ?_)
    clear hK K
    (try simp only [Act.put, List.setIfInBounds_toArray, List.set_cons_zero, List.set_cons_succ])
    refine doH2 (i := 5) (j := 11) rfl rfl (by kernel_rfl) (by rfl) (by rfl) (fun K hK => ?_) (fun K hK => ?_)
    obtain ⟨v88, y88, hr, hO9, hg⟩ := append_g2 opOk hO ob m cap' HLM.out (HOB.out y87 hE87) (by rw [HLN.out]; omega) hE87.size
    have hE88 := hE87.grown hg hE87.size (fun j hj => (World.ownsRow.lt hO j hj).1)
    replace kb := kb.grown hg (ne_row (apartT hO kb (by decide)))
    clear hO
    have hO := hO9
    clear hO9 hg
    refine Lib.wp_append_run _ _ _ 22 22 rfl _ _ rfl rfl _ _ hr ?_
    clear hr
    obtain ⟨o5, c5, hv5, hR5, _⟩ := hO.form opOk
    rw [HNN.out] at hv5
    subst hv5
    refine hK.out _ _ (HKT.out _ hE88) (fun hHeld => ?_)
    clear hK K
    (try simp only [Act.put, List.setIfInBounds_toArray, List.set_cons_zero, List.set_cons_succ])
    refine doH2 (i := 6) (j := 11) rfl rfl (by kernel_rfl) (by rfl) (by rfl) (fun K hK => ?_) (fun K hK => ?_)
    go_simp
    go_at_call 10
    refine (HD2.out y88 o5 c5 hR5 h30 h20 HSM.out.1 HSM.out.2).mono ?_
    rintro e y89 ⟨cs2, ds2, rfl, hX, hXd, hyc⟩
    have hvy := hE88.size
    have vb : gb < y88.heap.size := kb.lt
    have hE89 : Below w8.heap.size w8 y89 := hE88.trans (hyc.mono hE88.size)
    replace kb := kb.below hyc kb.lt
    have hs1 := hX.size
    have hs2 := hXd.size
    have ho1 := hX.one
    have ho2 := hXd.one
    obtain ⟨yc, hycc⟩ : ∃ yc, y89 = yc := ⟨_, rfl⟩
    rw [hycc] at hX
    have hbc : Below yc.heap.size yc y89 := by rw [hycc]; exact Below.refl _ _
    have ub : gb < yc.heap.size := by rw [← hycc]; exact kb.lt
    clear hycc hXd hO hR5
    go_wp2_with fail
    refine hK.out _ _ (HKT.out _ hE89) (fun hHeld => ?_)
    clear hK K
    (try simp only [Act.put, List.setIfInBounds_toArray, List.set_cons_zero, List.set_cons_succ])
    iterate 4 (apply tkF [7, 8, 9, 10] rfl rfl (by kernel_rfl) (fun _ _ _ h => h) (by rfl); (case hy => (intro w hSw; (try dsimp only at hSw); go_simp; try with_reducible rfl)); (case hS => assumption); (try simp only [Act.put, List.setIfInBounds_toArray, List.set_cons_zero, List.set_cons_succ]))
    refine doH (i := 11) rfl (by kernel_rfl) (by rfl) (fun K hK => ?_)
    go_simp
    have ka : Blk (y89.alloc (.cells zeroSt 40)) y89.heap.size 40 zeroSt := Blk.new _ _ _
    have hyA := (Below.refl _ y89).alloc (Nat.le_refl _) (.cells zeroSt 40)
    have hE90 := hE89.trans (hyA.mono hE89.size)
    have la : w8.heap.size ≤ y89.heap.size := hE89.size
    have dab : gb < y89.heap.size := kb.lt
    replace kb := kb.below hyA kb.lt
    have ua : yc.heap.size ≤ y89.heap.size := hbc.size
    replace hbc := hbc.trans (hyA.mono hbc.size)
    generalize y89.alloc (.cells zeroSt 40) = y90 at *
    generalize y89.heap.size = ga at *
    clear hyA
    refine hK.out _ _ (HKT.out _ hE90) (fun hHeld => ?_)
    clear hK K
    (try simp only [Act.put, List.setIfInBounds_toArray, List.set_cons_zero, List.set_cons_succ])
    refine doH (i := 13) rfl (by kernel_rfl) (by rfl) (fun K hK => ?_)
    refine wp_store_row 40 _ _ rfl ga cs2 rfl rfl 40 zeroSt ka (iSt hs1) hs1.symm ho1 ?_
    have hF1 := row_below hE90 ga (by omega) cs2
    refine hK.out _ _ (HKT.out _ hF1) (fun hHeld => ?_)
    clear hK K
    (try simp only [Act.put])
    refine doH (i := 14) rfl (by kernel_rfl) (by rfl) (fun K hK => ?_)
    refine wp_store_row 43 _ _ rfl gb ds2 rfl rfl 43 zeroWd (Blk.setRow kb (by omega) cs2) (iWd hs2) hs2.symm ho2 ?_
    have hF2 := row_below hF1 gb (by omega) ds2
    refine hK.out _ _ (HKT.out _ hF2) (fun hHeld => ?_)
    clear hK K
    (try simp only [Act.put])
    (apply tkF [15] rfl rfl (by kernel_rfl) (fun _ _ _ h => h) (by rfl); (case hy => (intro w hSw; (try dsimp only at hSw); go_simp; try with_reducible rfl)); (case hS => assumption); (try simp only [Act.put, List.setIfInBounds_toArray, List.set_cons_zero, List.set_cons_succ]))
    refine wpAnyH_done (by kernel_rfl) ?_ _
    go_wp2_with fail
    go_meet
    obtain ⟨t1, t2⟩ := rise_tail (B := w8.heap.size) (gb := gb) (ds2 := ds2) hX hbc ka (by omega) (by omega) (fun q _ _ => by omega)
    exact ⟨ga, gb, cs2, 0, rfl, rfl, rfl, la, t1, t2, hF2, rfl⟩
    go_simp
    have ka : Blk (y88.alloc (.cells zeroSt 40)) y88.heap.size 40 zeroSt := Blk.new _ _ _
    have hyA := (Below.refl _ y88).alloc (Nat.le_refl _) (.cells zeroSt 40)
    have hE91 := hE88.trans (hyA.mono hE88.size)
    have la : w8.heap.size ≤ y88.heap.size := hE88.size
    have dab : gb < y88.heap.size := kb.lt
    replace kb := kb.below hyA kb.lt
    replace hO := hO.below hyA
    replace hR5 := hR5.below hyA
    generalize y88.alloc (.cells zeroSt 40) = y91 at *
    generalize y88.heap.size = ga at *
    clear hyA
    refine hK.out _ _ (HKT.out _ hE91) (fun hHeld => ?_)
    clear hK K
    (try simp only [Act.put, List.setIfInBounds_toArray, List.set_cons_zero, List.set_cons_succ])
    refine doH (i := 6) rfl (by kernel_rfl) (by rfl) (fun K hK => ?_)
    go_simp
    go_at_call 10
    refine (HD2.out y91 o5 c5 hR5 h30 h20 HSM.out.1 HSM.out.2).mono ?_
    rintro e y92 ⟨cs2, ds2, rfl, hX, hXd, hyc⟩
    have hvy := hE91.size
    have vb : gb < y91.heap.size := kb.lt
    have va : ga < y91.heap.size := ka.lt
    have hE92 : Below w8.heap.size w8 y92 := hE91.trans (hyc.mono hE91.size)
    replace kb := kb.below hyc kb.lt
    replace ka := ka.below hyc ka.lt
    have hs1 := hX.size
    have hs2 := hXd.size
    have ho1 := hX.one
    have ho2 := hXd.one
    obtain ⟨yc, hycc⟩ : ∃ yc, y92 = yc := ⟨_, rfl⟩
    rw [hycc] at hX
    have hbc : Below yc.heap.size yc y92 := by rw [hycc]; exact Below.refl _ _
    have ub : gb < yc.heap.size := by rw [← hycc]; exact kb.lt
    have ua : ga < yc.heap.size := by rw [← hycc]; exact ka.lt
    clear hycc hXd hO hR5
    go_wp2_with fail
    refine hK.out _ _ (HKT.out _ hE92) (fun hHeld => ?_)
    clear hK K
    (try simp only [Act.put, List.setIfInBounds_toArray, List.set_cons_zero, List.set_cons_succ])
    iterate 4 (apply tkF [7, 8, 9, 10] rfl rfl (by kernel_rfl) (fun _ _ _ h => h) (by rfl); (case hy => (intro w hSw; (try dsimp only at hSw); go_simp; try with_reducible rfl)); (case hS => assumption); (try simp only [Act.put, List.setIfInBounds_toArray, List.set_cons_zero, List.set_cons_succ]))
    refine doH (i := 13) rfl (by kernel_rfl) (by rfl) (fun K hK => ?_)
    refine wp_store_row 40 _ _ rfl ga cs2 rfl rfl 40 zeroSt ka (iSt hs1) hs1.symm ho1 ?_
    have hF1 := row_below hE92 ga (by omega) cs2
    refine hK.out _ _ (HKT.out _ hF1) (fun hHeld => ?_)
    clear hK K
    (try simp only [Act.put])
    refine doH (i := 14) rfl (by kernel_rfl) (by rfl) (fun K hK => ?_)
    refine wp_store_row 43 _ _ rfl gb ds2 rfl rfl 43 zeroWd (Blk.setRow kb (by omega) cs2) (iWd hs2) hs2.symm ho2 ?_
    have hF2 := row_below hF1 gb (by omega) ds2
    refine hK.out _ _ (HKT.out _ hF2) (fun hHeld => ?_)
    clear hK K
    (try simp only [Act.put])
    (apply tkF [15] rfl rfl (by kernel_rfl) (fun _ _ _ h => h) (by rfl); (case hy => (intro w hSw; (try dsimp only at hSw); go_simp; try with_reducible rfl)); (case hS => assumption); (try simp only [Act.put, List.setIfInBounds_toArray, List.set_cons_zero, List.set_cons_succ]))
    refine wpAnyH_done (by kernel_rfl) ?_ _
    go_wp2_with fail
    go_meet
    obtain ⟨t1, t2⟩ := rise_tail (B := w8.heap.size) (gb := gb) (ds2 := ds2) hX hbc ka (by omega) (by omega) (fun q _ _ => by omega)
    exact ⟨ga, gb, cs2, 0, rfl, rfl, rfl, la, t1, t2, hF2, rfl⟩
    go_simp
    have ka : Blk (y87.alloc (.cells zeroSt 40)) y87.heap.size 40 zeroSt := Blk.new _ _ _
    have hyA := (Below.refl _ y87).alloc (Nat.le_refl _) (.cells zeroSt 40)
    have hE93 := hE87.trans (hyA.mono hE87.size)
    have la : w8.heap.size ≤ y87.heap.size := hE87.size
    have dab : gb < y87.heap.size := kb.lt
    replace kb := kb.below hyA kb.lt
    replace hO := hO.below hyA
    generalize y87.alloc (.cells zeroSt 40) = y93 at *
    generalize y87.heap.size = ga at *
    clear hyA
    refine hK.out _ _ (HKT.out _ hE93) (fun hHeld => ?_)
    clear hK K
    (try simp only [Act.put, List.setIfInBounds_toArray, List.set_cons_zero, List.set_cons_succ])
    refine doH (i := 5) rfl (by kernel_rfl) (by rfl) (fun K hK => ?_)
    obtain ⟨v94, y94, hr, hO9, hg⟩ := append_g2 opOk hO ob m cap' HLM.out (HOB.out y93 hE93) (by rw [HLN.out]; omega) hE93.size
    have hE94 := hE93.grown hg hE93.size (fun j hj => (World.ownsRow.lt hO j hj).1)
    replace kb := kb.grown hg (ne_row (apartT hO kb (by decide)))
    replace ka := ka.grown hg (ne_row (apartT hO ka (by decide)))
    clear hO
    have hO := hO9
    clear hO9 hg
    refine Lib.wp_append_run _ _ _ 22 22 rfl _ _ rfl rfl _ _ hr ?_
    clear hr
    obtain ⟨o5, c5, hv5, hR5, _⟩ := hO.form opOk
    rw [HNN.out] at hv5
    subst hv5
    refine hK.out _ _ (HKT.out _ hE94) (fun hHeld => ?_)
    clear hK K
    (try simp only [Act.put, List.setIfInBounds_toArray, List.set_cons_zero, List.set_cons_succ])
    refine doH (i := 6) rfl (by kernel_rfl) (by rfl) (fun K hK => ?_)
    go_simp
    go_at_call 10
    refine (HD2.out y94 o5 c5 hR5 h30 h20 HSM.out.1 HSM.out.2).mono ?_
    rintro e y95 ⟨cs2, ds2, rfl, hX, hXd, hyc⟩
    have hvy := hE94.size
    have vb : gb < y94.heap.size := kb.lt
    have va : ga < y94.heap.size := ka.lt
    have hE95 : Below w8.heap.size w8 y95 := hE94.trans (hyc.mono hE94.size)
    replace kb := kb.below hyc kb.lt
    replace ka := ka.below hyc ka.lt
    have hs1 := hX.size
    have hs2 := hXd.size
    have ho1 := hX.one
    have ho2 := hXd.one
    obtain ⟨yc, hycc⟩ : ∃ yc, y95 = yc := ⟨_, rfl⟩
    rw [hycc] at hX
    have hbc : Below yc.heap.size yc y95 := by rw [hycc]; exact Below.refl _ _
    have ub : gb < yc.heap.size := by rw [← hycc]; exact kb.lt
    have ua : ga < yc.heap.size := by rw [← hycc]; exact ka.lt
    clear hycc hXd hO hR5
    go_wp2_with fail
    refine hK.out _ _ (HKT.out _ hE95) (fun hHeld => ?_)
    clear hK K
    (try simp only [Act.put, List.setIfInBounds_toArray, List.set_cons_zero, List.set_cons_succ])
    iterate 4 (apply tkF [7, 8, 9, 10] rfl rfl (by kernel_rfl) (fun _ _ _ h => h) (by rfl); (case hy => (intro w hSw; (try dsimp only at hSw); go_simp; try with_reducible rfl)); (case hS => assumption); (try simp only [Act.put, List.setIfInBounds_toArray, List.set_cons_zero, List.set_cons_succ]))
    refine doH (i := 13) rfl (by kernel_rfl) (by rfl) (fun K hK => ?_)
    refine wp_store_row 40 _ _ rfl ga cs2 rfl rfl 40 zeroSt ka (iSt hs1) hs1.symm ho1 ?_
    have hF1 := row_below hE95 ga (by omega) cs2
    refine hK.out _ _ (HKT.out _ hF1) (fun hHeld => ?_)
    clear hK K
    (try simp only [Act.put])
    refine doH (i := 14) rfl (by kernel_rfl) (by rfl) (fun K hK => ?_)
    refine wp_store_row 43 _ _ rfl gb ds2 rfl rfl 43 zeroWd (Blk.setRow kb (by omega) cs2) (iWd hs2) hs2.symm ho2 ?_
    have hF2 := row_below hF1 gb (by omega) ds2
    refine hK.out _ _ (HKT.out _ hF2) (fun hHeld => ?_)
    clear hK K
    (try simp only [Act.put])
    (apply tkF [15] rfl rfl (by kernel_rfl) (fun _ _ _ h => h) (by rfl); (case hy => (intro w hSw; (try dsimp only at hSw); go_simp; try with_reducible rfl)); (case hS => assumption); (try simp only [Act.put, List.setIfInBounds_toArray, List.set_cons_zero, List.set_cons_succ]))
    refine wpAnyH_done (by kernel_rfl) ?_ _
    go_wp2_with fail
    go_meet
    obtain ⟨t1, t2⟩ := rise_tail (B := w8.heap.size) (gb := gb) (ds2 := ds2) hX hbc ka (by omega) (by omega) (fun q _ _ => by omega)
    exact ⟨ga, gb, cs2, 0, rfl, rfl, rfl, la, t1, t2, hF2, rfl⟩
    go_simp
    have ka : Blk (y86.alloc (.cells zeroSt 40)) y86.heap.size 40 zeroSt := Blk.new _ _ _
    have hyA := (Below.refl _ y86).alloc (Nat.le_refl _) (.cells zeroSt 40)
    have hE96 := hE86.trans (hyA.mono hE86.size)
    have la : w8.heap.size ≤ y86.heap.size := hE86.size
    have dab : gb < y86.heap.size := kb.lt
    replace kb := kb.below hyA kb.lt
    replace hO := hO.below hyA
    generalize y86.alloc (.cells zeroSt 40) = y96 at *
    generalize y86.heap.size = ga at *
    clear hyA
    refine hK.out _ _ (HKT.out _ hE96) (fun hHeld => ?_)
    clear hK K
    (try simp only [Act.put, List.setIfInBounds_toArray, List.set_cons_zero, List.set_cons_succ])
    refine doH (i := 3) rfl (by kernel_rfl) (by rfl) (fun K hK => ?_)
    obtain ⟨v97, y97, hr, hO9, hg⟩ := append_g2 opOk hO oa n cap HLN.out (HOA.out y96 hE96) (by simp; omega) hE96.size
    have hE97 := hE96.grown hg hE96.size (fun j hj => (World.ownsRow.lt hO j hj).1)
    replace kb := kb.grown hg (ne_row (apartT hO kb (by decide)))
    replace ka := ka.grown hg (ne_row (apartT hO ka (by decide)))
    clear hO
    have hO := hO9
    clear hO9 hg
    rw [List.nil_append] at hO
    refine Lib.wp_append_run _ _ _ 22 22 rfl _ _ rfl rfl _ _ hr ?_
    clear hr
    refine hK.out _ _ (HKT.out _ hE97) (fun hHeld => ?_)
    clear hK K
    (try simp only [Act.put, List.setIfInBounds_toArray, List.set_cons_zero, List.set_cons_succ])
    refine doH (i := 5) rfl (by kernel_rfl) (by rfl) (fun K hK => ?_)
    obtain ⟨v98, y98, hr, hO9, hg⟩ := append_g2 opOk hO ob m cap' HLM.out (HOB.out y97 hE97) (by rw [HLN.out]; omega) hE97.size
    have hE98 := hE97.grown hg hE97.size (fun j hj => (World.ownsRow.lt hO j hj).1)
    replace kb := kb.grown hg (ne_row (apartT hO kb (by decide)))
    replace ka := ka.grown hg (ne_row (apartT hO ka (by decide)))
    clear hO
    have hO := hO9
    clear hO9 hg
    refine Lib.wp_append_run _ _ _ 22 22 rfl _ _ rfl rfl _ _ hr ?_
    clear hr
    obtain ⟨o5, c5, hv5, hR5, _⟩ := hO.form opOk
    rw [HNN.out] at hv5
    subst hv5
    refine hK.out _ _ (HKT.out _ hE98) (fun hHeld => ?_)
    clear hK K
    (try simp only [Act.put, List.setIfInBounds_toArray, List.set_cons_zero, List.set_cons_succ])
    refine doH (i := 6) rfl (by kernel_rfl) (by rfl) (fun K hK => ?_)
    go_simp
    go_at_call 10
    refine (HD2.out y98 o5 c5 hR5 h30 h20 HSM.out.1 HSM.out.2).mono ?_
    rintro e y99 ⟨cs2, ds2, rfl, hX, hXd, hyc⟩
    have hvy := hE98.size
    have vb : gb < y98.heap.size := kb.lt
    have va : ga < y98.heap.size := ka.lt
    have hE99 : Below w8.heap.size w8 y99 := hE98.trans (hyc.mono hE98.size)
    replace kb := kb.below hyc kb.lt
    replace ka := ka.below hyc ka.lt
    have hs1 := hX.size
    have hs2 := hXd.size
    have ho1 := hX.one
    have ho2 := hXd.one
    obtain ⟨yc, hycc⟩ : ∃ yc, y99 = yc := ⟨_, rfl⟩
    rw [hycc] at hX
    have hbc : Below yc.heap.size yc y99 := by rw [hycc]; exact Below.refl _ _
    have ub : gb < yc.heap.size := by rw [← hycc]; exact kb.lt
    have ua : ga < yc.heap.size := by rw [← hycc]; exact ka.lt
    clear hycc hXd hO hR5
    go_wp2_with fail
    refine hK.out _ _ (HKT.out _ hE99) (fun hHeld => ?_)
    clear hK K
    (try simp only [Act.put, List.setIfInBounds_toArray, List.set_cons_zero, List.set_cons_succ])
    iterate 4 (apply tkF [7, 8, 9, 10] rfl rfl (by kernel_rfl) (fun _ _ _ h => h) (by rfl); (case hy => (intro w hSw; (try dsimp only at hSw); go_simp; try with_reducible rfl)); (case hS => assumption); (try simp only [Act.put, List.setIfInBounds_toArray, List.set_cons_zero, List.set_cons_succ]))
    refine doH (i := 13) rfl (by kernel_rfl) (by rfl) (fun K hK => ?_)
    refine wp_store_row 40 _ _ rfl ga cs2 rfl rfl 40 zeroSt ka (iSt hs1) hs1.symm ho1 ?_
    have hF1 := row_below hE99 ga (by omega) cs2
    refine hK.out _ _ (HKT.out _ hF1) (fun hHeld => ?_)
    clear hK K
    (try simp only [Act.put])
    refine doH (i := 14) rfl (by kernel_rfl) (by rfl) (fun K hK => ?_)
    refine wp_store_row 43 _ _ rfl gb ds2 rfl rfl 43 zeroWd (Blk.setRow kb (by omega) cs2) (iWd hs2) hs2.symm ho2 ?_
    have hF2 := row_below hF1 gb (by omega) ds2
    refine hK.out _ _ (HKT.out _ hF2) (fun hHeld => ?_)
    clear hK K
    (try simp only [Act.put])
    (apply tkF [15] rfl rfl (by kernel_rfl) (fun _ _ _ h => h) (by rfl); (case hy => (intro w hSw; (try dsimp only at hSw); go_simp; try with_reducible rfl)); (case hS => assumption); (try simp only [Act.put, List.setIfInBounds_toArray, List.set_cons_zero, List.set_cons_succ]))
    refine wpAnyH_done (by kernel_rfl) ?_ _
    go_wp2_with fail
    go_meet
    obtain ⟨t1, t2⟩ := rise_tail (B := w8.heap.size) (gb := gb) (ds2 := ds2) hX hbc ka (by omega) (by omega) (fun q _ _ => by omega)
    exact ⟨ga, gb, cs2, 0, rfl, rfl, rfl, la, t1, t2, hF2, rfl⟩
    go_simp
    have ka : Blk (y85.alloc (.cells zeroSt 40)) y85.heap.size 40 zeroSt := Blk.new _ _ _
    have hyA := (Below.refl _ y85).alloc (Nat.le_refl _) (.cells zeroSt 40)
    have hE100 := hE85.trans (hyA.mono hE85.size)
    have la : w8.heap.size ≤ y85.heap.size := hE85.size
    have dab : gb < y85.heap.size := kb.lt
    replace kb := kb.below hyA kb.lt
    generalize y85.alloc (.cells zeroSt 40) = y100 at *
    generalize y85.heap.size = ga at *
    clear hyA
    refine hK.out _ _ (HKT.out _ hE100) (fun hHeld => ?_)
    clear hK K
    (try simp only [Act.put, List.setIfInBounds_toArray, List.set_cons_zero, List.set_cons_succ])
    refine doH (i := 1) rfl (by kernel_rfl) (by rfl) (fun K hK => ?_)
    go_simp
    have hO := ownG_lit opOk y100 w8.heap.size hE100.size
    have hyA := (Below.refl _ y100).alloc (Nat.le_refl _) (.cells #[] 63)
    have hE101 := hE100.trans (hyA.mono hE100.size)
    change OwnG _ (y100.alloc (.cells #[] 63)) _ _ _ at hO
    replace kb := kb.below hyA kb.lt
    replace ka := ka.below hyA ka.lt
    generalize y100.alloc (.cells #[] 63) = y101 at *
    generalize y100.heap.size = b0 at *
    clear hyA
    refine hK.out _ _ (HKT.out _ hE101) (fun hHeld => ?_)
    clear hK K
    (try simp only [Act.put, List.setIfInBounds_toArray, List.set_cons_zero, List.set_cons_succ])
    refine doH (i := 3) rfl (by kernel_rfl) (by rfl) (fun K hK => ?_)
    obtain ⟨v102, y102, hr, hO9, hg⟩ := append_g2 opOk hO oa n cap HLN.out (HOA.out y101 hE101) (by simp; omega) hE101.size
    have hE102 := hE101.grown hg hE101.size (fun j hj => (World.ownsRow.lt hO j hj).1)
    replace kb := kb.grown hg (ne_row (apartT hO kb (by decide)))
    replace ka := ka.grown hg (ne_row (apartT hO ka (by decide)))
    clear hO
    have hO := hO9
    clear hO9 hg
    rw [List.nil_append] at hO
    refine Lib.wp_append_run _ _ _ 22 22 rfl _ _ rfl rfl _ _ hr ?_
    clear hr
    refine hK.out _ _ (HKT.out _ hE102) (fun hHeld => ?_)
    clear hK K
    (try simp only [Act.put, List.setIfInBounds_toArray, List.set_cons_zero, List.set_cons_succ])
    refine doH (i := 5) rfl (by kernel_rfl) (by rfl) (fun K hK => ?_)
    obtain ⟨v103, y103, hr, hO9, hg⟩ := append_g2 opOk hO ob m cap' HLM.out (HOB.out y102 hE102) (by rw [HLN.out]; omega) hE102.size
    have hE103 := hE102.grown hg hE102.size (fun j hj => (World.ownsRow.lt hO j hj).1)
    replace kb := kb.grown hg (ne_row (apartT hO kb (by decide)))
    replace ka := ka.grown hg (ne_row (apartT hO ka (by decide)))
    clear hO
    have hO := hO9
    clear hO9 hg
    refine Lib.wp_append_run _ _ _ 22 22 rfl _ _ rfl rfl _ _ hr ?_
    clear hr
    obtain ⟨o5, c5, hv5, hR5, _⟩ := hO.form opOk
    rw [HNN.out] at hv5
    subst hv5
    refine hK.out _ _ (HKT.out _ hE103) (fun hHeld => ?_)
    clear hK K
    (try simp only [Act.put, List.setIfInBounds_toArray, List.set_cons_zero, List.set_cons_succ])
    refine doH (i := 6) rfl (by kernel_rfl) (by rfl) (fun K hK => ?_)
    go_simp
    go_at_call 10
    refine (HD2.out y103 o5 c5 hR5 h30 h20 HSM.out.1 HSM.out.2).mono ?_
    rintro e y104 ⟨cs2, ds2, rfl, hX, hXd, hyc⟩
    have hvy := hE103.size
    have vb : gb < y103.heap.size := kb.lt
    have va : ga < y103.heap.size := ka.lt
    have hE104 : Below w8.heap.size w8 y104 := hE103.trans (hyc.mono hE103.size)
    replace kb := kb.below hyc kb.lt
    replace ka := ka.below hyc ka.lt
    have hs1 := hX.size
    have hs2 := hXd.size
    have ho1 := hX.one
    have ho2 := hXd.one
    obtain ⟨yc, hycc⟩ : ∃ yc, y104 = yc := ⟨_, rfl⟩
    rw [hycc] at hX
    have hbc : Below yc.heap.size yc y104 := by rw [hycc]; exact Below.refl _ _
    have ub : gb < yc.heap.size := by rw [← hycc]; exact kb.lt
    have ua : ga < yc.heap.size := by rw [← hycc]; exact ka.lt
    clear hycc hXd hO hR5
    go_wp2_with fail
    refine hK.out _ _ (HKT.out _ hE104) (fun hHeld => ?_)
    clear hK K
    (try simp only [Act.put, List.setIfInBounds_toArray, List.set_cons_zero, List.set_cons_succ])
    iterate 4 (apply tkF [7, 8, 9, 10] rfl rfl (by kernel_rfl) (fun _ _ _ h => h) (by rfl); (case hy => (intro w hSw; (try dsimp only at hSw); go_simp; try with_reducible rfl)); (case hS => assumption); (try simp only [Act.put, List.setIfInBounds_toArray, List.set_cons_zero, List.set_cons_succ]))
    refine doH (i := 13) rfl (by kernel_rfl) (by rfl) (fun K hK => ?_)
    refine wp_store_row 40 _ _ rfl ga cs2 rfl rfl 40 zeroSt ka (iSt hs1) hs1.symm ho1 ?_
    have hF1 := row_below hE104 ga (by omega) cs2
    refine hK.out _ _ (HKT.out _ hF1) (fun hHeld => ?_)
    clear hK K
    (try simp only [Act.put])
    refine doH (i := 14) rfl (by kernel_rfl) (by rfl) (fun K hK => ?_)
    refine wp_store_row 43 _ _ rfl gb ds2 rfl rfl 43 zeroWd (Blk.setRow kb (by omega) cs2) (iWd hs2) hs2.symm ho2 ?_
    have hF2 := row_below hF1 gb (by omega) ds2
    refine hK.out _ _ (HKT.out _ hF2) (fun hHeld => ?_)
    clear hK K
    (try simp only [Act.put])
    (apply tkF [15] rfl rfl (by kernel_rfl) (fun _ _ _ h => h) (by rfl); (case hy => (intro w hSw; (try dsimp only at hSw); go_simp; try with_reducible rfl)); (case hS => assumption); (try simp only [Act.put, List.setIfInBounds_toArray, List.set_cons_zero, List.set_cons_succ]))
    refine wpAnyH_done (by kernel_rfl) ?_ _
    go_wp2_with fail
    go_meet
    obtain ⟨t1, t2⟩ := rise_tail (B := w8.heap.size) (gb := gb) (ds2 := ds2) hX hbc ka (by omega) (by omega) (fun q _ _ => by omega)
    exact ⟨ga, gb, cs2, 0, rfl, rfl, rfl, la, t1, t2, hF2, rfl⟩
   case rest =>
    obtain ⟨ga, _, cs2, _, rfl, rfl, rfl, lga, ka, hS2, hb11, _⟩ := hcut
    generalize wc = w9 at *
    replace ks := ks.below hb11 ks.lt
    have hS9 := hS8.below hb11
    have hb12 := hb10.trans (hb11.mono hb10.size)
    have lT := HKT.out w9 hb11
    have hka : (cs2 : Array Value).size = 22 := hS2.size
    have HLD : Hid (∀ X, Below w9.heap.size w9 X → (loadVar 29 ⟨gt, 0, none⟩).run Tryz.prog X = .ok (.agg tabV) X ∧ (loadVar 40 ⟨gs, 0, none⟩).run Tryz.prog X = .ok (.agg cs) X ∧ (loadVar 40 ⟨ga, 0, none⟩).run Tryz.prog X = .ok (.agg cs2) X ∧ (loadVar 49 ⟨w.heap.size, 0, none⟩).run Tryz.prog X = .ok (.agg #[.int .i64 k, .int .i64 a, .int .i64 b, .string key]) X) := Lib.hid fun X hX => ⟨HKT.out X (hb11.trans (hX.mono hb11.size)), st_load HSZ.out (ks.below hX ks.lt), st_load hka (ka.below hX ka.lt), (HQL.out X (hb12.trans (hX.mono hb12.size))).1⟩
    have HA1 : Hid (∀ X, Below w9.heap.size w9 X → Calls Tryz.prog 11 #[.agg tabV, .agg cs, .agg #[.int .i64 k, .int .i64 a, .int .i64 b, .string key]] X fun e w' => (∃ s n, e = .returned (.tuple #[.string s, .int .i64 n]) ∧ Ans P1.tk P1.hd ⟨k, a, b, key⟩ s n) ∧ Below X.heap.size X w') := Lib.hid fun X hX => answer_any _ cs P1 HI1.out ⟨k, a, b, key⟩ hqa hqb (by show key.size ≤ _; omega) X (hS9.below hX)
    have HA2 : Hid (∀ X, Below w9.heap.size w9 X → Calls Tryz.prog 11 #[.agg tabV, .agg cs2, .agg #[.int .i64 k, .int .i64 a, .int .i64 b, .string key]] X fun e w' => (∃ s n, e = .returned (.tuple #[.string s, .int .i64 n]) ∧ Ans P2.tk P2.hd ⟨k, a, b, key⟩ s n) ∧ Below X.heap.size X w') := Lib.hid fun X hX => answer_any _ cs2 P2 HI2.out ⟨k, a, b, key⟩ hqa hqb (by show key.size ≤ _; omega) X (hS2.below hX)
    have HST : Hid (∀ s s' e', Ans P1.tk P1.hd ⟨k, a, b, key⟩ s 0 → Ans P2.tk P2.hd ⟨k, a, b, key⟩ s' e' → e' = 0 ∧ s = s') := Lib.hid fun s s' e' h h' => by
     obtain ⟨⟨ta, h1⟩, hx, h2⟩ := HPF.out
     rw [h1, h2] at h'
     exact ans_stays HI1.out h h'
    have HTD : Hid (∀ s e, Ans P1.tk P1.hd ⟨k, a, b, key⟩ s e → e = 0 ∨ e = 5 ∨ e = 1) := Lib.hid fun s e h => by
     rcases (ans_told h).2.2 with h1 | ⟨_, h1⟩
     · exact .inl h1.1
     · exact .inr h1
    generalize Ans P1.tk P1.hd ⟨k, a, b, key⟩ = PA at *
    generalize Ans P2.tk P2.hd ⟨k, a, b, key⟩ = PB at *
    obtain ⟨l0, l1, l2, l3⟩ := HLD.out w9 (Below.refl _ _)
    clear ks ka hS8 hS9 hS2 hb11 hb10 kT HKT HOA HOB HLN HLM HNN HD2 HD1 HPF HI1 HI2 HSZ hka HQL HSM HF1 HF2 HAW HMK
    go_wp2_with fail
    refine (HA1.out w9 (Below.refl _ _)).mono ?_
    rintro e w10 ⟨⟨s, x, rfl, hA⟩, hb13⟩
    obtain ⟨m0, m1, m2, m3⟩ := HLD.out w10 hb13
    clear l0 l1 l2 l3
    go_wp2_with fail
    refine (HA2.out w10 hb13).mono ?_
    rintro e w11 ⟨⟨s', x', rfl, hA'⟩, hb14⟩
    have hB13 := hb12.trans (hb13.mono hb12.size)
    have hB14 := hB13.trans (hb14.mono hB13.size)
    have hBz := HB0.out.trans (hB14.mono HB0.out.size)
    have hcase := HTD.out s x hA
    have HSS := Lib.hid (HST.out s s' x')
    clear m0 m1 m2 m3 HLD HA1 HA2 HST HTD
    rcases hcase with rfl | rfl | rfl
    · obtain ⟨rfl, rfl⟩ := HSS.out hA hA'
      have hee : (s.toList == s.toList) = true := beq_self_eq_true _
      clear HSS hA hA'
      go_wp2_with fail
      go_ret
      exact ⟨rfl, hBz⟩
    · clear HSS hA hA'
      go_wp2_with fail
      go_ret
      exact ⟨rfl, hBz⟩
    · clear HSS hA hA'
      go_wp2_with fail
      go_ret
      exact ⟨rfl, hBz⟩
end
end Go.Proofs.YtakgolbgeeoioaaGreat

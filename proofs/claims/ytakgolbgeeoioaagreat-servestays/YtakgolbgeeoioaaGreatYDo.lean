/-
 Do: calls on a state and a world, side by side.
-/
import Derived.Test.YtakgolbgeeoioaaGreatYDoRYCloneYCopiedSRootE
import Derived.Test.YtakgolbgeeoioaaGreatYCutP
import Derived.Test.YtakgolbgeeoioaaGreatYApply
import Derived.Test.YtakgolbgeeoioaaGreatOpensGOpOps
import Derived.Deep.CutRange
import Derived.Test.YtakgolbgeeoioaaGreatMRefRtHStepQ
namespace Go.Proofs.YtakgolbgeeoioaaGreat
open Go.RowKit

theorem bool_load {w : World} {p : Addr} {b : Bool} (h : w.cell? p = some (.bool b)) : (loadVar 4 p).run Tryz.prog w = .ok (.bool b) w := by
 go_simp
set_option maxRecDepth 100000 in
/-- a call's request, whole -/
theorem RowG.rangeReq {w : World} {oa : Option Addr} {xs : List OpR} (h : RowG opK w oa xs) {g o : Nat} (hoa : oa = some ⟨g, o, none⟩) {i : Nat} (hi : i < xs.length) : ∀ W, Below w.heap.size w W → (loadVar 61 ⟨g, o + i * 7, none⟩).run Tryz.prog W = .ok (.agg #[.int .i64 xs[i].r.c, .int .i64 xs[i].r.q, .string xs[i].r.l, .string xs[i].r.k, .string xs[i].r.v]) W := by
 intro W hW
 obtain ⟨g', o', e, hg, h3⟩ := h i xs[i] (List.getElem?_eq_getElem hi)
 rw [hoa] at e
 injection e with e
 injection e with e1 e2
 subst e1 e2
 refine run_loadVar_mid (P := Tryz.prog) W g (o + i * 7) 61 [.int .i64 xs[i].r.c, .int .i64 xs[i].r.q, .string xs[i].r.l, .string xs[i].r.k, .string xs[i].r.v] _ (fun j v hv => ?_) Tryz.underlying61 rfl (by kernel_rfl)
 rw [hW.cell (p := ⟨g, o + i * 7 + j, none⟩) hg, Nat.add_assoc]
 refine h3 j v ?_
 have hj : j < 5 := (List.getElem?_eq_some_iff.1 hv).1
 rw [← hv]
 rcases (by omega : j = 0 ∨ j = 1 ∨ j = 2 ∨ j = 3 ∨ j = 4) with rfl | rfl | rfl | rfl | rfl <;> rfl
section
attribute [-go_sem] loadVar
set_option maxRecDepth 100000 in
set_option maxHeartbeats 4000000 in
theorem do_any (oa : Option Addr) (n cap : Nat) (os : List OpR) (hl : os.length = n) (hn : n ≤ 1000) (hs : ∀ x ∈ os, smallB x.r = true) (hb : ∀ x ∈ os, BndO x) (w : World) (hr : RowG opK w oa os) :
 Calls Tryz.prog 10 #[.agg tabV, .slice oa n cap] w (RDo os w) := by
 have HRD := Lib.hid (show ∀ e w', RDo os w e w' = ∃ cs ds, e = .returned (.tuple #[.agg cs, .agg ds, .bool true]) ∧ StC w' (geP w.heap.size) cs (playW os) ∧ WdC w' (geP w.heap.size) ds (playW os) ∧ Below w.heap.size w w' from fun _ _ => rfl)
 have HE := Lib.hid (fun W => rempty_any W)
 have HAp := Lib.hid applyC
 have HCu := Lib.hid cutC
 have HRa := Lib.hid raskC
 have HRc0 := rcutC
 unfold RCutC at HRc0
 have HRc := Lib.hid HRc0
 clear HRc0
 have HS := Lib.hid hs
 have HBn := Lib.hid hb
 have HL := Lib.hid hl
 have HR := Lib.hid hr
 clear hs hb hl hr
 have HZ9 := Lib.hid (And.intro zeroS zeroW)
 obtain ⟨z1, z2⟩ := HZ9.out
 obtain ⟨w0, hw0⟩ : ∃ w0, ((((w.alloc (.cells tabV 29)).alloc (.cells zeroSt 40)).alloc (.cells zeroWd 43)).alloc (.cells zeroSt 40)).alloc (.cells zeroWd 43) = w0 := ⟨_, rfl⟩
 have hsz0 : w0.heap.size = w.heap.size + 5 := by rw [← hw0]; simp
 have kT : Blk w0 w.heap.size 29 tabV := by rw [← hw0]; exact ((((Blk.new _ _ _).alloc _).alloc _).alloc _).alloc _
 have k4 : Blk w0 (w.heap.size + 1) 40 zeroSt := by rw [← hw0]; exact (((Blk.new_at (by simp)).alloc _).alloc _).alloc _
 have k5 : Blk w0 (w.heap.size + 1 + 1) 43 zeroWd := by rw [← hw0]; exact ((Blk.new_at (by simp)).alloc _).alloc _
 have k7 : Blk w0 (w.heap.size + 1 + 1 + 1) 40 zeroSt := by rw [← hw0]; exact (Blk.new_at (by simp)).alloc _
 have k8 : Blk w0 (w.heap.size + 1 + 1 + 1 + 1) 43 zeroWd := by rw [← hw0]; exact Blk.new_at (by simp)
 have hb0 : Below w.heap.size w w0 := by rw [← hw0]; exact ((((((Below.refl _ w).alloc (Nat.le_refl _) _).alloc (by simp) _).alloc (by simp <;> omega) _).alloc (by simp <;> omega) _).alloc (by simp <;> omega) _)
 have HW0 := Lib.hid hw0
 clear hw0
 have hZE : Tryz.zeroCells55 = emC fun _ => ⟨#[]⟩ := by kernel_rfl
 have HZE := Lib.hid hZE
 clear hZE
 have HI := Lib.hid (show (Tryz.prog.info? 55).map (·.size) = some (emC emp).size by rw [emC_size]; exact infoEm)
 have HZ1 := Lib.hid (show (emC fun _ => (⟨#[]⟩ : ByteArray)).size = (emC emp).size by rw [emC_size, emC_size])
 have HO1 := Lib.hid (emC_one emp)
 generalize emC emp = EE at *
 generalize RDo os w = PO at *
 go_enter Tryz.func10, Tryz.ntmps10
 go_wp2_with (rw [HW0.out])
 refine (HE.out _).mono ?_
 rintro e w1 ⟨rfl, hB1⟩
 go_wp2_with (first
  | (rw [HZE.out])
  | (refine wpList_store_row rfl 55 _ _ rfl w1.heap.size EE rfl rfl 55 (emC fun _ => ⟨#[]⟩) (Blk.new _ _ _) HI.out HZ1.out HO1.out ?_; rw [World.setRow_alloc_new]))
 have hb1 := hb0.trans (hB1.mono (by omega))
 have hb2 := hb1.alloc hb1.size (.cells EE 55)
 have kT := (kT.below hB1 kT.lt).alloc (.cells EE 55)
 have k4 := (k4.below hB1 k4.lt).alloc (.cells EE 55)
 have k5 := (k5.below hB1 k5.lt).alloc (.cells EE 55)
 have k7 := (k7.below hB1 k7.lt).alloc (.cells EE 55)
 have k8 := (k8.below hB1 k8.lt).alloc (.cells EE 55)
 have kE : Blk (w1.alloc (.cells EE 55)) w1.heap.size 55 EE := Blk.new _ _ _
 have hge : w.heap.size + 5 ≤ w1.heap.size := by have := hB1.size; omega
 generalize w1.alloc (.cells EE 55) = w2 at *
 generalize w1.heap.size = ge at *
 clear hB1 hb1 hb0 HW0 hsz0 z1 z2 HE
 have hge : w.heap.size + 1 + 1 + 1 + 1 < ge := by omega
 generalize hq8 : w.heap.size + 1 + 1 + 1 + 1 = g8 at *
 generalize hq7 : w.heap.size + 1 + 1 + 1 = g7 at *
 generalize hq5 : w.heap.size + 1 + 1 = g5 at *
 generalize hq4 : w.heap.size + 1 = g4 at *
 have hne : w.heap.size < g4 ∧ g4 < g5 ∧ g5 < g7 ∧ g7 < g8 ∧ g8 < ge := by omega
 clear hq4 hq5 hq7 hq8 hge
 go_loopw [10] (fun i wr => ∃ k : Nat, k ≤ n ∧ i = .int .i64 k ∧ Below w.heap.size w wr ∧ Blk wr w.heap.size 29 tabV ∧ Blk wr ge 55 EE ∧ Blk wr g4 40 zeroSt ∧ Blk wr g5 43 zeroWd ∧
  ∃ cs ds, Blk wr g7 40 cs ∧ Blk wr g8 43 ds ∧ StC wr (fun q => ge < q) cs (playW (os.take k)) ∧ WdC wr (fun q => ge < q) ds (playW (os.take k))) (fun i _ => n - (intOf i).toNat)
 case atStart => exact ⟨0, by omega, rfl, hb2, kT, kE, k4, k5, _, _, k7, k8, zeroSt_at _ _, zeroWd_at _ _⟩
 case round =>
  obtain ⟨k, hk, rfl, hB, hT, hE9, h4, h5, cs, ds, h7, h8, hS, hD⟩ := hrel
  have hl7 := st_load hS.size (Blk.drew h7)
  have hl8 := wd_load hD.size (Blk.drew h8)
  by_cases hlt : k < n
  · obtain ⟨X, hXk⟩ : ∃ X, os[k]'(by have := HL.out; omega) = X := ⟨_, rfl⟩
    have hXs : smallB X.r = true := by rw [← hXk]; exact HS.out _ (List.getElem_mem _)
    have hXb : BndO X := by rw [← hXk]; exact HBn.out _ (List.getElem_mem _)
    have HPK : Hid (playW (os.take (k + 1)) = stepW (playW (os.take k)) X) := Lib.hid (by rw [List.take_succ_eq_append_getElem (by have := HL.out; omega), playW_snoc, hXk])
    obtain ⟨g, o, hoa, hg, c0, c1, c2, c3, c4, c5, c6⟩ := op_at HR.out (i := k) (by have := HL.out; omega)
    have hrq := RowG.rangeReq HR.out hoa (i := k) (by have := HL.out; omega)
    rw [hXk] at c5 c6 hrq
    clear c0 c1 c2 c3 c4 hXk
    have HINV := Lib.hid (InvW.play (os.take k))
    generalize playW (os.take k) = W0 at *
    subst hoa
    obtain ⟨⟨xc, xq, xl, xk, xv⟩, xcut, xnow⟩ := X
    dsimp only at c5 c6 hrq hXs
    have HXS := Lib.hid hXs
    have HNOW := Lib.hid hXb.2
    have HWR := Lib.hid hg
    have hkn : (k : Int) < (n : Int) := by omega
    have d5 := bool_load ((hB.cell (p := ⟨g, o + k * 7 + 5, none⟩) hg).trans c5)
    have HOP : Hid (∀ W, Below wr.heap.size wr W → (loadVar 3 ⟨g, o + k * 7 + 6, none⟩).run Tryz.prog W = .ok (.int .i64 xnow) W ∧ (loadVar 61 ⟨g, o + k * 7, none⟩).run Tryz.prog W = .ok (.agg #[.int .i64 xc, .int .i64 xq, .string xl, .string xk, .string xv]) W) := Lib.hid fun W hW => ⟨num_load (((hB.trans (hW.mono hB.size)).cell (p := ⟨g, o + k * 7 + 6, none⟩) hg).trans c6), hrq W (hB.trans (hW.mono hB.size))⟩
    have hlen := HL.out
    clear c5 c6 hXs hXb hl7 hl8 hrq
    have HSZ1 := Lib.hid hS.size
    have HIE : Hid ((Tryz.prog.info? 55).map (·.size) = some EE.size) := HI
    cases xcut with
    | true =>
     have HKP : Hid (∀ W, Below wr.heap.size wr W → (fun W => (loadVar 40 ⟨g7, 0, none⟩).run Tryz.prog W = .ok (.agg cs) W ∧ (loadVar 29 ⟨w.heap.size, 0, none⟩).run Tryz.prog W = .ok (.agg tabV) W ∧ (loadVar 3 ⟨g, o + k * 7 + 6, none⟩).run Tryz.prog W = .ok (.int .i64 xnow) W) W) := Lib.hid fun W hW => ⟨st_load hS.size (h7.below hW h7.lt), tab_run (hT.below hW hT.lt), (HOP.out W hW).1⟩

     obtain ⟨z1, z2⟩ := HZ9.out
     have hgl := hE9.lt
     go_wp2_with fail
     go_upto_region 8 with fail
     go_cut [11, 12] from 31 to 41 (fun p b wx => ∃ ga cs', p = .pointer (some ⟨ga, 0, none⟩) ∧ b = .bool (isS W0 xnow) ∧ wr.heap.size ≤ ga ∧ Blk wx ga 40 cs' ∧ StC wx (fun q => ge < q) cs' (cutS W0 xnow) ∧ Below wr.heap.size wr wx)
     case first =>
      refine wp_region_held_drew (S := fun W => (loadVar 40 ⟨g7, 0, none⟩).run Tryz.prog W = .ok (.agg cs) W ∧ (loadVar 29 ⟨w.heap.size, 0, none⟩).run Tryz.prog W = .ok (.agg tabV) W ∧ (loadVar 3 ⟨g, o + k * 7 + 6, none⟩).run Tryz.prog W = .ok (.int .i64 xnow) W) (by kernel_rfl) ?_ (fun hHeld0 => ?_)
      · exact HKP.out _ (Below.refl _ _).drew
      have hE : Below wr.heap.size wr wr.drew := (Below.refl _ _).drew
      generalize wr.drew = y at *
      iterate 7 (apply tkF [0, 1, 2, 3, 4, 5, 6] rfl rfl (by kernel_rfl) (fun _ _ _ h => h) (by rfl); (case hy => (intro w hSw; (try dsimp only at hSw); go_simp; try with_reducible rfl)); (case hS => assumption); (try simp only [Act.put, List.setIfInBounds_toArray, List.set_cons_zero, List.set_cons_succ]))
      iterate 2 (all_goals (first
       | refine doHq2 [(7, false), (11, false)] rfl (i := 7) (j := 11) rfl rfl (by kernel_rfl) (by rfl) (by rfl) (fun K hK => ?_) (fun K hK => ?_)
       | refine doHq [(7, false), (11, true)] rfl (i := 7) rfl (by kernel_rfl) (by rfl) (fun K hK => ?_)
       | refine doHq [(7, true), (11, false)] rfl (i := 11) rfl (by kernel_rfl) (by rfl) (fun K hK => ?_)); all_goals (first
       | (show Oper.wp _ ⟨_, .alloc 40, _, _, _, _⟩ _ _ _ _; go_simp; have ka : Blk (y.alloc (.cells zeroSt 40)) y.heap.size 40 zeroSt := Blk.new _ _ _; have hyA := (Below.refl _ y).alloc (Nat.le_refl _) (.cells zeroSt 40); have la : wr.heap.size ≤ y.heap.size := hE.size; (try have ua : yc.heap.size ≤ y.heap.size := hbc.size); (try replace hbc := hbc.trans (hyA.mono hbc.size)); replace hE := hE.trans (hyA.mono hE.size); clear hyA; generalize y.heap.size = ga at *; generalize y.alloc (.cells zeroSt 40) = y at *; refine hK.out _ _ (HKP.out _ hE) (fun hHeld => ?_); clear hK K; (try simp only [Act.put, List.setIfInBounds_toArray, List.set_cons_zero, List.set_cons_succ]))
       | (show Oper.wp _ ⟨_, .call _, _, _, _, _⟩ _ _ _ _; have := ka; go_simp; have va : ga < y.heap.size := ka.lt; have hvy := hE.size; go_at_call 20; refine (HCu.out _ cs W0 xnow y HINV.out HNOW.out (hS.below hE)).mono ?_; rintro e y ⟨cs', rfl, hX, hy⟩; replace hE : Below wr.heap.size wr y := hE.trans (hy.mono hE.size); replace ka := ka.below hy ka.lt; obtain ⟨yc, hyc⟩ : ∃ yc, y = yc := ⟨_, rfl⟩; rw [hyc] at hX; have hbc : Below yc.heap.size yc y := (by rw [hyc]; exact Below.refl _ _); have ua : ga < yc.heap.size := (by rw [← hyc]; exact ka.lt); clear hyc; go_wp2_with fail; refine hK.out _ _ (HKP.out _ hE) (fun hHeld => ?_); clear hK K; (try simp only [Act.put, List.setIfInBounds_toArray, List.set_cons_zero, List.set_cons_succ]); iterate 3 (apply tkF [8, 9, 10] rfl rfl (by kernel_rfl) (fun _ _ _ h => h) (by rfl); (case hy => (intro w hSw; (try dsimp only at hSw); go_simp; try with_reducible rfl)); (case hS => assumption); (try simp only [Act.put, List.setIfInBounds_toArray, List.set_cons_zero, List.set_cons_succ])))
       | (show Oper.wp _ ⟨_, .call _, _, _, _, _⟩ _ _ _ _; go_simp; have hvy := hE.size; go_at_call 20; refine (HCu.out _ cs W0 xnow y HINV.out HNOW.out (hS.below hE)).mono ?_; rintro e y ⟨cs', rfl, hX, hy⟩; replace hE : Below wr.heap.size wr y := hE.trans (hy.mono hE.size); obtain ⟨yc, hyc⟩ : ∃ yc, y = yc := ⟨_, rfl⟩; rw [hyc] at hX; have hbc : Below yc.heap.size yc y := (by rw [hyc]; exact Below.refl _ _); clear hyc; go_wp2_with fail; refine hK.out _ _ (HKP.out _ hE) (fun hHeld => ?_); clear hK K; (try simp only [Act.put, List.setIfInBounds_toArray, List.set_cons_zero, List.set_cons_succ]); iterate 3 (apply tkF [8, 9, 10] rfl rfl (by kernel_rfl) (fun _ _ _ h => h) (by rfl); (case hy => (intro w hSw; (try dsimp only at hSw); go_simp; try with_reducible rfl)); (case hS => assumption); (try simp only [Act.put, List.setIfInBounds_toArray, List.set_cons_zero, List.set_cons_succ])))))
      all_goals
       refine doH (i := 12) rfl (by kernel_rfl) (by rfl) (fun K hK => ?_)
       refine wp_store_row 40 _ _ rfl ga cs' rfl rfl 40 zeroSt ka (by rw [hX.size]; exact infoS) (by rw [hX.size]; rfl) hX.one ?_
       refine hK.out _ _ (HKP.out _ (hE.grown (only_setRow (grown_refl y _) cs') hE.size (fun k hk => by injection hk; omega))) (fun hHeld => ?_)
       clear hK K
       (try simp only [Act.put])
       (apply tkF [13] rfl rfl (by kernel_rfl) (fun _ _ _ h => h) (by rfl); (case hy => (intro w hSw; (try dsimp only at hSw); go_simp; try with_reducible rfl)); (case hS => assumption); (try simp only [Act.put, List.setIfInBounds_toArray, List.set_cons_zero, List.set_cons_succ]))
       refine wpAnyH_done (by kernel_rfl) ?_ _
       go_wp2_with fail
       go_meet
       exact ⟨ga, cs', rfl, rfl, la, (setRow_heap y ga zeroSt cs' 40 (0, 0) ka), (hX.same (by have := hbc.size; simp; omega) (fun q h1 h2 => by have h8 := h2; unfold geP at h8; rw [setRow_other _ ga q _ (by omega)]; exact hbc.block q h1)).imp (fun q _ h2 => by have h8 := h2; unfold geP at h8; show ge < q; omega), (hE.grown (only_setRow (grown_refl y _) cs') hE.size (fun k hk => by injection hk; omega))⟩
     case rest =>
      obtain ⟨ga, cs', rfl, rfl, la, ka, hSa, hbA⟩ := hcut
      have hga9 : ge < ga := by omega
      generalize wc = wa at *
      have hDa := hD.below hbA
      replace hT := hT.below hbA hT.lt
      replace hE9 := hE9.below hbA hE9.lt
      replace h4 := h4.below hbA h4.lt
      replace h5 := h5.below hbA h5.lt
      replace h7 := h7.below hbA h7.lt
      replace h8 := h8.below hbA h8.lt
      replace hB := hB.trans (hbA.mono hB.size)
      replace hgl := hE9.lt
      have HKP9 : Hid (∀ W, Below wa.heap.size wa W → (fun W => (loadVar 43 ⟨g8, 0, none⟩).run Tryz.prog W = .ok (.agg ds) W ∧ (loadVar 55 ⟨ge, 0, none⟩).run Tryz.prog W = .ok (.agg EE) W ∧ (loadVar 3 ⟨g, o + k * 7 + 6, none⟩).run Tryz.prog W = .ok (.int .i64 xnow) W) W) := Lib.hid fun W hW => ⟨wd_load hDa.size (h8.below hW h8.lt), (run_loadVar_row W ge 55 55 EE (0, 0) _ (hE9.below hW hE9.lt) Tryz.underlying55 rfl HIE.out), (HOP.out W (hbA.trans (hW.mono hbA.size))).1⟩
      clear hS hD HKP HOP
      go_upto_region 9 with fail
      go_cut [13, 14] from 42 to 52 (fun p b wx => ∃ gb ds', p = .pointer (some ⟨gb, 0, none⟩) ∧ b = .bool (isS W0 xnow) ∧ wa.heap.size ≤ gb ∧ Blk wx gb 43 ds' ∧ WdC wx (fun q => ge < q) ds' (cutS W0 xnow) ∧ Below wa.heap.size wa wx)
      case first =>
       refine wp_region_held_drew (S := fun W => (loadVar 43 ⟨g8, 0, none⟩).run Tryz.prog W = .ok (.agg ds) W ∧ (loadVar 55 ⟨ge, 0, none⟩).run Tryz.prog W = .ok (.agg EE) W ∧ (loadVar 3 ⟨g, o + k * 7 + 6, none⟩).run Tryz.prog W = .ok (.int .i64 xnow) W) (by kernel_rfl) ?_ (fun hHeld0 => ?_)
       · exact HKP9.out _ (Below.refl _ _).drew
       have hE : Below wa.heap.size wa wa.drew := (Below.refl _ _).drew
       generalize wa.drew = y at *
       iterate 7 (apply tkF [0, 1, 2, 3, 4, 5, 6] rfl rfl (by kernel_rfl) (fun _ _ _ h => h) (by rfl); (case hy => (intro w hSw; (try dsimp only at hSw); go_simp; try with_reducible rfl)); (case hS => assumption); (try simp only [Act.put, List.setIfInBounds_toArray, List.set_cons_zero, List.set_cons_succ]))
       iterate 2 (all_goals (first
        | refine doHq2 [(7, false), (11, false)] rfl (i := 7) (j := 11) rfl rfl (by kernel_rfl) (by rfl) (by rfl) (fun K hK => ?_) (fun K hK => ?_)
        | refine doHq [(7, false), (11, true)] rfl (i := 7) rfl (by kernel_rfl) (by rfl) (fun K hK => ?_)
        | refine doHq [(7, true), (11, false)] rfl (i := 11) rfl (by kernel_rfl) (by rfl) (fun K hK => ?_)); all_goals (first
        | (show Oper.wp _ ⟨_, .alloc 43, _, _, _, _⟩ _ _ _ _; go_simp; have kb : Blk (y.alloc (.cells zeroWd 43)) y.heap.size 43 zeroWd := Blk.new _ _ _; have hyA := (Below.refl _ y).alloc (Nat.le_refl _) (.cells zeroWd 43); have lb : wa.heap.size ≤ y.heap.size := hE.size; (try have ub : yc.heap.size ≤ y.heap.size := hbc.size); (try replace hbc := hbc.trans (hyA.mono hbc.size)); replace hE := hE.trans (hyA.mono hE.size); clear hyA; generalize y.heap.size = gb at *; generalize y.alloc (.cells zeroWd 43) = y at *; refine hK.out _ _ (HKP9.out _ hE) (fun hHeld => ?_); clear hK K; (try simp only [Act.put, List.setIfInBounds_toArray, List.set_cons_zero, List.set_cons_succ]))
        | (show Oper.wp _ ⟨_, .call _, _, _, _, _⟩ _ _ _ _; have := kb; go_simp; have vb : gb < y.heap.size := kb.lt; have hvy := hE.size; go_at_call 21; refine (HRc.out (fun q => ge < q ∧ q ≠ gb) ds W0 xnow y (fun q hq => by show ge < q ∧ q ≠ gb; omega) HINV.out ((hDa.imp (P' := (fun q => ge < q ∧ q ≠ gb)) (fun q h1 h2 => by have h8 : ge < q := h2; show ge < q ∧ q ≠ gb; omega)).below hE)).mono ?_; rintro e y ⟨ds', rfl, hX, hy⟩; replace hE : Below wa.heap.size wa y := hE.trans (hy.mono hE.size); replace kb := kb.below hy kb.lt; obtain ⟨yc, hyc⟩ : ∃ yc, y = yc := ⟨_, rfl⟩; rw [hyc] at hX; have hbc : Below yc.heap.size yc y := (by rw [hyc]; exact Below.refl _ _); have ub : gb < yc.heap.size := (by rw [← hyc]; exact kb.lt); clear hyc; go_wp2_with fail; refine hK.out _ _ (HKP9.out _ hE) (fun hHeld => ?_); clear hK K; (try simp only [Act.put, List.setIfInBounds_toArray, List.set_cons_zero, List.set_cons_succ]); iterate 3 (apply tkF [8, 9, 10] rfl rfl (by kernel_rfl) (fun _ _ _ h => h) (by rfl); (case hy => (intro w hSw; (try dsimp only at hSw); go_simp; try with_reducible rfl)); (case hS => assumption); (try simp only [Act.put, List.setIfInBounds_toArray, List.set_cons_zero, List.set_cons_succ])))
        | (show Oper.wp _ ⟨_, .call _, _, _, _, _⟩ _ _ _ _; go_simp; have hvy := hE.size; go_at_call 21; refine (HRc.out (fun q => ge < q) ds W0 xnow y (fun q hq => by show ge < q; omega) HINV.out ((hDa.imp (P' := (fun q => ge < q)) (fun q h1 h2 => by have h8 : ge < q := h2; show ge < q; omega)).below hE)).mono ?_; rintro e y ⟨ds', rfl, hX, hy⟩; replace hE : Below wa.heap.size wa y := hE.trans (hy.mono hE.size); obtain ⟨yc, hyc⟩ : ∃ yc, y = yc := ⟨_, rfl⟩; rw [hyc] at hX; have hbc : Below yc.heap.size yc y := (by rw [hyc]; exact Below.refl _ _); clear hyc; go_wp2_with fail; refine hK.out _ _ (HKP9.out _ hE) (fun hHeld => ?_); clear hK K; (try simp only [Act.put, List.setIfInBounds_toArray, List.set_cons_zero, List.set_cons_succ]); iterate 3 (apply tkF [8, 9, 10] rfl rfl (by kernel_rfl) (fun _ _ _ h => h) (by rfl); (case hy => (intro w hSw; (try dsimp only at hSw); go_simp; try with_reducible rfl)); (case hS => assumption); (try simp only [Act.put, List.setIfInBounds_toArray, List.set_cons_zero, List.set_cons_succ])))))
       all_goals
        refine doH (i := 12) rfl (by kernel_rfl) (by rfl) (fun K hK => ?_)
        refine wp_store_row 43 _ _ rfl gb ds' rfl rfl 43 zeroWd kb (by rw [hX.size]; kernel_rfl) (by rw [hX.size]; rfl) hX.one ?_
        refine hK.out _ _ (HKP9.out _ (hE.grown (only_setRow (grown_refl y _) ds') hE.size (fun k hk => by injection hk; omega))) (fun hHeld => ?_)
        clear hK K
        (try simp only [Act.put])
        (apply tkF [13] rfl rfl (by kernel_rfl) (fun _ _ _ h => h) (by rfl); (case hy => (intro w hSw; (try dsimp only at hSw); go_simp; try with_reducible rfl)); (case hS => assumption); (try simp only [Act.put, List.setIfInBounds_toArray, List.set_cons_zero, List.set_cons_succ]))
        refine wpAnyH_done (by kernel_rfl) ?_ _
        go_wp2_with fail
        go_meet
        exact ⟨gb, ds', rfl, rfl, lb, (setRow_heap y gb zeroWd ds' 43 (0, 0) kb), (hX.same (by have := hbc.size; simp; omega) (fun q h1 h2 => by rw [setRow_other _ gb q _ (by first | omega | (have h8 : _ ∧ _ := h2; omega))]; exact hbc.block q h1)).imp (fun q _ h2 => by first | exact h2 | exact h2.1), (hE.grown (only_setRow (grown_refl y _) ds') hE.size (fun k hk => by injection hk; omega))⟩
      case rest =>
       obtain ⟨gb, ds', rfl, rfl, lb, kb, hDb, hbB⟩ := hcut
       have hgb9 : ge < gb := by omega
       generalize wc = wb at *
       have hSz1 : cs.size = 22 := HSZ1.out
       have hSz2 : ds.size = 3 := hDa.size
       replace hT := hT.below hbB hT.lt
       replace hE9 := hE9.below hbB hE9.lt
       replace h4 := h4.below hbB h4.lt
       replace h5 := h5.below hbB h5.lt
       replace h7 := h7.below hbB h7.lt
       replace h8 := h8.below hbB h8.lt
       replace hB := hB.trans (hbB.mono hB.size)
       replace ka := ka.below hbB ka.lt
       replace hSa := hSa.below hbB
       replace hgl := hE9.lt
       clear hDa hbA hbB HKP9
       generalize isS W0 xnow = bb at *
       have l1 := st_load hSa.size ka
       have l2 := wd_load hDb.size (Blk.setRow kb (g' := g7) (by omega) cs')
       have HI1 := Lib.hid (show (Tryz.prog.info? 40).map (·.size) = some cs'.size by rw [hSa.size]; exact infoS)
       have HI2 := Lib.hid (show (Tryz.prog.info? 43).map (·.size) = some ds'.size by rw [hDb.size]; kernel_rfl)
       have HN1 := Lib.hid (show cs.size = cs'.size by rw [hSz1, hSa.size])
       have HN2 := Lib.hid (show ds.size = ds'.size by rw [hSz2, hDb.size])
       have HO1 := Lib.hid hSa.one
       have HO2 := Lib.hid hDb.one
       have H7 := Lib.hid h7
       have H8 := Lib.hid h8
       have hsame : ∀ q, ge < q → ((wb.setRow g7 cs').setRow g8 ds').heap[q]? = wb.heap[q]? := fun q h => by rw [setRow_other _ g8 q _ (by omega), setRow_other _ g7 q _ (by omega)]
       have HS1 : Hid (StC ((wb.setRow g7 cs').setRow g8 ds') (fun q => ge < q) cs' (cutS W0 xnow)) := Lib.hid (hSa.same (by simp) (fun q _ h => hsame q h))
       have HD1 : Hid (WdC ((wb.setRow g7 cs').setRow g8 ds') (fun q => ge < q) ds' (cutS W0 xnow)) := Lib.hid (hDb.same (by simp) (fun q _ h => hsame q h))
       have HB1 : Hid (Below w.heap.size w ((wb.setRow g7 cs').setRow g8 ds')) := Lib.hid ((hB.grown (only_setRow (grown_refl wb (some g7)) cs') hB.size (fun k hk => by injection hk; omega)).grown (only_setRow (grown_refl _ (some g8)) ds') (by have := hB.size; simp; omega) (fun k hk => by injection hk; omega))
       have HT1 := Lib.hid (Blk.setRow (Blk.setRow hT (g' := g7) (by omega) cs') (g' := g8) (by omega) ds')
       have HE1 := Lib.hid (Blk.setRow (Blk.setRow hE9 (g' := g7) (by omega) cs') (g' := g8) (by omega) ds')
       have H41 := Lib.hid (Blk.setRow (Blk.setRow h4 (g' := g7) (by omega) cs') (g' := g8) (by omega) ds')
       have H51 := Lib.hid (Blk.setRow (Blk.setRow h5 (g' := g7) (by omega) cs') (g' := g8) (by omega) ds')
       have n7 : Blk (wb.setRow g7 cs') g7 40 cs' := setRow_heap wb g7 cs cs' 40 (0, 0) h7
       have H71 := Lib.hid (Blk.setRow n7 (g' := g8) (by omega) ds')
       have n8 : Blk ((wb.setRow g7 cs').setRow g8 ds') g8 43 ds' := setRow_heap _ g8 ds ds' 43 (0, 0) (Blk.setRow h8 (by omega) cs')
       have H81 := Lib.hid n8
       clear hsame hT hE9 h4 h5 h7 h8 n7 n8 ka kb hSa hDb hB hSz1 hSz2
       go_wp2_with (first
        | (refine wpList_store_row rfl 40 _ _ rfl g7 cs' rfl rfl 40 cs H7.out HI1.out HN1.out HO1.out ?_)
        | (refine wpList_store_row rfl 43 _ _ rfl g8 ds' rfl rfl 43 ds (H8.out.setRow (by omega) cs') HI2.out HN2.out HO2.out ?_))
       go_roundw
       case rel => exact ⟨k + 1, by omega, by go_num, HB1.out, HT1.out, HE1.out, H41.out, H51.out, cs', ds', H71.out, H81.out, by rw [HPK.out]; exact HS1.out, by rw [HPK.out]; exact HD1.out⟩
       case measure => simp [intOf]; omega
    | false =>
     obtain ⟨⟨Re, Ri, Rh⟩, hsay⟩ : ∃ y, saysS W0 ⟨xc, xq, xl, xk, xv⟩ = y := ⟨_, rfl⟩
     have HCA : Hid (∀ W, Below wr.heap.size wr W → Calls Tryz.prog 22 #[.agg cs, .agg #[.int .i64 xc, .int .i64 xq, .string xl, .string xk, .string xv]] W fun e w' => ∃ cs', e = .returned (.tuple #[.agg cs', .agg #[.int .i64 Re, .int .i64 Ri, .int .i64 Rh]]) ∧ StC w' (geP W.heap.size) cs' (askS W0 ⟨xc, xq, xl, xk, xv⟩) ∧ Below W.heap.size W w') := Lib.hid fun W hW => by
      have key := HAp.out (fun q => ge < q) cs W0 ⟨xc, xq, xl, xk, xv⟩ W HINV.out HXS.out (hS.below hW)
      rw [hsay] at key
      exact key
     have HCR : Hid (∀ (P : Nat → Prop) W, (∀ q, W.heap.size ≤ q → P q) → WdC W P ds W0 → Calls Tryz.prog 23 #[.agg ds, .agg #[.int .i64 xc, .int .i64 xq, .string xl, .string xk, .string xv]] W fun e w' => ∃ cs', e = .returned (.tuple #[.agg cs', .agg #[.int .i64 Re, .int .i64 Ri, .int .i64 Rh]]) ∧ WdC w' P cs' (askS W0 ⟨xc, xq, xl, xk, xv⟩) ∧ Below W.heap.size W w') := Lib.hid fun P W hP hW => by
      have key := HRa.out P ds W0 ⟨xc, xq, xl, xk, xv⟩ W hP HINV.out HXS.out hW
      rw [hsay] at key
      exact key
     clear hsay
     have HKP : Hid (∀ W, Below wr.heap.size wr W → (fun W => (loadVar 40 ⟨g7, 0, none⟩).run Tryz.prog W = .ok (.agg cs) W ∧ (loadVar 61 ⟨g, o + k * 7, none⟩).run Tryz.prog W = .ok (.agg #[.int .i64 xc, .int .i64 xq, .string xl, .string xk, .string xv]) W) W) := Lib.hid fun W hW => ⟨st_load hS.size (h7.below hW h7.lt), (HOP.out W hW).2⟩
     obtain ⟨z1, z2⟩ := HZ9.out
     have hgl := hE9.lt
     go_wp2_with fail
     go_upto_region 14 with fail
     go_cut [15, 16] from 60 to 69 (fun p b wx => ∃ ga gp cs', p = .pointer (some ⟨ga, 0, none⟩) ∧ b = .pointer (some ⟨gp, 0, none⟩) ∧ wr.heap.size ≤ ga ∧ wr.heap.size ≤ gp ∧ Blk wx ga 40 cs' ∧ Blk wx gp 34 #[.int .i64 Re, .int .i64 Ri, .int .i64 Rh] ∧ StC wx (fun q => ge < q) cs' (askS W0 ⟨xc, xq, xl, xk, xv⟩) ∧ Below wr.heap.size wr wx)
     case first =>
      refine wp_region_held_drew (S := fun W => (loadVar 40 ⟨g7, 0, none⟩).run Tryz.prog W = .ok (.agg cs) W ∧ (loadVar 61 ⟨g, o + k * 7, none⟩).run Tryz.prog W = .ok (.agg #[.int .i64 xc, .int .i64 xq, .string xl, .string xk, .string xv]) W) (by kernel_rfl) ?_ (fun hHeld0 => ?_)
      · exact HKP.out _ (Below.refl _ _).drew
      have hE : Below wr.heap.size wr wr.drew := (Below.refl _ _).drew
      generalize wr.drew = y at *
      iterate 6 (apply tkF [0, 1, 2, 3, 4, 5] rfl rfl (by kernel_rfl) (fun _ _ _ h => h) (by rfl); (case hy => (intro w hSw; (try dsimp only at hSw); go_simp; try with_reducible rfl)); (case hS => assumption); (try simp only [Act.put, List.setIfInBounds_toArray, List.set_cons_zero, List.set_cons_succ]))
      iterate 3 (all_goals (first
       | refine doHq3 [(6, false), (10, false), (11, false)] rfl (i := 6) (j := 10) (k := 11) rfl rfl rfl (by kernel_rfl) (by rfl) (by rfl) (by rfl) (fun K hK => ?_) (fun K hK => ?_) (fun K hK => ?_)
       | refine doHq2 [(6, false), (10, false), (11, true)] rfl (i := 6) (j := 10) rfl rfl (by kernel_rfl) (by rfl) (by rfl) (fun K hK => ?_) (fun K hK => ?_)
       | refine doHq2 [(6, false), (10, true), (11, false)] rfl (i := 6) (j := 11) rfl rfl (by kernel_rfl) (by rfl) (by rfl) (fun K hK => ?_) (fun K hK => ?_)
       | refine doHq2 [(6, true), (10, false), (11, false)] rfl (i := 10) (j := 11) rfl rfl (by kernel_rfl) (by rfl) (by rfl) (fun K hK => ?_) (fun K hK => ?_)
       | refine doHq [(6, false), (10, true), (11, true)] rfl (i := 6) rfl (by kernel_rfl) (by rfl) (fun K hK => ?_)
       | refine doHq [(6, true), (10, false), (11, true)] rfl (i := 10) rfl (by kernel_rfl) (by rfl) (fun K hK => ?_)
       | refine doHq [(6, true), (10, true), (11, false)] rfl (i := 11) rfl (by kernel_rfl) (by rfl) (fun K hK => ?_)); all_goals (first
       | (show Oper.wp _ ⟨_, .alloc 40, _, _, _, _⟩ _ _ _ _; go_simp; have ka : Blk (y.alloc (.cells zeroSt 40)) y.heap.size 40 zeroSt := Blk.new _ _ _; have hyA := (Below.refl _ y).alloc (Nat.le_refl _) (.cells zeroSt 40); have la : wr.heap.size ≤ y.heap.size := hE.size; (try have dap : gp < y.heap.size := kp.lt); (try replace kp := kp.below hyA kp.lt); (try have ua : yc.heap.size ≤ y.heap.size := hbc.size); (try replace hbc := hbc.trans (hyA.mono hbc.size)); replace hE := hE.trans (hyA.mono hE.size); clear hyA; generalize y.heap.size = ga at *; generalize y.alloc (.cells zeroSt 40) = y at *; refine hK.out _ _ (HKP.out _ hE) (fun hHeld => ?_); clear hK K; (try simp only [Act.put, List.setIfInBounds_toArray, List.set_cons_zero, List.set_cons_succ]))
       | (show Oper.wp _ ⟨_, .alloc 34, _, _, _, _⟩ _ _ _ _; go_simp; have kp : Blk (y.alloc (.cells #[.int .i64 0, .int .i64 0, .int .i64 0] 34)) y.heap.size 34 #[.int .i64 0, .int .i64 0, .int .i64 0] := Blk.new _ _ _; have hyA := (Below.refl _ y).alloc (Nat.le_refl _) (.cells #[.int .i64 0, .int .i64 0, .int .i64 0] 34); have lp : wr.heap.size ≤ y.heap.size := hE.size; (try have dpa : ga < y.heap.size := ka.lt); (try replace ka := ka.below hyA ka.lt); (try have up : yc.heap.size ≤ y.heap.size := hbc.size); (try replace hbc := hbc.trans (hyA.mono hbc.size)); replace hE := hE.trans (hyA.mono hE.size); clear hyA; generalize y.heap.size = gp at *; generalize y.alloc (.cells #[.int .i64 0, .int .i64 0, .int .i64 0] 34) = y at *; refine hK.out _ _ (HKP.out _ hE) (fun hHeld => ?_); clear hK K; (try simp only [Act.put, List.setIfInBounds_toArray, List.set_cons_zero, List.set_cons_succ]))
       | (show Oper.wp _ ⟨_, .call _, _, _, _, _⟩ _ _ _ _; have := ka; have := kp; go_simp; have va : ga < y.heap.size := ka.lt; have vp : gp < y.heap.size := kp.lt; have hvy := hE.size; go_at_call 22; refine (HCA.out y hE).mono ?_; rintro e y ⟨cs', rfl, hX, hy⟩; replace hE : Below wr.heap.size wr y := hE.trans (hy.mono hE.size); replace ka := ka.below hy ka.lt; replace kp := kp.below hy kp.lt; obtain ⟨yc, hyc⟩ : ∃ yc, y = yc := ⟨_, rfl⟩; rw [hyc] at hX; have hbc : Below yc.heap.size yc y := (by rw [hyc]; exact Below.refl _ _); have ua : ga < yc.heap.size := (by rw [← hyc]; exact ka.lt); have up : gp < yc.heap.size := (by rw [← hyc]; exact kp.lt); clear hyc; go_wp2_with fail; refine hK.out _ _ (HKP.out _ hE) (fun hHeld => ?_); clear hK K; (try simp only [Act.put, List.setIfInBounds_toArray, List.set_cons_zero, List.set_cons_succ]); iterate 3 (apply tkF [7, 8, 9] rfl rfl (by kernel_rfl) (fun _ _ _ h => h) (by rfl); (case hy => (intro w hSw; (try dsimp only at hSw); go_simp; try with_reducible rfl)); (case hS => assumption); (try simp only [Act.put, List.setIfInBounds_toArray, List.set_cons_zero, List.set_cons_succ])))
       | (show Oper.wp _ ⟨_, .call _, _, _, _, _⟩ _ _ _ _; have := ka; go_simp; have va : ga < y.heap.size := ka.lt; have hvy := hE.size; go_at_call 22; refine (HCA.out y hE).mono ?_; rintro e y ⟨cs', rfl, hX, hy⟩; replace hE : Below wr.heap.size wr y := hE.trans (hy.mono hE.size); replace ka := ka.below hy ka.lt; obtain ⟨yc, hyc⟩ : ∃ yc, y = yc := ⟨_, rfl⟩; rw [hyc] at hX; have hbc : Below yc.heap.size yc y := (by rw [hyc]; exact Below.refl _ _); have ua : ga < yc.heap.size := (by rw [← hyc]; exact ka.lt); clear hyc; go_wp2_with fail; refine hK.out _ _ (HKP.out _ hE) (fun hHeld => ?_); clear hK K; (try simp only [Act.put, List.setIfInBounds_toArray, List.set_cons_zero, List.set_cons_succ]); iterate 3 (apply tkF [7, 8, 9] rfl rfl (by kernel_rfl) (fun _ _ _ h => h) (by rfl); (case hy => (intro w hSw; (try dsimp only at hSw); go_simp; try with_reducible rfl)); (case hS => assumption); (try simp only [Act.put, List.setIfInBounds_toArray, List.set_cons_zero, List.set_cons_succ])))
       | (show Oper.wp _ ⟨_, .call _, _, _, _, _⟩ _ _ _ _; have := kp; go_simp; have vp : gp < y.heap.size := kp.lt; have hvy := hE.size; go_at_call 22; refine (HCA.out y hE).mono ?_; rintro e y ⟨cs', rfl, hX, hy⟩; replace hE : Below wr.heap.size wr y := hE.trans (hy.mono hE.size); replace kp := kp.below hy kp.lt; obtain ⟨yc, hyc⟩ : ∃ yc, y = yc := ⟨_, rfl⟩; rw [hyc] at hX; have hbc : Below yc.heap.size yc y := (by rw [hyc]; exact Below.refl _ _); have up : gp < yc.heap.size := (by rw [← hyc]; exact kp.lt); clear hyc; go_wp2_with fail; refine hK.out _ _ (HKP.out _ hE) (fun hHeld => ?_); clear hK K; (try simp only [Act.put, List.setIfInBounds_toArray, List.set_cons_zero, List.set_cons_succ]); iterate 3 (apply tkF [7, 8, 9] rfl rfl (by kernel_rfl) (fun _ _ _ h => h) (by rfl); (case hy => (intro w hSw; (try dsimp only at hSw); go_simp; try with_reducible rfl)); (case hS => assumption); (try simp only [Act.put, List.setIfInBounds_toArray, List.set_cons_zero, List.set_cons_succ])))
       | (show Oper.wp _ ⟨_, .call _, _, _, _, _⟩ _ _ _ _; go_simp; have hvy := hE.size; go_at_call 22; refine (HCA.out y hE).mono ?_; rintro e y ⟨cs', rfl, hX, hy⟩; replace hE : Below wr.heap.size wr y := hE.trans (hy.mono hE.size); obtain ⟨yc, hyc⟩ : ∃ yc, y = yc := ⟨_, rfl⟩; rw [hyc] at hX; have hbc : Below yc.heap.size yc y := (by rw [hyc]; exact Below.refl _ _); clear hyc; go_wp2_with fail; refine hK.out _ _ (HKP.out _ hE) (fun hHeld => ?_); clear hK K; (try simp only [Act.put, List.setIfInBounds_toArray, List.set_cons_zero, List.set_cons_succ]); iterate 3 (apply tkF [7, 8, 9] rfl rfl (by kernel_rfl) (fun _ _ _ h => h) (by rfl); (case hy => (intro w hSw; (try dsimp only at hSw); go_simp; try with_reducible rfl)); (case hS => assumption); (try simp only [Act.put, List.setIfInBounds_toArray, List.set_cons_zero, List.set_cons_succ])))))
      all_goals
       refine doH (i := 12) rfl (by kernel_rfl) (by rfl) (fun K hK => ?_)
       refine wp_store_row 40 _ _ rfl ga cs' rfl rfl 40 zeroSt ka (by rw [hX.size]; exact infoS) (by rw [hX.size]; rfl) hX.one ?_
       refine hK.out _ _ (HKP.out _ (hE.grown (only_setRow (grown_refl y _) cs') hE.size (fun k hk => by injection hk; omega))) (fun hHeld => ?_)
       clear hK K
       (try simp only [Act.put])
       refine doH (i := 13) rfl (by kernel_rfl) (by rfl) (fun K hK => ?_)
       refine wp_store_row 34 _ _ rfl gp #[.int .i64 Re, .int .i64 Ri, .int .i64 Rh] rfl rfl 34 #[.int .i64 0, .int .i64 0, .int .i64 0] (Blk.setRow kp (by omega) cs') info3 rfl (rep_one _ _ _) ?_
       refine hK.out _ _ (HKP.out _ ((hE.grown (only_setRow (grown_refl y _) cs') hE.size (fun k hk => by injection hk; omega)).grown (only_setRow (grown_refl (y.setRow ga cs') _) #[.int .i64 Re, .int .i64 Ri, .int .i64 Rh]) (hE.grown (only_setRow (grown_refl y _) cs') hE.size (fun k hk => by injection hk; omega)).size (fun k hk => by injection hk; omega))) (fun hHeld => ?_)
       clear hK K
       (try simp only [Act.put])
       refine wpAnyH_done (by kernel_rfl) ?_ _
       go_wp2_with fail
       go_meet
       exact ⟨ga, gp, cs', rfl, rfl, la, lp, (Blk.setRow (setRow_heap y ga zeroSt cs' 40 (0, 0) ka) (by omega) #[.int .i64 Re, .int .i64 Ri, .int .i64 Rh]), (setRow_heap (y.setRow ga cs') gp #[.int .i64 0, .int .i64 0, .int .i64 0] #[.int .i64 Re, .int .i64 Ri, .int .i64 Rh] 34 (0, 0) (Blk.setRow kp (by omega) cs')), (hX.same (by have := hbc.size; simp; omega) (fun q h1 h2 => by have h8 := h2; unfold geP at h8; rw [setRow_other _ gp q _ (by omega), setRow_other _ ga q _ (by omega)]; exact hbc.block q h1)).imp (fun q _ h2 => by have h8 := h2; unfold geP at h8; show ge < q; omega), ((hE.grown (only_setRow (grown_refl y _) cs') hE.size (fun k hk => by injection hk; omega)).grown (only_setRow (grown_refl (y.setRow ga cs') _) #[.int .i64 Re, .int .i64 Ri, .int .i64 Rh]) (hE.grown (only_setRow (grown_refl y _) cs') hE.size (fun k hk => by injection hk; omega)).size (fun k hk => by injection hk; omega))⟩
     case rest =>
      obtain ⟨ga, gp, cs', rfl, rfl, la, lp, ka, kp, hSa, hbA⟩ := hcut
      generalize wc = wa at *
      have hga9 : ge < ga := by omega
      have hgp9 : ge < gp := by omega
      have hDa := hD.below hbA
      replace hT := hT.below hbA hT.lt
      replace hE9 := hE9.below hbA hE9.lt
      replace h4 := h4.below hbA h4.lt
      replace h5 := h5.below hbA h5.lt
      replace h7 := h7.below hbA h7.lt
      replace h8 := h8.below hbA h8.lt
      replace hB := hB.trans (hbA.mono hB.size)
      replace hgl := hE9.lt
      have HKP9 : Hid (∀ W, Below wa.heap.size wa W → (fun W => (loadVar 43 ⟨g8, 0, none⟩).run Tryz.prog W = .ok (.agg ds) W ∧ (loadVar 61 ⟨g, o + k * 7, none⟩).run Tryz.prog W = .ok (.agg #[.int .i64 xc, .int .i64 xq, .string xl, .string xk, .string xv]) W) W) := Lib.hid fun W hW => ⟨wd_load hDa.size (h8.below hW h8.lt), (HOP.out W (hbA.trans (hW.mono hbA.size))).2⟩
      clear hS hD HKP HOP HCA
      go_upto_region 15 with fail
      go_cut [17, 18] from 70 to 79 (fun p b wx => ∃ gb gr ds', p = .pointer (some ⟨gb, 0, none⟩) ∧ b = .pointer (some ⟨gr, 0, none⟩) ∧ wa.heap.size ≤ gb ∧ wa.heap.size ≤ gr ∧ Blk wx gb 43 ds' ∧ Blk wx gr 34 #[.int .i64 Re, .int .i64 Ri, .int .i64 Rh] ∧ WdC wx (fun q => ge < q) ds' (askS W0 ⟨xc, xq, xl, xk, xv⟩) ∧ Below wa.heap.size wa wx)
      case first =>
       refine wp_region_held_drew (S := fun W => (loadVar 43 ⟨g8, 0, none⟩).run Tryz.prog W = .ok (.agg ds) W ∧ (loadVar 61 ⟨g, o + k * 7, none⟩).run Tryz.prog W = .ok (.agg #[.int .i64 xc, .int .i64 xq, .string xl, .string xk, .string xv]) W) (by kernel_rfl) ?_ (fun hHeld0 => ?_)
       · exact HKP9.out _ (Below.refl _ _).drew
       have hE : Below wa.heap.size wa wa.drew := (Below.refl _ _).drew
       generalize wa.drew = y at *
       iterate 6 (apply tkF [0, 1, 2, 3, 4, 5] rfl rfl (by kernel_rfl) (fun _ _ _ h => h) (by rfl); (case hy => (intro w hSw; (try dsimp only at hSw); go_simp; try with_reducible rfl)); (case hS => assumption); (try simp only [Act.put, List.setIfInBounds_toArray, List.set_cons_zero, List.set_cons_succ]))
       iterate 3 (all_goals (first
        | refine doHq3 [(6, false), (10, false), (11, false)] rfl (i := 6) (j := 10) (k := 11) rfl rfl rfl (by kernel_rfl) (by rfl) (by rfl) (by rfl) (fun K hK => ?_) (fun K hK => ?_) (fun K hK => ?_)
        | refine doHq2 [(6, false), (10, false), (11, true)] rfl (i := 6) (j := 10) rfl rfl (by kernel_rfl) (by rfl) (by rfl) (fun K hK => ?_) (fun K hK => ?_)
        | refine doHq2 [(6, false), (10, true), (11, false)] rfl (i := 6) (j := 11) rfl rfl (by kernel_rfl) (by rfl) (by rfl) (fun K hK => ?_) (fun K hK => ?_)
        | refine doHq2 [(6, true), (10, false), (11, false)] rfl (i := 10) (j := 11) rfl rfl (by kernel_rfl) (by rfl) (by rfl) (fun K hK => ?_) (fun K hK => ?_)
        | refine doHq [(6, false), (10, true), (11, true)] rfl (i := 6) rfl (by kernel_rfl) (by rfl) (fun K hK => ?_)
        | refine doHq [(6, true), (10, false), (11, true)] rfl (i := 10) rfl (by kernel_rfl) (by rfl) (fun K hK => ?_)
        | refine doHq [(6, true), (10, true), (11, false)] rfl (i := 11) rfl (by kernel_rfl) (by rfl) (fun K hK => ?_)); all_goals (first
        | (show Oper.wp _ ⟨_, .alloc 43, _, _, _, _⟩ _ _ _ _; go_simp; have kb : Blk (y.alloc (.cells zeroWd 43)) y.heap.size 43 zeroWd := Blk.new _ _ _; have hyA := (Below.refl _ y).alloc (Nat.le_refl _) (.cells zeroWd 43); have lb : wa.heap.size ≤ y.heap.size := hE.size; (try have dbr : gr < y.heap.size := kr.lt); (try replace kr := kr.below hyA kr.lt); (try have ub : yc.heap.size ≤ y.heap.size := hbc.size); (try replace hbc := hbc.trans (hyA.mono hbc.size)); replace hE := hE.trans (hyA.mono hE.size); clear hyA; generalize y.heap.size = gb at *; generalize y.alloc (.cells zeroWd 43) = y at *; refine hK.out _ _ (HKP9.out _ hE) (fun hHeld => ?_); clear hK K; (try simp only [Act.put, List.setIfInBounds_toArray, List.set_cons_zero, List.set_cons_succ]))
        | (show Oper.wp _ ⟨_, .alloc 34, _, _, _, _⟩ _ _ _ _; go_simp; have kr : Blk (y.alloc (.cells #[.int .i64 0, .int .i64 0, .int .i64 0] 34)) y.heap.size 34 #[.int .i64 0, .int .i64 0, .int .i64 0] := Blk.new _ _ _; have hyA := (Below.refl _ y).alloc (Nat.le_refl _) (.cells #[.int .i64 0, .int .i64 0, .int .i64 0] 34); have lr : wa.heap.size ≤ y.heap.size := hE.size; (try have drb : gb < y.heap.size := kb.lt); (try replace kb := kb.below hyA kb.lt); (try have ur : yc.heap.size ≤ y.heap.size := hbc.size); (try replace hbc := hbc.trans (hyA.mono hbc.size)); replace hE := hE.trans (hyA.mono hE.size); clear hyA; generalize y.heap.size = gr at *; generalize y.alloc (.cells #[.int .i64 0, .int .i64 0, .int .i64 0] 34) = y at *; refine hK.out _ _ (HKP9.out _ hE) (fun hHeld => ?_); clear hK K; (try simp only [Act.put, List.setIfInBounds_toArray, List.set_cons_zero, List.set_cons_succ]))
        | (show Oper.wp _ ⟨_, .call _, _, _, _, _⟩ _ _ _ _; have := kb; have := kr; go_simp; have vb : gb < y.heap.size := kb.lt; have vr : gr < y.heap.size := kr.lt; have hvy := hE.size; go_at_call 23; refine (HCR.out (fun q => ge < q ∧ q ≠ gb ∧ q ≠ gr) y (fun q hq => by show ge < q ∧ q ≠ gb ∧ q ≠ gr; omega) ((hDa.imp (P' := (fun q => ge < q ∧ q ≠ gb ∧ q ≠ gr)) (fun q h1 h2 => by have h8 : ge < q := h2; show ge < q ∧ q ≠ gb ∧ q ≠ gr; omega)).below hE)).mono ?_; rintro e y ⟨ds', rfl, hX, hy⟩; replace hE : Below wa.heap.size wa y := hE.trans (hy.mono hE.size); replace kb := kb.below hy kb.lt; replace kr := kr.below hy kr.lt; obtain ⟨yc, hyc⟩ : ∃ yc, y = yc := ⟨_, rfl⟩; rw [hyc] at hX; have hbc : Below yc.heap.size yc y := (by rw [hyc]; exact Below.refl _ _); have ub : gb < yc.heap.size := (by rw [← hyc]; exact kb.lt); have ur : gr < yc.heap.size := (by rw [← hyc]; exact kr.lt); clear hyc; go_wp2_with fail; refine hK.out _ _ (HKP9.out _ hE) (fun hHeld => ?_); clear hK K; (try simp only [Act.put, List.setIfInBounds_toArray, List.set_cons_zero, List.set_cons_succ]); iterate 3 (apply tkF [7, 8, 9] rfl rfl (by kernel_rfl) (fun _ _ _ h => h) (by rfl); (case hy => (intro w hSw; (try dsimp only at hSw); go_simp; try with_reducible rfl)); (case hS => assumption); (try simp only [Act.put, List.setIfInBounds_toArray, List.set_cons_zero, List.set_cons_succ])))
        | (show Oper.wp _ ⟨_, .call _, _, _, _, _⟩ _ _ _ _; have := kb; go_simp; have vb : gb < y.heap.size := kb.lt; have hvy := hE.size; go_at_call 23; refine (HCR.out (fun q => ge < q ∧ q ≠ gb) y (fun q hq => by show ge < q ∧ q ≠ gb; omega) ((hDa.imp (P' := (fun q => ge < q ∧ q ≠ gb)) (fun q h1 h2 => by have h8 : ge < q := h2; show ge < q ∧ q ≠ gb; omega)).below hE)).mono ?_; rintro e y ⟨ds', rfl, hX, hy⟩; replace hE : Below wa.heap.size wa y := hE.trans (hy.mono hE.size); replace kb := kb.below hy kb.lt; obtain ⟨yc, hyc⟩ : ∃ yc, y = yc := ⟨_, rfl⟩; rw [hyc] at hX; have hbc : Below yc.heap.size yc y := (by rw [hyc]; exact Below.refl _ _); have ub : gb < yc.heap.size := (by rw [← hyc]; exact kb.lt); clear hyc; go_wp2_with fail; refine hK.out _ _ (HKP9.out _ hE) (fun hHeld => ?_); clear hK K; (try simp only [Act.put, List.setIfInBounds_toArray, List.set_cons_zero, List.set_cons_succ]); iterate 3 (apply tkF [7, 8, 9] rfl rfl (by kernel_rfl) (fun _ _ _ h => h) (by rfl); (case hy => (intro w hSw; (try dsimp only at hSw); go_simp; try with_reducible rfl)); (case hS => assumption); (try simp only [Act.put, List.setIfInBounds_toArray, List.set_cons_zero, List.set_cons_succ])))
        | (show Oper.wp _ ⟨_, .call _, _, _, _, _⟩ _ _ _ _; have := kr; go_simp; have vr : gr < y.heap.size := kr.lt; have hvy := hE.size; go_at_call 23; refine (HCR.out (fun q => ge < q ∧ q ≠ gr) y (fun q hq => by show ge < q ∧ q ≠ gr; omega) ((hDa.imp (P' := (fun q => ge < q ∧ q ≠ gr)) (fun q h1 h2 => by have h8 : ge < q := h2; show ge < q ∧ q ≠ gr; omega)).below hE)).mono ?_; rintro e y ⟨ds', rfl, hX, hy⟩; replace hE : Below wa.heap.size wa y := hE.trans (hy.mono hE.size); replace kr := kr.below hy kr.lt; obtain ⟨yc, hyc⟩ : ∃ yc, y = yc := ⟨_, rfl⟩; rw [hyc] at hX; have hbc : Below yc.heap.size yc y := (by rw [hyc]; exact Below.refl _ _); have ur : gr < yc.heap.size := (by rw [← hyc]; exact kr.lt); clear hyc; go_wp2_with fail; refine hK.out _ _ (HKP9.out _ hE) (fun hHeld => ?_); clear hK K; (try simp only [Act.put, List.setIfInBounds_toArray, List.set_cons_zero, List.set_cons_succ]); iterate 3 (apply tkF [7, 8, 9] rfl rfl (by kernel_rfl) (fun _ _ _ h => h) (by rfl); (case hy => (intro w hSw; (try dsimp only at hSw); go_simp; try with_reducible rfl)); (case hS => assumption); (try simp only [Act.put, List.setIfInBounds_toArray, List.set_cons_zero, List.set_cons_succ])))
        | (show Oper.wp _ ⟨_, .call _, _, _, _, _⟩ _ _ _ _; go_simp; have hvy := hE.size; go_at_call 23; refine (HCR.out (fun q => ge < q) y (fun q hq => by show ge < q; omega) ((hDa.imp (P' := (fun q => ge < q)) (fun q h1 h2 => by have h8 : ge < q := h2; show ge < q; omega)).below hE)).mono ?_; rintro e y ⟨ds', rfl, hX, hy⟩; replace hE : Below wa.heap.size wa y := hE.trans (hy.mono hE.size); obtain ⟨yc, hyc⟩ : ∃ yc, y = yc := ⟨_, rfl⟩; rw [hyc] at hX; have hbc : Below yc.heap.size yc y := (by rw [hyc]; exact Below.refl _ _); clear hyc; go_wp2_with fail; refine hK.out _ _ (HKP9.out _ hE) (fun hHeld => ?_); clear hK K; (try simp only [Act.put, List.setIfInBounds_toArray, List.set_cons_zero, List.set_cons_succ]); iterate 3 (apply tkF [7, 8, 9] rfl rfl (by kernel_rfl) (fun _ _ _ h => h) (by rfl); (case hy => (intro w hSw; (try dsimp only at hSw); go_simp; try with_reducible rfl)); (case hS => assumption); (try simp only [Act.put, List.setIfInBounds_toArray, List.set_cons_zero, List.set_cons_succ])))))
       all_goals
        refine doH (i := 12) rfl (by kernel_rfl) (by rfl) (fun K hK => ?_)
        refine wp_store_row 43 _ _ rfl gb ds' rfl rfl 43 zeroWd kb (by rw [hX.size]; kernel_rfl) (by rw [hX.size]; rfl) hX.one ?_
        refine hK.out _ _ (HKP9.out _ (hE.grown (only_setRow (grown_refl y _) ds') hE.size (fun k hk => by injection hk; omega))) (fun hHeld => ?_)
        clear hK K
        (try simp only [Act.put])
        refine doH (i := 13) rfl (by kernel_rfl) (by rfl) (fun K hK => ?_)
        refine wp_store_row 34 _ _ rfl gr #[.int .i64 Re, .int .i64 Ri, .int .i64 Rh] rfl rfl 34 #[.int .i64 0, .int .i64 0, .int .i64 0] (Blk.setRow kr (by omega) ds') info3 rfl (rep_one _ _ _) ?_
        refine hK.out _ _ (HKP9.out _ ((hE.grown (only_setRow (grown_refl y _) ds') hE.size (fun k hk => by injection hk; omega)).grown (only_setRow (grown_refl (y.setRow gb ds') _) #[.int .i64 Re, .int .i64 Ri, .int .i64 Rh]) (hE.grown (only_setRow (grown_refl y _) ds') hE.size (fun k hk => by injection hk; omega)).size (fun k hk => by injection hk; omega))) (fun hHeld => ?_)
        clear hK K
        (try simp only [Act.put])
        refine wpAnyH_done (by kernel_rfl) ?_ _
        go_wp2_with fail
        go_meet
        exact ⟨gb, gr, ds', rfl, rfl, lb, lr, (Blk.setRow (setRow_heap y gb zeroWd ds' 43 (0, 0) kb) (by omega) #[.int .i64 Re, .int .i64 Ri, .int .i64 Rh]), (setRow_heap (y.setRow gb ds') gr #[.int .i64 0, .int .i64 0, .int .i64 0] #[.int .i64 Re, .int .i64 Ri, .int .i64 Rh] 34 (0, 0) (Blk.setRow kr (by omega) ds')), (hX.same (by have := hbc.size; simp; omega) (fun q h1 h2 => by rw [setRow_other _ gr q _ (by first | omega | (have h8 : _ ∧ _ := h2; omega)), setRow_other _ gb q _ (by first | omega | (have h8 : _ ∧ _ := h2; omega))]; exact hbc.block q h1)).imp (fun q _ h2 => by first | exact h2 | exact h2.1), ((hE.grown (only_setRow (grown_refl y _) ds') hE.size (fun k hk => by injection hk; omega)).grown (only_setRow (grown_refl (y.setRow gb ds') _) #[.int .i64 Re, .int .i64 Ri, .int .i64 Rh]) (hE.grown (only_setRow (grown_refl y _) ds') hE.size (fun k hk => by injection hk; omega)).size (fun k hk => by injection hk; omega))⟩
      case rest =>
       obtain ⟨gb, gr, ds', rfl, rfl, lb, lr, kb, kr, hDb, hbB⟩ := hcut
       have hgb9 : ge < gb := by omega
       generalize wc = wb at *
       have hSz1 : cs.size = 22 := HSZ1.out
       have hSz2 : ds.size = 3 := hDa.size
       replace hT := hT.below hbB hT.lt
       replace hE9 := hE9.below hbB hE9.lt
       replace h4 := h4.below hbB h4.lt
       replace h5 := h5.below hbB h5.lt
       replace h7 := h7.below hbB h7.lt
       replace h8 := h8.below hbB h8.lt
       replace hB := hB.trans (hbB.mono hB.size)
       replace ka := ka.below hbB ka.lt
       replace kp := kp.below hbB kp.lt
       replace hSa := hSa.below hbB
       replace hgl := hE9.lt
       have l3 := rep_load3 kp
       have l4 := rep_load3 kr
       clear hDa hbA hbB HKP9 HCR kp kr
       have l1 := st_load hSa.size ka
       have l2 := wd_load hDb.size (Blk.setRow kb (g' := g7) (by omega) cs')
       have HI1 := Lib.hid (show (Tryz.prog.info? 40).map (·.size) = some cs'.size by rw [hSa.size]; exact infoS)
       have HI2 := Lib.hid (show (Tryz.prog.info? 43).map (·.size) = some ds'.size by rw [hDb.size]; kernel_rfl)
       have HN1 := Lib.hid (show cs.size = cs'.size by rw [hSz1, hSa.size])
       have HN2 := Lib.hid (show ds.size = ds'.size by rw [hSz2, hDb.size])
       have HO1 := Lib.hid hSa.one
       have HO2 := Lib.hid hDb.one
       have H7 := Lib.hid h7
       have H8 := Lib.hid h8
       have hsame : ∀ q, ge < q → ((wb.setRow g7 cs').setRow g8 ds').heap[q]? = wb.heap[q]? := fun q h => by rw [setRow_other _ g8 q _ (by omega), setRow_other _ g7 q _ (by omega)]
       have HS1 : Hid (StC ((wb.setRow g7 cs').setRow g8 ds') (fun q => ge < q) cs' (askS W0 ⟨xc, xq, xl, xk, xv⟩)) := Lib.hid (hSa.same (by simp) (fun q _ h => hsame q h))
       have HD1 : Hid (WdC ((wb.setRow g7 cs').setRow g8 ds') (fun q => ge < q) ds' (askS W0 ⟨xc, xq, xl, xk, xv⟩)) := Lib.hid (hDb.same (by simp) (fun q _ h => hsame q h))
       have HB1 : Hid (Below w.heap.size w ((wb.setRow g7 cs').setRow g8 ds')) := Lib.hid ((hB.grown (only_setRow (grown_refl wb (some g7)) cs') hB.size (fun k hk => by injection hk; omega)).grown (only_setRow (grown_refl _ (some g8)) ds') (by have := hB.size; simp; omega) (fun k hk => by injection hk; omega))
       have HT1 := Lib.hid (Blk.setRow (Blk.setRow hT (g' := g7) (by omega) cs') (g' := g8) (by omega) ds')
       have HE1 := Lib.hid (Blk.setRow (Blk.setRow hE9 (g' := g7) (by omega) cs') (g' := g8) (by omega) ds')
       have H41 := Lib.hid (Blk.setRow (Blk.setRow h4 (g' := g7) (by omega) cs') (g' := g8) (by omega) ds')
       have H51 := Lib.hid (Blk.setRow (Blk.setRow h5 (g' := g7) (by omega) cs') (g' := g8) (by omega) ds')
       have n7 : Blk (wb.setRow g7 cs') g7 40 cs' := setRow_heap wb g7 cs cs' 40 (0, 0) h7
       have H71 := Lib.hid (Blk.setRow n7 (g' := g8) (by omega) ds')
       have n8 : Blk ((wb.setRow g7 cs').setRow g8 ds') g8 43 ds' := setRow_heap _ g8 ds ds' 43 (0, 0) (Blk.setRow h8 (by omega) cs')
       have H81 := Lib.hid n8
       clear hsame hT hE9 h4 h5 h7 h8 n7 n8 ka kb hSa hDb hB hSz1 hSz2
       go_wp2_with (first
        | (refine wpList_store_row rfl 40 _ _ rfl g7 cs' rfl rfl 40 cs H7.out HI1.out HN1.out HO1.out ?_)
        | (refine wpList_store_row rfl 43 _ _ rfl g8 ds' rfl rfl 43 ds (H8.out.setRow (by omega) cs') HI2.out HN2.out HO2.out ?_))
       go_roundw
       case rel => exact ⟨k + 1, by omega, by go_num, HB1.out, HT1.out, HE1.out, H41.out, H51.out, cs', ds', H71.out, H81.out, by rw [HPK.out]; exact HS1.out, by rw [HPK.out]; exact HD1.out⟩
       case measure => simp [intOf]; omega
  · obtain rfl : k = n := by omega
    rw [List.take_of_length_le (by have := HL.out; omega)] at hS hD
    have I1 := Lib.hid (show (Tryz.prog.info? 40).map (·.size) = some cs.size by rw [hS.size]; exact infoS)
    have I2 := Lib.hid (show (Tryz.prog.info? 43).map (·.size) = some ds.size by rw [hD.size]; kernel_rfl)
    have N1 := Lib.hid (show zeroSt.size = cs.size by rw [hS.size]; rfl)
    have N2 := Lib.hid (show zeroWd.size = ds.size by rw [hD.size]; rfl)
    have O1 := Lib.hid hS.one
    have O2 := Lib.hid hD.one
    have H4 := Lib.hid (Blk.drew h4)
    have H5 := Lib.hid (Blk.drew h5)
    have HSS := Lib.hid hS
    have HDD := Lib.hid hD
    have HKL : Hid (∀ W, Blk W g7 40 cs → Blk W g8 43 ds → (loadVar 40 ⟨g7, 0, none⟩).run Tryz.prog W = .ok (.agg cs) W ∧ (loadVar 43 ⟨g8, 0, none⟩).run Tryz.prog W = .ok (.agg ds) W) := Lib.hid fun W a b => ⟨st_load hS.size a, wd_load hD.size b⟩
    have H7 := Lib.hid (Blk.drew h7)
    have H8 := Lib.hid (Blk.drew h8)
    have HB9 := Lib.hid hB.drew
    have hdr : Below wr.heap.size wr wr.drew := (Below.refl _ _).drew
    have HS9 := Lib.hid (hS.below hdr)
    have HD9 := Lib.hid (hD.below hdr)
    clear hl7 hl8 hB hT hE9 h4 h5 h7 h8 hS hD hdr
    go_wp2_with fail
    refine wp_region_held_drew (S := fun W => (loadVar 40 ⟨g7, 0, none⟩).run Tryz.prog W = .ok (.agg cs) W ∧ (loadVar 43 ⟨g8, 0, none⟩).run Tryz.prog W = .ok (.agg ds) W) (by kernel_rfl) ?_ (fun hHeld0 => ?_)
    · exact HKL.out _ H7.out H8.out
    generalize wr.drew = we at *
    iterate 2 (apply tkF [0, 1] rfl rfl (by kernel_rfl) (fun _ _ _ h => h) (by rfl); (case hy => (intro w hSw; (try dsimp only at hSw); go_simp; try with_reducible rfl)); (case hS => assumption); (try simp only [Act.put, List.setIfInBounds_toArray, List.set_cons_zero, List.set_cons_succ]))
    refine doH (i := 2) rfl (by kernel_rfl) (by rfl) (fun K hK => ?_)
    refine wp_store_row 40 _ _ rfl g4 cs rfl rfl 40 zeroSt H4.out I1.out N1.out O1.out ?_
    refine hK.out _ _ (HKL.out _ (H7.out.setRow (by omega) _) (H8.out.setRow (by omega) _)) (fun hHeld1 => ?_)
    clear hK K hHeld0
    (try simp only [Act.put])
    refine doH (i := 3) rfl (by kernel_rfl) (by rfl) (fun K hK => ?_)
    refine wp_store_row 43 _ _ rfl g5 ds rfl rfl 43 zeroWd (H5.out.setRow (by omega) cs) I2.out N2.out O2.out ?_
    refine hK.out _ _ (HKL.out _ ((H7.out.setRow (by omega) _).setRow (by omega) _) ((H8.out.setRow (by omega) _).setRow (by omega) _)) (fun hHeld2 => ?_)
    clear hK K hHeld1
    (try simp only [Act.put])
    (apply tkF [4] rfl rfl (by kernel_rfl) (fun _ _ _ h => h) (by rfl); (case hy => (intro w hSw; (try dsimp only at hSw); go_simp; try with_reducible rfl)); (case hS => assumption); (try simp only [Act.put, List.setIfInBounds_toArray, List.set_cons_zero, List.set_cons_succ]))
    refine wpAnyH_done (by kernel_rfl) ?_ _
    go_wp2_with fail
    have n4 : Blk ((we.setRow g4 cs).setRow g5 ds) g4 40 cs := Blk.setRow (setRow_heap we _ zeroSt cs 40 (0, 0) H4.out) (by omega) _
    have n5 : Blk ((we.setRow g4 cs).setRow g5 ds) g5 43 ds := setRow_heap _ _ zeroWd ds 43 (0, 0) (H5.out.setRow (by omega) cs)
    refine bodyPost_ret (results_row_row_tmp rfl _ _ g4 g5 40 43 cs ds _ _ rfl n4 rfl n5 Tryz.underlying40 rfl I1.out Tryz.underlying43 rfl I2.out) rfl ?_
    rw [HRD.out]
    have hsame : ∀ q, ge < q → ((we.setRow g4 cs).setRow g5 ds).heap[q]? = we.heap[q]? := fun q h => by rw [setRow_other _ g5 q _ (by omega), setRow_other _ g4 q _ (by omega)]
    refine ⟨cs, ds, rfl, (HS9.out.same (by simp) (fun q _ h => hsame q h)).imp (fun q _ h => ?_), (HD9.out.same (by simp) (fun q _ h => hsame q h)).imp (fun q _ h => ?_), ?_⟩
    · have h8 : ge < q := h
      show w.heap.size ≤ q
      omega
    · have h8 : ge < q := h
      show w.heap.size ≤ q
      omega
    · have hb1 := HB9.out.grown (only_setRow (grown_refl we (some g4)) cs) HB9.out.size (fun k hk => by injection hk; omega)
      exact hb1.grown (only_setRow (grown_refl _ (some g5)) ds) (by have := HB9.out.size; simp; omega) (fun k hk => by injection hk; omega)
end
end Go.Proofs.YtakgolbgeeoioaaGreat

/-
 Cut: the reference's of layer 11.
-/
import Derived.Test.YtakgolbgeeoioaaGreatYMathYPlayLoads
import Derived.Test.YtakgolbgeeoioaaGreatMRefRtHStepQ
import Derived.Deep.CutRange
namespace Go.Proofs.YtakgolbgeeoioaaGreat
open Go.RowKit

/-- what Cut answers -/
def RCut (oc : Option Addr) (va vb : Value) (tk : List Req) (hd : List Hd) (now : Int) (w : World) (e : Ending) (w' : World) : Prop := ∃ vc', e = .returned (.tuple #[.agg #[va, vb, vc'], .bool (cutW tk hd now).2]) ∧ SlO hdK w' oc hd w.heap.size vc' (cutW tk hd now).1 ∧ Below w.heap.size w w'
section
attribute [-go_sem] loadVar
set_option maxRecDepth 100000 in
set_option maxHeartbeats 4000000 in
theorem rcutW_any (oa ob oc : Option Addr) (N ca M cb P cc : Nat) (tk : List Req) (hd : List Hd) (now : Int) (hN : tk.length = N) (hN2 : N ≤ 64) (hP : hd.length = P) (hP2 : P ≤ 1000) (hPc : P ≤ cc) (hoc : oc = none → cc = 0) (hz : SzQ tk) (w : World) (hA : RowG reqK w oa tk) (hC : RowG hdK w oc hd) :
 Calls Tryz.prog 21 #[.agg #[.slice oa N ca, .slice ob M cb, .slice oc P cc], .agg (emC emp), .int .i64 now] w (RCut oc (.slice oa N ca) (.slice ob M cb) tk hd now w) := by
 have HRC := Lib.hid (show ∀ e w', RCut oc (.slice oa N ca) (.slice ob M cb) tk hd now w e w' = ∃ vc', e = .returned (.tuple #[.agg #[.slice oa N ca, .slice ob M cb, vc'], .bool (cutW tk hd now).2]) ∧ SlO hdK w' oc hd w.heap.size vc' (cutW tk hd now).1 ∧ Below w.heap.size w w' from fun _ _ => rfl)
 have HZ0 : Hid (zN hd 0 = 0 ∧ tN hd 0 = 0) := Lib.hid ⟨rfl, rfl⟩
 have HZS : Hid (∀ k, k < P → ∃ h : Hd, zN hd (k + 1) = h.z ∧ tN hd (k + 1) = h.t ∧ ∃ g o, oc = some ⟨g, o, none⟩ ∧ ∀ W, Below w.heap.size w W → W.cell? ⟨g, o + k * 5 + 1, none⟩ = some (.int .i64 h.z) ∧ W.cell? ⟨g, o + k * 5 + 2, none⟩ = some (.int .i64 h.t)) := Lib.hid fun k hk => by
  obtain ⟨g, o, h1, h2, c0, c1, c2, c3, c4⟩ := hd_at hC (i := k) (by omega)
  refine ⟨hd[k]'(by omega), ?_, ?_, g, o, h1, fun W hW => ?_⟩
  · show (hd.getD k default).z = _
    rw [List.getD_eq_getElem?_getD, List.getElem?_eq_getElem (by omega)]
    rfl
  · show (hd.getD k default).t = _
    rw [List.getD_eq_getElem?_getD, List.getElem?_eq_getElem (by omega)]
    rfl
  · have hc := fun j => hW.cell (p := ⟨g, j, none⟩) h2
    exact ⟨(hc _).trans c1, (hc _).trans c2⟩
 have HCW0 : Hid ((N : Int) = zN hd P → cutW tk hd now = (hd, false)) := Lib.hid fun h => by unfold cutW; rw [hN, hP, if_pos h]
 have HCW1 : Hid (¬ (N : Int) = zN hd P → cutW tk hd now = (hd ++ [headW tk hd now], true)) := Lib.hid fun h => by unfold cutW; rw [hN, hP, if_neg h]
 have hb0 : Below w.heap.size w (((w.alloc (.cells #[.slice oa N ca, .slice ob M cb, .slice oc P cc] 43)).alloc (.cells (emC emp) 55)).alloc (.cells #[.slice none 0 0, .slice none 0 0, .slice none 0 0] 43)) := (((Below.refl _ w).alloc (Nat.le_refl _) _).alloc (by simp) _).alloc (by simp; omega) _
 have k0 : Blk (((w.alloc (.cells #[.slice oa N ca, .slice ob M cb, .slice oc P cc] 43)).alloc (.cells (emC emp) 55)).alloc (.cells #[.slice none 0 0, .slice none 0 0, .slice none 0 0] 43)) w.heap.size 43 #[.slice oa N ca, .slice ob M cb, .slice oc P cc] := ((Blk.new _ _ _).alloc _).alloc _
 have k1 : Blk (((w.alloc (.cells #[.slice oa N ca, .slice ob M cb, .slice oc P cc] 43)).alloc (.cells (emC emp) 55)).alloc (.cells #[.slice none 0 0, .slice none 0 0, .slice none 0 0] 43)) (w.heap.size + 1) 55 (emC emp) := (Blk.new_at (by simp)).alloc _
 have k2 : Blk (((w.alloc (.cells #[.slice oa N ca, .slice ob M cb, .slice oc P cc] 43)).alloc (.cells (emC emp) 55)).alloc (.cells #[.slice none 0 0, .slice none 0 0, .slice none 0 0] 43)) (w.heap.size + 2) 43 #[.slice none 0 0, .slice none 0 0, .slice none 0 0] := Blk.new_at (by simp)
 generalize RCut oc (.slice oa N ca) (.slice ob M cb) tk hd now w = PO at *
 obtain ⟨w0, hw0⟩ : ∃ w0, ((w.alloc (.cells #[.slice oa N ca, .slice ob M cb, .slice oc P cc] 43)).alloc (.cells (emC emp) 55)).alloc (.cells #[.slice none 0 0, .slice none 0 0, .slice none 0 0] 43) = w0 := ⟨_, rfl⟩
 rw [hw0] at hb0 k0 k1 k2
 have HW0 := Lib.hid hw0
 have HK0 := Lib.hid k0
 have HK1 := Lib.hid k1
 have HK2 := Lib.hid k2
 have HB0 := Lib.hid hb0
 clear hw0 k0 k1 k2 hb0
 have HZ := Lib.hid hz
 have HA := Lib.hid hA
 have HC := Lib.hid hC
 have HN := Lib.hid hN
 have HP := Lib.hid hP
 clear hz hA hC hN hP
 go_enter Tryz.func21, Tryz.ntmps21
 go_wp2_with (rw [HW0.out])
 have d2 := sl_hd (w := w0) (p := ⟨w.heap.size, 2, none⟩) (HK0.out.cell 2)
 change (loadVar 38 _).run Tryz.prog w0 = .ok (.slice oc P cc) w0 at d2
 go_loop [8, 9, 10] (fun a b i => ∃ k : Nat, k ≤ P ∧ i = .int .i64 k ∧ a = .int .i64 (zN hd k) ∧ b = .int .i64 (tN hd k)) (fun _ _ i => P - (intOf i).toNat)
 case atStart => exact ⟨0, by omega, rfl, by rw [HZ0.out.1], by rw [HZ0.out.2]⟩
 case round =>
  obtain ⟨k, hk, rfl, rfl, rfl⟩ := hrel
  by_cases hlt : k < P
  · have hlt' : (k : Int) < (P : Int) := by omega
    obtain ⟨h, hz1, ht1, g, o, rfl, hcs⟩ := HZS.out k hlt
    obtain ⟨c1, c2⟩ := hcs w0 HB0.out
    replace c1 := num_load c1
    replace c2 := num_load c2
    have HZ1 := Lib.hid hz1
    have HT1 := Lib.hid ht1
    clear hz1 ht1 hcs
    go_wp2
    go_round
    case rel => exact ⟨k + 1, by omega, by go_num, by rw [HZ1.out], by rw [HT1.out]⟩
    case measure => simp [intOf]; omega
  · obtain rfl : k = P := by omega
    have hlt' : ¬ (k : Int) < (k : Int) := by omega
    obtain ⟨z, hzz⟩ : ∃ z, zN hd k = z := ⟨_, rfl⟩
    obtain ⟨t, htt⟩ : ∃ t, tN hd k = t := ⟨_, rfl⟩
    rw [hzz, htt]
    rw [hzz] at HCW0 HCW1
    have HTT := Lib.hid htt
    have d0 := sl_req (w := w0) (p := ⟨w.heap.size, 0, none⟩) (HK0.out.cell 0)
    change (loadVar 31 _).run Tryz.prog w0 = .ok (.slice oa N ca) w0 at d0
    have d1 := wld_load HK0.out
    clear hlt hzz htt HZS HZ0
    by_cases hq : (N : Int) = z
    · have hq' : ((N : Int) == z) = true := by rw [beq_iff_eq]; exact hq
      have f0 := HK2.out.frozen 0
      have f1 := HK2.out.frozen 1
      have f2 := HK2.out.frozen 2
      have g0 : w0.cell? ⟨w.heap.size + 2, 0, none⟩ = some (.slice none 0 0) := HK2.out.cell 0
      have g1 : w0.cell? ⟨w.heap.size + 2, 1, none⟩ = some (.slice none 0 0) := HK2.out.cell 1
      have g2 : w0.cell? ⟨w.heap.size + 2, 2, none⟩ = some (.slice none 0 0) := HK2.out.cell 2
      go_wp2
      have n2 : Blk (((w0.setCell ⟨w.heap.size + 2, 0, none⟩ (.slice oa N ca)).setCell ⟨w.heap.size + 2, 1, none⟩ (.slice ob M cb)).setCell ⟨w.heap.size + 2, 2, none⟩ (.slice oc k cc)) (w.heap.size + 2) 43 #[.slice oa N ca, .slice ob M cb, .slice oc k cc] := ((HK2.out.set_ 0 (.slice oa N ca)).set_ 1 (.slice ob M cb)).set_ 2 (.slice oc k cc)
      have hB3 := ((HB0.out.setCell (p := ⟨w.heap.size + 2, 0, none⟩) (by show w.heap.size ≤ w.heap.size + 2; omega) (.slice oa N ca)).setCell (p := ⟨w.heap.size + 2, 1, none⟩) (by show w.heap.size ≤ w.heap.size + 2; omega) (.slice ob M cb)).setCell (p := ⟨w.heap.size + 2, 2, none⟩) (by show w.heap.size ≤ w.heap.size + 2; omega) (.slice oc k cc)
      refine bodyPost_ret (results_row_tmp rfl _ _ (w.heap.size + 2) 43 #[.slice oa N ca, .slice ob M cb, .slice oc k cc] _ rfl n2 Tryz.underlying43 rfl (by kernel_rfl)) rfl ?_
      rw [HRC.out, HCW0.out hq]
      exact ⟨.slice oc k cc, rfl, ⟨oc, cc, by rw [HP.out], (show RowG hdK _ oc hd from fun i x hx => by obtain ⟨g, o, h1, h2, h3⟩ := HC.out i x hx; exact ⟨g, o, h1, Nat.lt_of_lt_of_le h2 hB3.size, fun j v hv => (hB3.cell (p := ⟨g, _, none⟩) h2).trans (h3 j v hv)⟩), by rw [HP.out]; exact hPc, hoc, .inl ⟨rfl, rfl⟩⟩, hB3⟩
    · have hq' : ((N : Int) == z) = false := by rw [beq_eq_false_iff_ne]; exact hq
      have HPQ : Hid (∀ W, Below w.heap.size w W → Calls Tryz.prog 38 #[.agg #[.slice oa N ca, .slice ob M cb, .slice oc k cc], .int .i64 N] W fun e w' => ∃ op cp, e = .returned (.slice op (lastK (prsQ tk) (prsQ tk).length).length cp) ∧ Prs w' op (lastK (prsQ tk) (prsQ tk).length) ∧ Below W.heap.size W w') := Lib.hid fun W hW => by
       have := rpairsW_any oa N ca N (.slice ob M cb) (.slice oc k cc) tk HN.out (Nat.le_refl _) (by omega) W (HA.out.below hW)
       rw [List.take_of_length_le (by rw [HN.out]; exact Nat.le_refl _)] at this
       refine this.mono ?_
       rintro e w' ⟨v, rfl, hv, hb⟩
       obtain ⟨op, cp, rfl, _, hp⟩ := hv.form
       exact ⟨op, cp, rfl, hp, hb⟩
      have HLQ : Hid ((lastK (prsQ tk) (prsQ tk).length).length ≤ 64 ∧ FitP (lastK (prsQ tk) (prsQ tk).length)) := Lib.hid (by
       have h1 := lastK_len (prsQ tk) (prsQ tk).length
       have h2 := prsQ_len tk
       rw [HN.out] at h2
       refine ⟨by omega, fun x hx => ?_⟩
       have := prsQ_fit HZ.out N
       rw [List.take_of_length_le (by rw [HN.out]; exact Nat.le_refl _)] at this
       exact this x (lastK_mem _ _ (Nat.le_refl _) x hx))
      have HMR : Hid (rtL (lastK (prsQ tk) (prsQ tk).length) = mapR tk) := Lib.hid (mapR_eq tk).symm
      have HHW : Hid (headW tk hd now = ⟨(k : Int) + 1, N, max t now, rootM (tk.map leafQ), mapR tk⟩) := Lib.hid (by unfold headW; rw [HP.out, HN.out, HTT.out])
      have HLV : Hid (∀ W, Below w.heap.size w W → Calls Tryz.prog 33 #[.agg #[.slice oa N ca, .slice ob M cb, .slice oc k cc], .int .i64 N] W fun e w' => ∃ ol cl, e = .returned (.slice ol N cl) ∧ N ≤ cl ∧ Strs w' ol (tk.map leafQ) ∧ Below W.heap.size W w') := Lib.hid fun W hW => by
       have := rleavesW_any oa N ca N (.slice ob M cb) (.slice oc k cc) tk HN.out (Nat.le_refl _) (by omega) HZ.out W (HA.out.below hW)
       rw [List.take_of_length_le (by rw [HN.out]; exact Nat.le_refl _)] at this
       refine this.mono ?_
       rintro e w' ⟨v, rfl, hv, hb⟩
       obtain ⟨ol, cl, rfl, hs, hc⟩ := hv.formY
       rw [List.length_map, HN.out] at hc ⊢
       exact ⟨ol, cl, rfl, hc, hs, hb⟩
      have HR4 : Hid (∀ ol cl, N ≤ cl → ∀ W, Strs W ol (tk.map leafQ) → Calls Tryz.prog 51 #[.slice ol N cl] W fun e w' => e = .returned (.string (rootM (tk.map leafQ))) ∧ Below W.heap.size W w') := Lib.hid fun ol cl hc W hS =>
       rroot_any N ol cl (tk.map leafQ) (by rw [List.length_map]; exact HN.out) hN2 hc (fun x hx => by obtain ⟨r, _, rfl⟩ := List.mem_map.1 hx; unfold leafQ leafM; rw [hB_size]; decide) W hS
      generalize rootM (tk.map leafQ) = RM at *
      generalize tk.map leafQ = LQ at *
      generalize hL : lastK (prsQ tk) (prsQ tk).length = L at *
      generalize mapR tk = MR at *
      generalize headW tk hd now = HW at *
      clear hL
      go_wp2_with fail
      refine (HPQ.out _ HB0.out).mono ?_
      rintro e w1 ⟨op, cp, rfl, hp1, hb1⟩
      have hB1 := HB0.out.trans (hb1.mono HB0.out.size)
      have hK0 := HK0.out.below hb1 HK0.out.lt
      have hK1 := HK1.out.below hb1 HK1.out.lt
      have hK2 := HK2.out.below hb1 HK2.out.lt
      have HP1 := Lib.hid hp1
      have HB1 := Lib.hid hB1
      have HK01 := Lib.hid hK0
      have HK11 := Lib.hid hK1
      have HK21 := Lib.hid hK2
      clear hp1 hB1 hK0 hK1 hK2 hb1 d0 d1 d2 HPQ HK0 HK1 HK2 HB0 HW0
      obtain ⟨m, hm⟩ : ∃ m, L.length = m := ⟨_, rfl⟩
      have HPT : Hid (∀ W, Below w1.heap.size w1 W → Calls Tryz.prog 53 #[.slice op m cp] W fun e w' => ∃ oq cq, e = .returned (.slice oq m cq) ∧ Strs w' oq (pthL L) ∧ Below W.heap.size W w') := Lib.hid fun W hW => paths0_any op cp m L hm (by have := HLQ.out.1; omega) HLQ.out.2 W (HP1.out.below hW)
      have HR5 : Hid (∀ oq cq W, Below w1.heap.size w1 W → Strs W oq (pthL L) → Calls Tryz.prog 52 #[.agg (emC emp), .slice op m cp, .slice oq m cq, .int .i64 0] W fun e w' => e = .returned (.string MR) ∧ Below W.heap.size W w') := Lib.hid fun oq cq W hW hS => by
       rw [← HMR.out]
       exact root0_any op oq m cp cq L hm (by have := HLQ.out.1; omega) HLQ.out.2 W (HP1.out.below hW) hS
      have HLV1 : Hid (∀ W, Below w1.heap.size w1 W → Calls Tryz.prog 33 #[.agg #[.slice oa N ca, .slice ob M cb, .slice oc k cc], .int .i64 N] W fun e w' => ∃ ol cl, e = .returned (.slice ol N cl) ∧ N ≤ cl ∧ Strs w' ol LQ ∧ Below W.heap.size W w') := Lib.hid fun W hW => HLV.out W (HB1.out.trans (hW.mono HB1.out.size))
      clear HLV
      have HLV := HLV1
      have HKP : Hid (∀ W, Below w1.heap.size w1 W → ((loadVar 38 ⟨w.heap.size, 2, none⟩).run Tryz.prog W = .ok (.slice oc k cc) W ∧ (loadVar 43 ⟨w.heap.size, 0, none⟩).run Tryz.prog W = .ok (.agg #[.slice oa N ca, .slice ob M cb, .slice oc k cc]) W ∧ (loadVar 55 ⟨w.heap.size + 1, 0, none⟩).run Tryz.prog W = .ok (.agg (emC emp)) W) ∧ Below w1.heap.size w1 W) :=
       Lib.hid fun W hW => ⟨⟨sl_hd ((HK01.out.below hW HK01.out.lt).cell 2), wld_load (HK01.out.below hW HK01.out.lt), em_load (HK11.out.below hW HK11.out.lt)⟩, hW⟩
      rw [hm]
      clear HLV1 hm HMR HLQ
      generalize pthL L = PL at *
      generalize emC emp = EM at *
      have e5 : IntKind.i64.wrap ((k : Int) + 1) = (k : Int) + 1 := by rw [IntKind.wrap_i64]; omega
      go_upto_region 11 with fail
      go_cut [13] from 43 to 60 (fun s13 wx => ∃ gp, s13 = .pointer (some ⟨gp, 0, none⟩) ∧ w1.heap.size ≤ gp ∧ Blk wx gp 51 HW.enc.toArray ∧ Below w1.heap.size w1 wx)
      case first =>
       refine wp_region_held_drew (S := fun W => ((loadVar 38 ⟨w.heap.size, 2, none⟩).run Tryz.prog W = .ok (.slice oc k cc) W ∧ (loadVar 43 ⟨w.heap.size, 0, none⟩).run Tryz.prog W = .ok (.agg #[.slice oa N ca, .slice ob M cb, .slice oc k cc]) W ∧ (loadVar 55 ⟨w.heap.size + 1, 0, none⟩).run Tryz.prog W = .ok (.agg EM) W) ∧ Below w1.heap.size w1 W) (by kernel_rfl) ?_ (fun hHeld0 => ?_)
       · exact HKP.out _ (Below.refl _ _).drew
       have hE0 : Below w1.heap.size w1 w1.drew := (Below.refl _ _).drew
       generalize w1.drew = y0 at *
       iterate 13 (apply tkF [0, 1, 2, 3, 4, 5, 6, 7, 8, 9, 12, 13, 14] rfl rfl (by kernel_rfl) (fun _ _ _ h => h) (by rfl); (case hy => (intro w hSw; (try dsimp only at hSw); go_simp; try with_reducible rfl)); (case hS => assumption); (try simp only [Act.put, List.setIfInBounds_toArray, List.set_cons_zero, List.set_cons_succ]))
       refine doH2 (i := 10) (j := 18) rfl rfl (by kernel_rfl) (by rfl) (by rfl) (fun K hK => ?_) (fun K hK => ?_)
       · go_simp
         (go_at_call 33; refine (HLV.out _ hE0).mono ?_; rintro e y1 ⟨ol, cl, rfl, hcl, hs1, hy⟩; have hE1 : Below w1.heap.size w1 y1 := hE0.trans (hy.mono hE0.size))
         go_wp2_with fail
         refine hK.out _ _ (HKP.out _ hE1) (fun hHeld => ?_)
         clear hK K
         (try simp only [Act.put, List.setIfInBounds_toArray, List.set_cons_zero, List.set_cons_succ])
         refine doH2 (i := 11) (j := 18) rfl rfl (by kernel_rfl) (by rfl) (by rfl) (fun K hK => ?_) (fun K hK => ?_)
         · go_simp
           (go_at_call 51; refine (HR4.out ol cl hcl _ hs1).mono ?_; rintro e y2 ⟨rfl, hy⟩; have hE2 : Below w1.heap.size w1 y2 := hE1.trans (hy.mono hE1.size))
           go_wp2_with fail
           refine hK.out _ _ (HKP.out _ hE2) (fun hHeld => ?_)
           clear hK K
           (try simp only [Act.put, List.setIfInBounds_toArray, List.set_cons_zero, List.set_cons_succ])
           refine doH2 (i := 15) (j := 18) rfl rfl (by kernel_rfl) (by rfl) (by rfl) (fun K hK => ?_) (fun K hK => ?_)
           · go_simp
             (go_at_call 53; refine (HPT.out _ hE2).mono ?_; rintro e y3 ⟨oq, cq, rfl, hs2, hy⟩; have hE3 : Below w1.heap.size w1 y3 := hE2.trans (hy.mono hE2.size))
             go_wp2_with fail
             refine hK.out _ _ (HKP.out _ hE3) (fun hHeld => ?_)
             clear hK K
             (try simp only [Act.put, List.setIfInBounds_toArray, List.set_cons_zero, List.set_cons_succ])
             refine doH2 (i := 16) (j := 18) rfl rfl (by kernel_rfl) (by rfl) (by rfl) (fun K hK => ?_) (fun K hK => ?_)
             · go_simp
               (go_at_call 52; refine (HR5.out oq cq _ hE3 hs2).mono ?_; rintro e y4 ⟨rfl, hy⟩; have hE4 : Below w1.heap.size w1 y4 := hE3.trans (hy.mono hE3.size))
               go_wp2_with fail
               refine hK.out _ _ (HKP.out _ hE4) (fun hHeld => ?_)
               clear hK K
               (try simp only [Act.put, List.setIfInBounds_toArray, List.set_cons_zero, List.set_cons_succ])
               (apply tkF [17] rfl rfl (by kernel_rfl) (fun _ _ _ h => h) (by rfl); (case hy => (intro w hSw; (try dsimp only at hSw); go_simp; try with_reducible rfl)); (case hS => assumption); (try simp only [Act.put, List.setIfInBounds_toArray, List.set_cons_zero, List.set_cons_succ]))
               refine doH (i := 18) rfl (by kernel_rfl) (by rfl) (fun K hK => ?_)
               go_simp
               have hA : Blk (y4.alloc (.cells #[.int .i64 0, .int .i64 0, .int .i64 0, .string ⟨#[]⟩, .string ⟨#[]⟩] 51)) y4.heap.size 51 #[.int .i64 0, .int .i64 0, .int .i64 0, .string ⟨#[]⟩, .string ⟨#[]⟩] := Blk.new _ _ _
               have hyA := (Below.refl _ y4).alloc (Nat.le_refl _) (.cells #[.int .i64 0, .int .i64 0, .int .i64 0, .string ⟨#[]⟩, .string ⟨#[]⟩] 51)
               have hE5 := hE4.trans (hyA.mono hE4.size)
               have hgp : w1.heap.size ≤ y4.heap.size := hE4.size
               generalize y4.alloc (.cells #[.int .i64 0, .int .i64 0, .int .i64 0, .string ⟨#[]⟩, .string ⟨#[]⟩] 51) = y5 at *
               generalize y4.heap.size = gp at *
               refine hK.out _ _ (HKP.out _ hE5) (fun hHeld => ?_)
               clear hK K
               (try simp only [Act.put, List.setIfInBounds_toArray, List.set_cons_zero, List.set_cons_succ])
               have s0 := hA.cell 0
               have s1 := hA.cell 1
               have s2 := hA.cell 2
               have s3 := hA.cell 3
               have s4 := hA.cell 4
               have f0 := hA.frozen 0
               have f1 := hA.frozen 1
               have f2 := hA.frozen 2
               have f3 := hA.frozen 3
               have f4 := hA.frozen 4
               refine doH (i := 19) rfl (by kernel_rfl) (by rfl) (fun K hK => ?_)
               go_simp
               have hA5 : Blk (((((y5.setCell ⟨gp, 0, none⟩ (.int .i64 ((k : Int) + 1))).setCell ⟨gp, 1, none⟩ (.int .i64 N)).setCell ⟨gp, 2, none⟩ (.int .i64 (max t now))).setCell ⟨gp, 3, none⟩ (.string RM)).setCell ⟨gp, 4, none⟩ (.string MR)) gp 51 #[.int .i64 ((k : Int) + 1), .int .i64 N, .int .i64 (max t now), .string RM, .string MR] := (((((hA.set_ 0 (.int .i64 ((k : Int) + 1))).set_ 1 (.int .i64 N)).set_ 2 (.int .i64 (max t now))).set_ 3 (.string RM)).set_ 4 (.string MR))
               have hE99 := (((((hE5.setCell (p := ⟨gp, 0, none⟩) hgp (.int .i64 ((k : Int) + 1))).setCell (p := ⟨gp, 1, none⟩) hgp (.int .i64 N)).setCell (p := ⟨gp, 2, none⟩) hgp (.int .i64 (max t now))).setCell (p := ⟨gp, 3, none⟩) hgp (.string RM)).setCell (p := ⟨gp, 4, none⟩) hgp (.string MR))
               refine hK.out _ _ (HKP.out _ hE99) (fun hHeld => ?_)
               clear hK K
               (try simp only [Act.put, List.setIfInBounds_toArray, List.set_cons_zero, List.set_cons_succ])
               refine wpAnyH_done (by kernel_rfl) ?_ _
               go_wp2_with fail
               go_meet
               exact ⟨gp, rfl, hgp, by rw [HHW.out]; exact hA5, hE99⟩
             · go_simp
               have hA : Blk (y3.alloc (.cells #[.int .i64 0, .int .i64 0, .int .i64 0, .string ⟨#[]⟩, .string ⟨#[]⟩] 51)) y3.heap.size 51 #[.int .i64 0, .int .i64 0, .int .i64 0, .string ⟨#[]⟩, .string ⟨#[]⟩] := Blk.new _ _ _
               have hyA := (Below.refl _ y3).alloc (Nat.le_refl _) (.cells #[.int .i64 0, .int .i64 0, .int .i64 0, .string ⟨#[]⟩, .string ⟨#[]⟩] 51)
               have hE6 := hE3.trans (hyA.mono hE3.size)
               have hgp : w1.heap.size ≤ y3.heap.size := hE3.size
               have hs2 := hs2.below hyA
               generalize y3.alloc (.cells #[.int .i64 0, .int .i64 0, .int .i64 0, .string ⟨#[]⟩, .string ⟨#[]⟩] 51) = y6 at *
               generalize y3.heap.size = gp at *
               refine hK.out _ _ (HKP.out _ hE6) (fun hHeld => ?_)
               clear hK K
               (try simp only [Act.put, List.setIfInBounds_toArray, List.set_cons_zero, List.set_cons_succ])
               refine doH (i := 16) rfl (by kernel_rfl) (by rfl) (fun K hK => ?_)
               go_simp
               (go_at_call 52; refine (HR5.out oq cq _ hE6 hs2).mono ?_; rintro e y7 ⟨rfl, hy⟩; have hE7 : Below w1.heap.size w1 y7 := hE6.trans (hy.mono hE6.size))
               have hA := hA.below hy hA.lt
               go_wp2_with fail
               refine hK.out _ _ (HKP.out _ hE7) (fun hHeld => ?_)
               clear hK K
               (try simp only [Act.put, List.setIfInBounds_toArray, List.set_cons_zero, List.set_cons_succ])
               (apply tkF [17] rfl rfl (by kernel_rfl) (fun _ _ _ h => h) (by rfl); (case hy => (intro w hSw; (try dsimp only at hSw); go_simp; try with_reducible rfl)); (case hS => assumption); (try simp only [Act.put, List.setIfInBounds_toArray, List.set_cons_zero, List.set_cons_succ]))
               have s0 := hA.cell 0
               have s1 := hA.cell 1
               have s2 := hA.cell 2
               have s3 := hA.cell 3
               have s4 := hA.cell 4
               have f0 := hA.frozen 0
               have f1 := hA.frozen 1
               have f2 := hA.frozen 2
               have f3 := hA.frozen 3
               have f4 := hA.frozen 4
               refine doH (i := 19) rfl (by kernel_rfl) (by rfl) (fun K hK => ?_)
               go_simp
               have hA5 : Blk (((((y7.setCell ⟨gp, 0, none⟩ (.int .i64 ((k : Int) + 1))).setCell ⟨gp, 1, none⟩ (.int .i64 N)).setCell ⟨gp, 2, none⟩ (.int .i64 (max t now))).setCell ⟨gp, 3, none⟩ (.string RM)).setCell ⟨gp, 4, none⟩ (.string MR)) gp 51 #[.int .i64 ((k : Int) + 1), .int .i64 N, .int .i64 (max t now), .string RM, .string MR] := (((((hA.set_ 0 (.int .i64 ((k : Int) + 1))).set_ 1 (.int .i64 N)).set_ 2 (.int .i64 (max t now))).set_ 3 (.string RM)).set_ 4 (.string MR))
               have hE99 := (((((hE7.setCell (p := ⟨gp, 0, none⟩) hgp (.int .i64 ((k : Int) + 1))).setCell (p := ⟨gp, 1, none⟩) hgp (.int .i64 N)).setCell (p := ⟨gp, 2, none⟩) hgp (.int .i64 (max t now))).setCell (p := ⟨gp, 3, none⟩) hgp (.string RM)).setCell (p := ⟨gp, 4, none⟩) hgp (.string MR))
               refine hK.out _ _ (HKP.out _ hE99) (fun hHeld => ?_)
               clear hK K
               (try simp only [Act.put, List.setIfInBounds_toArray, List.set_cons_zero, List.set_cons_succ])
               refine wpAnyH_done (by kernel_rfl) ?_ _
               go_wp2_with fail
               go_meet
               exact ⟨gp, rfl, hgp, by rw [HHW.out]; exact hA5, hE99⟩
           · go_simp
             have hA : Blk (y2.alloc (.cells #[.int .i64 0, .int .i64 0, .int .i64 0, .string ⟨#[]⟩, .string ⟨#[]⟩] 51)) y2.heap.size 51 #[.int .i64 0, .int .i64 0, .int .i64 0, .string ⟨#[]⟩, .string ⟨#[]⟩] := Blk.new _ _ _
             have hyA := (Below.refl _ y2).alloc (Nat.le_refl _) (.cells #[.int .i64 0, .int .i64 0, .int .i64 0, .string ⟨#[]⟩, .string ⟨#[]⟩] 51)
             have hE8 := hE2.trans (hyA.mono hE2.size)
             have hgp : w1.heap.size ≤ y2.heap.size := hE2.size
             generalize y2.alloc (.cells #[.int .i64 0, .int .i64 0, .int .i64 0, .string ⟨#[]⟩, .string ⟨#[]⟩] 51) = y8 at *
             generalize y2.heap.size = gp at *
             refine hK.out _ _ (HKP.out _ hE8) (fun hHeld => ?_)
             clear hK K
             (try simp only [Act.put, List.setIfInBounds_toArray, List.set_cons_zero, List.set_cons_succ])
             refine doH (i := 15) rfl (by kernel_rfl) (by rfl) (fun K hK => ?_)
             go_simp
             (go_at_call 53; refine (HPT.out _ hE8).mono ?_; rintro e y9 ⟨oq, cq, rfl, hs2, hy⟩; have hE9 : Below w1.heap.size w1 y9 := hE8.trans (hy.mono hE8.size))
             have hA := hA.below hy hA.lt
             go_wp2_with fail
             refine hK.out _ _ (HKP.out _ hE9) (fun hHeld => ?_)
             clear hK K
             (try simp only [Act.put, List.setIfInBounds_toArray, List.set_cons_zero, List.set_cons_succ])
             refine doH (i := 16) rfl (by kernel_rfl) (by rfl) (fun K hK => ?_)
             go_simp
             (go_at_call 52; refine (HR5.out oq cq _ hE9 hs2).mono ?_; rintro e y10 ⟨rfl, hy⟩; have hE10 : Below w1.heap.size w1 y10 := hE9.trans (hy.mono hE9.size))
             have hA := hA.below hy hA.lt
             go_wp2_with fail
             refine hK.out _ _ (HKP.out _ hE10) (fun hHeld => ?_)
             clear hK K
             (try simp only [Act.put, List.setIfInBounds_toArray, List.set_cons_zero, List.set_cons_succ])
             (apply tkF [17] rfl rfl (by kernel_rfl) (fun _ _ _ h => h) (by rfl); (case hy => (intro w hSw; (try dsimp only at hSw); go_simp; try with_reducible rfl)); (case hS => assumption); (try simp only [Act.put, List.setIfInBounds_toArray, List.set_cons_zero, List.set_cons_succ]))
             have s0 := hA.cell 0
             have s1 := hA.cell 1
             have s2 := hA.cell 2
             have s3 := hA.cell 3
             have s4 := hA.cell 4
             have f0 := hA.frozen 0
             have f1 := hA.frozen 1
             have f2 := hA.frozen 2
             have f3 := hA.frozen 3
             have f4 := hA.frozen 4
             refine doH (i := 19) rfl (by kernel_rfl) (by rfl) (fun K hK => ?_)
             go_simp
             have hA5 : Blk (((((y10.setCell ⟨gp, 0, none⟩ (.int .i64 ((k : Int) + 1))).setCell ⟨gp, 1, none⟩ (.int .i64 N)).setCell ⟨gp, 2, none⟩ (.int .i64 (max t now))).setCell ⟨gp, 3, none⟩ (.string RM)).setCell ⟨gp, 4, none⟩ (.string MR)) gp 51 #[.int .i64 ((k : Int) + 1), .int .i64 N, .int .i64 (max t now), .string RM, .string MR] := (((((hA.set_ 0 (.int .i64 ((k : Int) + 1))).set_ 1 (.int .i64 N)).set_ 2 (.int .i64 (max t now))).set_ 3 (.string RM)).set_ 4 (.string MR))
             have hE99 := (((((hE10.setCell (p := ⟨gp, 0, none⟩) hgp (.int .i64 ((k : Int) + 1))).setCell (p := ⟨gp, 1, none⟩) hgp (.int .i64 N)).setCell (p := ⟨gp, 2, none⟩) hgp (.int .i64 (max t now))).setCell (p := ⟨gp, 3, none⟩) hgp (.string RM)).setCell (p := ⟨gp, 4, none⟩) hgp (.string MR))
             refine hK.out _ _ (HKP.out _ hE99) (fun hHeld => ?_)
             clear hK K
             (try simp only [Act.put, List.setIfInBounds_toArray, List.set_cons_zero, List.set_cons_succ])
             refine wpAnyH_done (by kernel_rfl) ?_ _
             go_wp2_with fail
             go_meet
             exact ⟨gp, rfl, hgp, by rw [HHW.out]; exact hA5, hE99⟩
         · go_simp
           have hA : Blk (y1.alloc (.cells #[.int .i64 0, .int .i64 0, .int .i64 0, .string ⟨#[]⟩, .string ⟨#[]⟩] 51)) y1.heap.size 51 #[.int .i64 0, .int .i64 0, .int .i64 0, .string ⟨#[]⟩, .string ⟨#[]⟩] := Blk.new _ _ _
           have hyA := (Below.refl _ y1).alloc (Nat.le_refl _) (.cells #[.int .i64 0, .int .i64 0, .int .i64 0, .string ⟨#[]⟩, .string ⟨#[]⟩] 51)
           have hE11 := hE1.trans (hyA.mono hE1.size)
           have hgp : w1.heap.size ≤ y1.heap.size := hE1.size
           have hs1 := hs1.below hyA
           generalize y1.alloc (.cells #[.int .i64 0, .int .i64 0, .int .i64 0, .string ⟨#[]⟩, .string ⟨#[]⟩] 51) = y11 at *
           generalize y1.heap.size = gp at *
           refine hK.out _ _ (HKP.out _ hE11) (fun hHeld => ?_)
           clear hK K
           (try simp only [Act.put, List.setIfInBounds_toArray, List.set_cons_zero, List.set_cons_succ])
           refine doH (i := 11) rfl (by kernel_rfl) (by rfl) (fun K hK => ?_)
           go_simp
           (go_at_call 51; refine (HR4.out ol cl hcl _ hs1).mono ?_; rintro e y12 ⟨rfl, hy⟩; have hE12 : Below w1.heap.size w1 y12 := hE11.trans (hy.mono hE11.size))
           have hA := hA.below hy hA.lt
           go_wp2_with fail
           refine hK.out _ _ (HKP.out _ hE12) (fun hHeld => ?_)
           clear hK K
           (try simp only [Act.put, List.setIfInBounds_toArray, List.set_cons_zero, List.set_cons_succ])
           refine doH (i := 15) rfl (by kernel_rfl) (by rfl) (fun K hK => ?_)
           go_simp
           (go_at_call 53; refine (HPT.out _ hE12).mono ?_; rintro e y13 ⟨oq, cq, rfl, hs2, hy⟩; have hE13 : Below w1.heap.size w1 y13 := hE12.trans (hy.mono hE12.size))
           have hA := hA.below hy hA.lt
           go_wp2_with fail
           refine hK.out _ _ (HKP.out _ hE13) (fun hHeld => ?_)
           clear hK K
           (try simp only [Act.put, List.setIfInBounds_toArray, List.set_cons_zero, List.set_cons_succ])
           refine doH (i := 16) rfl (by kernel_rfl) (by rfl) (fun K hK => ?_)
           go_simp
           (go_at_call 52; refine (HR5.out oq cq _ hE13 hs2).mono ?_; rintro e y14 ⟨rfl, hy⟩; have hE14 : Below w1.heap.size w1 y14 := hE13.trans (hy.mono hE13.size))
           have hA := hA.below hy hA.lt
           go_wp2_with fail
           refine hK.out _ _ (HKP.out _ hE14) (fun hHeld => ?_)
           clear hK K
           (try simp only [Act.put, List.setIfInBounds_toArray, List.set_cons_zero, List.set_cons_succ])
           (apply tkF [17] rfl rfl (by kernel_rfl) (fun _ _ _ h => h) (by rfl); (case hy => (intro w hSw; (try dsimp only at hSw); go_simp; try with_reducible rfl)); (case hS => assumption); (try simp only [Act.put, List.setIfInBounds_toArray, List.set_cons_zero, List.set_cons_succ]))
           have s0 := hA.cell 0
           have s1 := hA.cell 1
           have s2 := hA.cell 2
           have s3 := hA.cell 3
           have s4 := hA.cell 4
           have f0 := hA.frozen 0
           have f1 := hA.frozen 1
           have f2 := hA.frozen 2
           have f3 := hA.frozen 3
           have f4 := hA.frozen 4
           refine doH (i := 19) rfl (by kernel_rfl) (by rfl) (fun K hK => ?_)
           go_simp
           have hA5 : Blk (((((y14.setCell ⟨gp, 0, none⟩ (.int .i64 ((k : Int) + 1))).setCell ⟨gp, 1, none⟩ (.int .i64 N)).setCell ⟨gp, 2, none⟩ (.int .i64 (max t now))).setCell ⟨gp, 3, none⟩ (.string RM)).setCell ⟨gp, 4, none⟩ (.string MR)) gp 51 #[.int .i64 ((k : Int) + 1), .int .i64 N, .int .i64 (max t now), .string RM, .string MR] := (((((hA.set_ 0 (.int .i64 ((k : Int) + 1))).set_ 1 (.int .i64 N)).set_ 2 (.int .i64 (max t now))).set_ 3 (.string RM)).set_ 4 (.string MR))
           have hE99 := (((((hE14.setCell (p := ⟨gp, 0, none⟩) hgp (.int .i64 ((k : Int) + 1))).setCell (p := ⟨gp, 1, none⟩) hgp (.int .i64 N)).setCell (p := ⟨gp, 2, none⟩) hgp (.int .i64 (max t now))).setCell (p := ⟨gp, 3, none⟩) hgp (.string RM)).setCell (p := ⟨gp, 4, none⟩) hgp (.string MR))
           refine hK.out _ _ (HKP.out _ hE99) (fun hHeld => ?_)
           clear hK K
           (try simp only [Act.put, List.setIfInBounds_toArray, List.set_cons_zero, List.set_cons_succ])
           refine wpAnyH_done (by kernel_rfl) ?_ _
           go_wp2_with fail
           go_meet
           exact ⟨gp, rfl, hgp, by rw [HHW.out]; exact hA5, hE99⟩
       · go_simp
         have hA : Blk (y0.alloc (.cells #[.int .i64 0, .int .i64 0, .int .i64 0, .string ⟨#[]⟩, .string ⟨#[]⟩] 51)) y0.heap.size 51 #[.int .i64 0, .int .i64 0, .int .i64 0, .string ⟨#[]⟩, .string ⟨#[]⟩] := Blk.new _ _ _
         have hyA := (Below.refl _ y0).alloc (Nat.le_refl _) (.cells #[.int .i64 0, .int .i64 0, .int .i64 0, .string ⟨#[]⟩, .string ⟨#[]⟩] 51)
         have hE15 := hE0.trans (hyA.mono hE0.size)
         have hgp : w1.heap.size ≤ y0.heap.size := hE0.size
         generalize y0.alloc (.cells #[.int .i64 0, .int .i64 0, .int .i64 0, .string ⟨#[]⟩, .string ⟨#[]⟩] 51) = y15 at *
         generalize y0.heap.size = gp at *
         refine hK.out _ _ (HKP.out _ hE15) (fun hHeld => ?_)
         clear hK K
         (try simp only [Act.put, List.setIfInBounds_toArray, List.set_cons_zero, List.set_cons_succ])
         refine doH (i := 10) rfl (by kernel_rfl) (by rfl) (fun K hK => ?_)
         go_simp
         (go_at_call 33; refine (HLV.out _ hE15).mono ?_; rintro e y16 ⟨ol, cl, rfl, hcl, hs1, hy⟩; have hE16 : Below w1.heap.size w1 y16 := hE15.trans (hy.mono hE15.size))
         have hA := hA.below hy hA.lt
         go_wp2_with fail
         refine hK.out _ _ (HKP.out _ hE16) (fun hHeld => ?_)
         clear hK K
         (try simp only [Act.put, List.setIfInBounds_toArray, List.set_cons_zero, List.set_cons_succ])
         refine doH (i := 11) rfl (by kernel_rfl) (by rfl) (fun K hK => ?_)
         go_simp
         (go_at_call 51; refine (HR4.out ol cl hcl _ hs1).mono ?_; rintro e y17 ⟨rfl, hy⟩; have hE17 : Below w1.heap.size w1 y17 := hE16.trans (hy.mono hE16.size))
         have hA := hA.below hy hA.lt
         go_wp2_with fail
         refine hK.out _ _ (HKP.out _ hE17) (fun hHeld => ?_)
         clear hK K
         (try simp only [Act.put, List.setIfInBounds_toArray, List.set_cons_zero, List.set_cons_succ])
         refine doH (i := 15) rfl (by kernel_rfl) (by rfl) (fun K hK => ?_)
         go_simp
         (go_at_call 53; refine (HPT.out _ hE17).mono ?_; rintro e y18 ⟨oq, cq, rfl, hs2, hy⟩; have hE18 : Below w1.heap.size w1 y18 := hE17.trans (hy.mono hE17.size))
         have hA := hA.below hy hA.lt
         go_wp2_with fail
         refine hK.out _ _ (HKP.out _ hE18) (fun hHeld => ?_)
         clear hK K
         (try simp only [Act.put, List.setIfInBounds_toArray, List.set_cons_zero, List.set_cons_succ])
         refine doH (i := 16) rfl (by kernel_rfl) (by rfl) (fun K hK => ?_)
         go_simp
         (go_at_call 52; refine (HR5.out oq cq _ hE18 hs2).mono ?_; rintro e y19 ⟨rfl, hy⟩; have hE19 : Below w1.heap.size w1 y19 := hE18.trans (hy.mono hE18.size))
         have hA := hA.below hy hA.lt
         go_wp2_with fail
         refine hK.out _ _ (HKP.out _ hE19) (fun hHeld => ?_)
         clear hK K
         (try simp only [Act.put, List.setIfInBounds_toArray, List.set_cons_zero, List.set_cons_succ])
         (apply tkF [17] rfl rfl (by kernel_rfl) (fun _ _ _ h => h) (by rfl); (case hy => (intro w hSw; (try dsimp only at hSw); go_simp; try with_reducible rfl)); (case hS => assumption); (try simp only [Act.put, List.setIfInBounds_toArray, List.set_cons_zero, List.set_cons_succ]))
         have s0 := hA.cell 0
         have s1 := hA.cell 1
         have s2 := hA.cell 2
         have s3 := hA.cell 3
         have s4 := hA.cell 4
         have f0 := hA.frozen 0
         have f1 := hA.frozen 1
         have f2 := hA.frozen 2
         have f3 := hA.frozen 3
         have f4 := hA.frozen 4
         refine doH (i := 19) rfl (by kernel_rfl) (by rfl) (fun K hK => ?_)
         go_simp
         have hA5 : Blk (((((y19.setCell ⟨gp, 0, none⟩ (.int .i64 ((k : Int) + 1))).setCell ⟨gp, 1, none⟩ (.int .i64 N)).setCell ⟨gp, 2, none⟩ (.int .i64 (max t now))).setCell ⟨gp, 3, none⟩ (.string RM)).setCell ⟨gp, 4, none⟩ (.string MR)) gp 51 #[.int .i64 ((k : Int) + 1), .int .i64 N, .int .i64 (max t now), .string RM, .string MR] := (((((hA.set_ 0 (.int .i64 ((k : Int) + 1))).set_ 1 (.int .i64 N)).set_ 2 (.int .i64 (max t now))).set_ 3 (.string RM)).set_ 4 (.string MR))
         have hE99 := (((((hE19.setCell (p := ⟨gp, 0, none⟩) hgp (.int .i64 ((k : Int) + 1))).setCell (p := ⟨gp, 1, none⟩) hgp (.int .i64 N)).setCell (p := ⟨gp, 2, none⟩) hgp (.int .i64 (max t now))).setCell (p := ⟨gp, 3, none⟩) hgp (.string RM)).setCell (p := ⟨gp, 4, none⟩) hgp (.string MR))
         refine hK.out _ _ (HKP.out _ hE99) (fun hHeld => ?_)
         clear hK K
         (try simp only [Act.put, List.setIfInBounds_toArray, List.set_cons_zero, List.set_cons_succ])
         refine wpAnyH_done (by kernel_rfl) ?_ _
         go_wp2_with fail
         go_meet
         exact ⟨gp, rfl, hgp, by rw [HHW.out]; exact hA5, hE99⟩
      case rest =>
       obtain ⟨gp, rfl, hgp, hA, hE⟩ := hcut
       have hKr := HK01.out.below hE HK01.out.lt
       have hK2r := HK21.out.below hE HK21.out.lt
       have hBr := HB1.out.trans (hE.mono HB1.out.size)
       clear HKP HPT HR5 HLV HR4
       generalize wc = wa at *
       obtain ⟨x1, x2, x3, x4, x5⟩ := HW
       change Blk wa gp 51 #[.int .i64 x1, .int .i64 x2, .int .i64 x3, .string x4, .string x5] at hA
       have HWc := Lib.hid hKr
       have HXc := Lib.hid hA
       have HK2c := Lib.hid hK2r
       have HBc := Lib.hid hBr
       have HLN := Lib.hid HP.out
       have HOLD : Hid (∀ W, Below wa.heap.size wa W → RowG hdK W oc hd) := Lib.hid fun W hW => HC.out.below (HBc.out.trans (hW.mono HBc.out.size))
       have HNIL : Hid (k = 0 → oc = none → cc = 0) := Lib.hid fun _ => hoc
       clear hKr hA hK2r hBr hE
       go_upto_region 12 with fail
       go_cut [] from 61 to 68 (fun wx => ∃ vd, OwnG hdK wx wa.heap.size vd (hd ++ [(⟨x1, x2, x3, x4, x5⟩ : Hd)]) ∧ Blk wx w.heap.size 43 #[.slice oa N ca, .slice ob M cb, vd] ∧ World.grownBy wa wx (some w.heap.size))
       case first =>
        refine wp_region_held_drew (S := fun W => (loadVar 51 ⟨gp, 0, none⟩).run Tryz.prog W = .ok (.agg #[.int .i64 x1, .int .i64 x2, .int .i64 x3, .string x4, .string x5]) W) (by kernel_rfl) ?_ (fun hHeld0 => ?_)
        · exact head_load5 (HXc.out.below ((Below.refl _ _).drew) HXc.out.lt)
        have hE : Below wa.heap.size wa wa.drew := (Below.refl _ _).drew
        generalize wa.drew = y at *
        iterate 2 (apply tkF [1, 4] rfl rfl (by kernel_rfl) (fun _ _ _ h => h) (by rfl); (case hy => (intro w hSw; (try dsimp only at hSw); go_simp; try with_reducible rfl)); (case hS => assumption); (try simp only [Act.put, List.setIfInBounds_toArray, List.set_cons_zero, List.set_cons_succ]))
        iterate 5 (all_goals (first
         | refine doHq3 [(0, false), (2, false), (5, false)] rfl (i := 0) (j := 2) (k := 5) rfl rfl rfl (by kernel_rfl) (by rfl) (by rfl) (by rfl) (fun K hK => ?_) (fun K hK => ?_) (fun K hK => ?_)
         | refine doHq2 [(0, true), (2, false), (5, false)] rfl (i := 2) (j := 5) rfl rfl (by kernel_rfl) (by rfl) (by rfl) (fun K hK => ?_) (fun K hK => ?_)
         | refine doHq2 [(2, true), (0, false), (5, false)] rfl (i := 0) (j := 5) rfl rfl (by kernel_rfl) (by rfl) (by rfl) (fun K hK => ?_) (fun K hK => ?_)
         | refine doHq2 [(5, true), (0, false), (2, false)] rfl (i := 0) (j := 2) rfl rfl (by kernel_rfl) (by rfl) (by rfl) (fun K hK => ?_) (fun K hK => ?_)
         | refine doHq2 [(0, true), (2, true), (3, false), (5, false)] rfl (i := 3) (j := 5) rfl rfl (by kernel_rfl) (by rfl) (by rfl) (fun K hK => ?_) (fun K hK => ?_)
         | refine doHq [(0, true), (5, true), (2, false)] rfl (i := 2) rfl (by kernel_rfl) (by rfl) (fun K hK => ?_)
         | refine doHq [(2, true), (5, true), (0, false)] rfl (i := 0) rfl (by kernel_rfl) (by rfl) (fun K hK => ?_)
         | refine doHq [(3, true), (5, false)] rfl (i := 5) rfl (by kernel_rfl) (by rfl) (fun K hK => ?_)
         | refine doHq [(0, true), (2, true), (5, true), (3, false)] rfl (i := 3) rfl (by kernel_rfl) (by rfl) (fun K hK => ?_)
         | refine doHq [(3, true), (5, true), (6, false)] rfl (i := 6) rfl (by kernel_rfl) (by rfl) (fun K hK => ?_)); all_goals (first
         | (show Oper.wp _ ⟨some 61, _, _, _, _, _⟩ _ _ _ _; go_simp; have hO := ownG_lit hdOk y wa.heap.size hE.size; have hyA := (Below.refl _ y).alloc (Nat.le_refl _) (.cells #[] 51); change OwnG _ (y.alloc (.cells #[] 51)) _ _ _ at hO; (try replace hR := hR.below hyA); (try have hb05 : y.heap.size ≠ b5 := (by omega)); (try replace hbl : b5 < (y.alloc (.cells #[] 51)).heap.size := (by simp; omega)); replace hE := hE.trans (hyA.mono hE.size); clear hyA; generalize y.heap.size = b0 at *; generalize y.alloc (.cells #[] 51) = y at *; refine hK.out _ _ (head_load5 (HXc.out.below hE HXc.out.lt)) (fun hHeld => ?_); clear hK K; (try simp only [Act.put, List.setIfInBounds_toArray, List.set_cons_zero, List.set_cons_succ]))
         | (show Oper.wp _ ⟨some 63, _, _, _, _, _⟩ _ _ _ _; have hL := sl_hd (w := y) (p := ⟨w.heap.size, 2, none⟩) ((HWc.out.below hE HWc.out.lt).cell 2); change (loadVar 38 _).run Tryz.prog y = .ok (.slice oc k cc) y at hL; go_simp; clear hL; refine hK.out _ _ (head_load5 (HXc.out.below hE HXc.out.lt)) (fun hHeld => ?_); clear hK K; (try simp only [Act.put, List.setIfInBounds_toArray, List.set_cons_zero, List.set_cons_succ]))
         | (show Oper.wp _ ⟨some 64, _, _, _, _, _⟩ _ _ _ _; obtain ⟨v3, y, hr3, hO3, hg3⟩ := append_g hdOk hO oc k cc HLN.out (HOLD.out y hE) HNIL.out (by simp; omega) hE.size; replace hE := hE.grown hg3 hE.size (fun j hj => (World.ownsRow.lt hO j hj).1); (try replace hR := hR.grown hg3 (fun a e => by cases e; intro e2; injection e2 with e2; have e3 : b0 = b5 := e2; omega)); replace hO := hO3; clear hO3; rw [List.nil_append] at hO; refine Lib.wp_append_run _ _ _ 38 38 rfl _ _ rfl rfl _ _ hr3 ?_; clear hr3 hg3; refine hK.out _ _ (head_load5 (HXc.out.below hE HXc.out.lt)) (fun hHeld => ?_); clear hK K; (try simp only [Act.put, List.setIfInBounds_toArray, List.set_cons_zero, List.set_cons_succ]))
         | (show Oper.wp _ ⟨some 66, _, _, _, _, _⟩ _ _ _ _; go_simp; have hR := rowG_new hdOk y (⟨x1, x2, x3, x4, x5⟩ : Hd); have hyA := (Below.refl _ y).alloc (Nat.le_refl _) (.cells #[.int .i64 x1, .int .i64 x2, .int .i64 x3, .string x4, .string x5] 51); change RowG _ (y.alloc (.cells #[.int .i64 x1, .int .i64 x2, .int .i64 x3, .string x4, .string x5] 51)) _ _ at hR; (try have hb05 : b0 ≠ y.heap.size := (by have := (World.ownsRow.lt hO b0 rfl).2; omega)); (try replace hO := hO.below hyA); have hbl : y.heap.size < (y.alloc (.cells #[.int .i64 x1, .int .i64 x2, .int .i64 x3, .string x4, .string x5] 51)).heap.size := (by simp); replace hE := hE.trans (hyA.mono hE.size); clear hyA; generalize y.heap.size = b5 at *; generalize y.alloc (.cells #[.int .i64 x1, .int .i64 x2, .int .i64 x3, .string x4, .string x5] 51) = y at *; refine hK.out _ _ (head_load5 (HXc.out.below hE HXc.out.lt)) (fun hHeld => ?_); clear hK K; (try simp only [Act.put, List.setIfInBounds_toArray, List.set_cons_zero, List.set_cons_succ]))
         | (show Oper.wp _ ⟨some 67, _, _, _, _, _⟩ _ _ _ _; obtain ⟨v6, y, hr6, hO6, hg6⟩ := append_g hdOk hO (some ⟨b5, 0, none⟩) 1 1 rfl hR (fun h => absurd h (by decide)) (by rw [HLN.out]; omega) hE.size; replace hE := hE.grown hg6 hE.size (fun j hj => (World.ownsRow.lt hO j hj).1); refine Lib.wp_append_run _ _ _ 38 38 rfl _ _ rfl rfl _ _ hr6 ?_; clear hr6 hg6 hO; obtain ⟨o6, n6, c6, hv6⟩ : ∃ o n c, v6 = .slice o n c := (by obtain ⟨o, c, h, _⟩ := hO6.form hdOk; exact ⟨_, _, _, h⟩); subst hv6; refine hK.out _ _ (head_load5 (HXc.out.below hE HXc.out.lt)) (fun hHeld => ?_); clear hK K; (try simp only [Act.put, List.setIfInBounds_toArray, List.set_cons_zero, List.set_cons_succ]))))
        all_goals
         apply tkF [7] rfl rfl (by kernel_rfl) (fun _ _ _ h => h) (by rfl); (case hy => (intro w hSw; (try dsimp only at hSw); go_simp; try with_reducible rfl)); (case hS => assumption); (try simp only [Act.put, List.setIfInBounds_toArray, List.set_cons_zero, List.set_cons_succ])
         refine doH (i := 8) rfl (by kernel_rfl) (by rfl) (fun K hK => ?_)
         have hW := HWc.out.below hE HWc.out.lt
         have c8 := hW.cell 2
         have f8 := hW.frozen 2
         change y.cell? _ = some (.slice oc k cc) at c8
         go_simp
         have hW8 : Blk (y.setCell ⟨w.heap.size, 2, none⟩ (.slice o6 n6 c6)) w.heap.size 43 #[.slice oa N ca, .slice ob M cb, .slice o6 n6 c6] := hW.set_ 2 (.slice o6 n6 c6)
         have hG8 : World.grownBy wa (y.setCell ⟨w.heap.size, 2, none⟩ (.slice o6 n6 c6)) (some w.heap.size) := grown_trans (only_of_below hE (some w.heap.size)) (grownG_setCell y ⟨w.heap.size, 2, none⟩ (.slice o6 n6 c6))
         have hO8 := hO6.grown (grownG_setCell y ⟨w.heap.size, 2, none⟩ (.slice o6 n6 c6)) (by cases hv : Value.ownBlock (.slice o6 n6 c6) with | none => exact .inl rfl | some q => refine .inr (fun e => ?_); have h1 := (World.ownsRow.lt hO6 q hv).1; have h2 := HWc.out.lt; injection e with e; have e3 : q = w.heap.size := e; omega)
         refine hK.out _ _ (head_load5 ((HXc.out.below hE HXc.out.lt).far (p := ⟨w.heap.size, 2, none⟩) (by show gp ≠ w.heap.size; have := HK01.out.lt; omega) (.slice o6 n6 c6))) (fun hHeld => ?_)
         clear hK K
         (try simp only [Act.put, List.setIfInBounds_toArray, List.set_cons_zero, List.set_cons_succ])
         refine wpAnyH_done (by kernel_rfl) ?_ _
         go_wp2_with fail
         go_meet
         exact ⟨.slice o6 n6 c6, hO8, hW8, hG8⟩
       case rest =>
        obtain ⟨vd, hO, hW, hG⟩ := hcut
        obtain ⟨od, cd, hvd, hR, hcd, hnd, _⟩ := hO.form hdOk
        have hB := HBc.out.grown hG HBc.out.size (fun j hj => by injection hj; omega)
        have hK2 := HK2c.out.grown hG (fun e => by injection e; omega)
        obtain ⟨nd, hnn⟩ : ∃ nd, (hd ++ [(⟨x1, x2, x3, x4, x5⟩ : Hd)]).length = nd := ⟨_, rfl⟩
        rw [hnn] at hvd
        subst hvd
        have HW := Lib.hid hW
        have HK2 := Lib.hid hK2
        have HB := Lib.hid hB
        have HSL : Hid (∀ W, Below w.heap.size w W → True) := Lib.hid fun _ _ => trivial
        have HRR := Lib.hid hR
        have d1 := wld_load HW.out
        have f0 := HK2.out.frozen 0
        have f1 := HK2.out.frozen 1
        have f2 := HK2.out.frozen 2
        have g0 : wc.cell? ⟨w.heap.size + 2, 0, none⟩ = some (.slice none 0 0) := HK2.out.cell 0
        have g1 : wc.cell? ⟨w.heap.size + 2, 1, none⟩ = some (.slice none 0 0) := HK2.out.cell 1
        have g2 : wc.cell? ⟨w.heap.size + 2, 2, none⟩ = some (.slice none 0 0) := HK2.out.cell 2
        have HGE : Hid (∀ a, od = some a → w.heap.size ≤ a.block ∧ a.block ≠ w.heap.size + 2) := Lib.hid fun a ha => by
         have := hO.form hdOk
         obtain ⟨od', cd', e1, _, _, _, h7⟩ := this
         injection e1 with e2 e3 e4
         have h8 := (h7 a (by rw [← e2]; exact ha)).2.1
         have h9 := HK2c.out.lt
         omega
        clear hO hW hG hB hK2 hR
        go_wp2_with fail
        have n2 : Blk (((wc.setCell ⟨w.heap.size + 2, 0, none⟩ (.slice oa N ca)).setCell ⟨w.heap.size + 2, 1, none⟩ (.slice ob M cb)).setCell ⟨w.heap.size + 2, 2, none⟩ (.slice od nd cd)) (w.heap.size + 2) 43 #[.slice oa N ca, .slice ob M cb, .slice od nd cd] := ((HK2.out.set_ 0 (.slice oa N ca)).set_ 1 (.slice ob M cb)).set_ 2 (.slice od nd cd)
        have hB3 := ((HB.out.setCell (p := ⟨w.heap.size + 2, 0, none⟩) (by show w.heap.size ≤ w.heap.size + 2; omega) (.slice oa N ca)).setCell (p := ⟨w.heap.size + 2, 1, none⟩) (by show w.heap.size ≤ w.heap.size + 2; omega) (.slice ob M cb)).setCell (p := ⟨w.heap.size + 2, 2, none⟩) (by show w.heap.size ≤ w.heap.size + 2; omega) (.slice od nd cd)
        have hR3 := ((HRR.out.grown (grownG_setCell _ ⟨w.heap.size + 2, 0, none⟩ (.slice oa N ca)) (fun a ha e => (HGE.out a ha).2 (by injection e with e; exact e.symm))).grown (grownG_setCell _ ⟨w.heap.size + 2, 1, none⟩ (.slice ob M cb)) (fun a ha e => (HGE.out a ha).2 (by injection e with e; exact e.symm))).grown (grownG_setCell _ ⟨w.heap.size + 2, 2, none⟩ (.slice od nd cd)) (fun a ha e => (HGE.out a ha).2 (by injection e with e; exact e.symm))
        refine bodyPost_ret (results_row_tmp rfl _ _ (w.heap.size + 2) 43 #[.slice oa N ca, .slice ob M cb, .slice od nd cd] _ rfl n2 Tryz.underlying43 rfl (by kernel_rfl)) rfl ?_
        rw [HRC.out, HCW1.out hq]
        exact ⟨.slice od nd cd, rfl, ⟨od, cd, by rw [hnn], hR3, hcd, fun e => (hnd e).2, .inr fun a ha => (HGE.out a ha).1⟩, hB3⟩
end
end Go.Proofs.YtakgolbgeeoioaaGreat

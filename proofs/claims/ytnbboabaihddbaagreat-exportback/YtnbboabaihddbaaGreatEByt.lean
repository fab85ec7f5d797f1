/-
 Bytes: the reference's of layer 12.
-/
import Derived.Test.YtnbboabaihddbaaGreatEExpYFirst
import Derived.Test.YtnbboabaihddbaaGreatWRList
namespace Go.Proofs.YtnbboabaihddbaaGreat
open Go.RowKit

section
attribute [-go_sem] loadVar
set_option maxRecDepth 100000 in
set_option maxHeartbeats 2000000 in
theorem rbytes_in (oa ob : Option Addr) (vr : Value) (N ca M cb : Nat) (W : Wd) (hN : W.tk.length = N) (hM : W.hd.length = M) (hi : InvW W) (w : World) (hA : RowG reqK w oa W.tk) (hB : RowG hdK w ob W.hd) :
 Calls Tryz.prog 16 #[.agg #[.slice oa N ca, vr, .slice ob M cb]] w fun e w' => e = .returned (.string (expB W)) ∧ Below w.heap.size w w' := by
 have hm : N ≤ 64 := by rw [← hN]; exact hi.most
 have hm2 : M ≤ 64 := by have := hi.heads; omega
 obtain ⟨hp1, hp2⟩ := exp_parts hi
 have HL1 : Hid (∀ (o : Option Addr) (c : Nat) (X : World), Strs X o (W.tk.map reqQ) → Calls Tryz.prog 37 #[.slice o N c] X fun e w' => e = .returned (.string (listB (W.tk.map reqQ))) ∧ Below X.heap.size X w') := Lib.hid fun o c X hX => rlist_any o N c _ (by rw [List.length_map, hN]) (by omega) (by omega) X hX
 have HL2 : Hid (∀ (o : Option Addr) (c : Nat) (X : World), Strs X o (W.hd.map ztB) → Calls Tryz.prog 37 #[.slice o M c] X fun e w' => e = .returned (.string (listB (W.hd.map ztB))) ∧ Below X.heap.size X w') := Lib.hid fun o c X hX => rlist_any o M c _ (by rw [List.length_map, hM]) (by omega) (by omega) X hX
 have HS1 := Lib.hid (listB_size (W.tk.map reqQ))
 have HS2 := Lib.hid (listB_size (W.hd.map ztB))
 have HE := Lib.hid (show expB W = ⟨#[83]⟩ ++ listB (W.tk.map reqQ) ++ listB (W.hd.map ztB) from rfl)
 have HF0 := Lib.hid (show (W.tk.take 0).map reqQ = [] from rfl)
 have HFL := Lib.hid (show ∀ k, k ≤ N → ((W.tk.take k).map reqQ).length = k from fun k hk => by rw [List.length_map, List.length_take]; omega)
 have HFN : Hid ((fun k => (W.tk.take k).map reqQ) N = W.tk.map reqQ) := Lib.hid (by show (W.tk.take N).map reqQ = _; rw [← hN, List.take_length])
 have HFS : Hid (∀ k, k < N → ∃ r : Req, smallB r = true ∧ (W.tk.take (k + 1)).map reqQ = (W.tk.take k).map reqQ ++ [reqQ r] ∧ ∃ g o, oa = some ⟨g, o, none⟩ ∧ ∀ X, Below w.heap.size w X → (loadVar 58 ⟨g, o + k * 5, none⟩).run Tryz.prog X = .ok (.agg #[.int .i64 r.c, .int .i64 r.q, .string r.l, .string r.k, .string r.v]) X) := Lib.hid fun k hk => by
  obtain ⟨g, o, h1, _, h3⟩ := req_whole hA (i := k) (by omega)
  exact ⟨W.tk[k]'(by omega), hi.szq _ (List.getElem_mem _), by rw [List.take_succ_eq_append_getElem (by omega), List.map_append]; rfl, g, o, h1, h3⟩
 have HG0 := Lib.hid (show (W.hd.take 0).map ztB = [] from rfl)
 have HGL := Lib.hid (show ∀ k, k ≤ M → ((W.hd.take k).map ztB).length = k from fun k hk => by rw [List.length_map, List.length_take]; omega)
 have HGN : Hid ((fun k => (W.hd.take k).map ztB) M = W.hd.map ztB) := Lib.hid (by show (W.hd.take M).map ztB = _; rw [← hM, List.take_length])
 have HGS : Hid (∀ k, k < M → ∃ r : Hd, (W.hd.take (k + 1)).map ztB = (W.hd.take k).map ztB ++ [num4 r.z ++ num4 r.t] ∧ ∃ g o, ob = some ⟨g, o, none⟩ ∧ ∀ X, Below w.heap.size w X → (loadVar 3 ⟨g, o + k * 5 + 1, none⟩).run Tryz.prog X = .ok (.int .i64 r.z) X ∧ (loadVar 3 ⟨g, o + k * 5 + 2, none⟩).run Tryz.prog X = .ok (.int .i64 r.t) X) := Lib.hid fun k hk => by
  obtain ⟨g, o, h1, h2, _, c1, c2, _⟩ := hd_at hB (i := k) (by omega)
  refine ⟨W.hd[k]'(by omega), by rw [List.take_succ_eq_append_getElem (by omega), List.map_append]; rfl, g, o, h1, fun X hX => ?_⟩
  have hc := fun j => hX.cell (p := ⟨g, j, none⟩) h2
  exact ⟨num_load ((hc _).trans c1), num_load ((hc _).trans c2)⟩
 have HRQ : Hid (∀ (r : Req), smallB r = true → ∀ X, Calls Tryz.prog 35 #[.agg #[.int .i64 r.c, .int .i64 r.q, .string r.l, .string r.k, .string r.v]] X fun e w' => e = .returned (.string (reqQ r)) ∧ Below X.heap.size X w') := Lib.hid fun r hr X => by
  have := of_decide_eq_true hr
  exact rrequest_any r.c r.q r.l r.k r.v (by omega) (by omega) (by omega) X
 have HP := Lib.hid (And.intro hp1 hp2)
 obtain ⟨w0, hw0⟩ : ∃ w0, w.alloc (.cells #[.slice oa N ca, vr, .slice ob M cb] 44) = w0 := ⟨_, rfl⟩
 have hb0 : Below w.heap.size w w0 := by rw [← hw0]; exact (Below.refl _ w).alloc (Nat.le_refl _) _
 have k0 : Blk w0 w.heap.size 44 #[.slice oa N ca, vr, .slice ob M cb] := by rw [← hw0]; exact Blk.new _ _ _
 have HW0 := Lib.hid hw0
 have HK0 : Hid (∀ X, Below w0.heap.size w0 X → (loadVar 32 ⟨w.heap.size, 0, none⟩).run Tryz.prog X = .ok (.slice oa N ca) X ∧ (loadVar 39 ⟨w.heap.size, 2, none⟩).run Tryz.prog X = .ok (.slice ob M cb) X) := Lib.hid fun X hX => by
  have := k0.below hX k0.lt
  exact ⟨sl_req (this.cell 0), sl_hd (this.cell 2)⟩
 clear hw0 k0 hp1 hp2
 generalize expB W = EX at *
 generalize hF : (fun k => (W.tk.take k).map reqQ) = F at *
 generalize hG : (fun k => (W.hd.take k).map ztB) = G at *
 have hF' : ∀ k, (W.tk.take k).map reqQ = F k := fun k => by rw [← hF]
 have hG' : ∀ k, (W.hd.take k).map ztB = G k := fun k => by rw [← hG]
 simp only [hF'] at HF0 HFS HFL
 simp only [hG'] at HG0 HGS HGL
 clear hF hF' hG hG' hA hB
 generalize W.tk.map reqQ = TA at *
 generalize W.hd.map ztB = TB at *
 clear hN hM hi
 go_enter Tryz.func16, Tryz.ntmps16
 go_wp2_with (rw [HW0.out])
 go_loopw [3, 5] (fun v i wr => ∃ k : Nat, k ≤ N ∧ i = .int .i64 k ∧ Own wr w0.heap.size v (F k) ∧ Below w0.heap.size w0 wr) (fun _ i _ => N - (intOf i).toNat)
 case atStart => exact ⟨0, by omega, rfl, by rw [HF0.out]; exact own_nil _ _, Below.refl _ _⟩
 case round =>
  obtain ⟨k, hk, rfl, hown, hB⟩ := hrel
  have l0 := (HK0.out wr hB).1
  by_cases hlt : k < N
  · have hlt' : (k : Int) < (N : Int) := by omega
    obtain ⟨r, hr, hfs, g, o, rfl, hld⟩ := HFS.out k hlt
    have d0 := hld wr (hb0.trans (hB.mono hb0.size))
    have HQ := Lib.hid (HRQ.out r hr)
    have HFK := Lib.hid hfs
    have HFKL := Lib.hid (HFL.out k hk)
    have hlen : (F k).length ≤ 1073741824 := by rw [HFL.out k hk]; omega
    generalize reqQ r = RR at *
    obtain ⟨rc, rq, rl, rk, rv⟩ := r
    dsimp only at d0 HQ
    have hown2 := hown
    have hB2 := hB
    clear hfs hr hld hown hB
    go_wp2_with fail
    refine (HQ.out _).mono ?_
    rintro e w3 ⟨rfl, hb3⟩
    have hown3 := hown2.below hb3
    have hB3 := hB2.trans (hb3.mono hB2.size)
    clear hown2 hB2 hb3 d0 HQ l0
    go_wp2_with (at_builtin; refine wpList_append_txt rfl _ _ rfl w0.heap.size u3 (F k) rfl hown3 RR rfl hlen hB3.size ?_)
    intro g5 c5 w5 hown5 hg5
    rw [HFKL.out, ← HFK.out] at hown5
    have hB5 := hB3.grown hg5 hB3.size (fun z hz => by have := (World.ownsRow.lt hown3 z hz).1; omega)
    clear hown3 hB3 hg5
    rw [HFKL.out]
    go_wp2
    go_roundw
    case rel => exact ⟨k + 1, by omega, by go_num, hown5, hB5⟩
    case measure => simp [intOf]; omega
  · obtain rfl : N = k := by omega
    have hlt' : ¬ (N : Int) < (N : Int) := by omega
    obtain ⟨o1, c1, hv, hS1⟩ := hown.form
    rw [HFL.out N (Nat.le_refl _)] at hv
    rw [HFN.out] at hS1
    subst hv
    have HOA := Lib.hid hS1
    have HBA := Lib.hid hB
    clear hown hS1 hB HFL HFS HF0 HFN HRQ hlt
    have l0' := l0
    generalize wr = wo at *
    go_wp2_with fail
    clear l0 l0'
    go_loopw [4, 6] (fun v i wr => ∃ k : Nat, k ≤ M ∧ i = .int .i64 k ∧ Own wr wo.heap.size v (G k) ∧ Below wo.heap.size wo wr) (fun _ i _ => M - (intOf i).toNat)
    case atStart => exact ⟨0, by omega, rfl, by rw [HG0.out]; exact own_nil _ _, Below.refl _ _⟩
    case round =>
     obtain ⟨k, hk, rfl, hown, hB⟩ := hrel
     have hb9 := hb0.trans (HBA.out.mono hb0.size)
     have l1 := (HK0.out wr (HBA.out.trans (hB.mono HBA.out.size))).2
     by_cases hlt : k < M
     · have hlt' : (k : Int) < (M : Int) := by omega
       obtain ⟨r, hfs, g, o, rfl, hld⟩ := HGS.out k hlt
       have HLD := Lib.hid (fun X (hX : Below wo.heap.size wo X) => hld X (hb9.trans (hX.mono hb9.size)))
       have HSL := Lib.hid (fun X (hX : Below wo.heap.size wo X) => (HK0.out X (HBA.out.trans (hX.mono HBA.out.size))).2)
       have HFK := Lib.hid hfs
       have HFKL := Lib.hid (HGL.out k hk)
       have hlen : (G k).length ≤ 1073741824 := by rw [HGL.out k hk]; omega
       obtain ⟨rq, rz, rt, rr, rm⟩ := r
       dsimp only at HLD HFK
       have H1 := Lib.hid (fun X => rnumber_any rz X)
       have H2 := Lib.hid (fun X => rnumber_any rt X)
       have z1 := num4_size rz
       have z2 := num4_size rt
       generalize num4 rz = A1 at *
       generalize num4 rt = A2 at *
       have r1 := addRun (a := A1) (b := A2) (by omega)
       generalize A1 ++ A2 = A3 at *
       have HOW := Lib.hid hown
       have HBW := Lib.hid hB
       have HKP : Hid (∀ X, wr.grownBy X u4.ownBlock → ((loadVar 39 ⟨w.heap.size, 2, none⟩).run Tryz.prog X = .ok (.slice (some ⟨g, o, none⟩) M cb) X ∧ (loadVar 3 ⟨g, o + k * 5 + 1, none⟩).run Tryz.prog X = .ok (.int .i64 rz) X ∧ (loadVar 3 ⟨g, o + k * 5 + 2, none⟩).run Tryz.prog X = .ok (.int .i64 rt) X) ∧ wr.grownBy X u4.ownBlock) := Lib.hid fun X hX => by
        have hBX := HBW.out.grown hX HBW.out.size (fun q hq => (World.ownsRow.lt HOW.out q hq).1)
        exact ⟨⟨HSL.out X hBX, HLD.out X hBX⟩, hX⟩
       have hle2 : wo.heap.size ≤ wr.heap.size := hB.size
       clear hfs hld hown hB z1 z2
       go_wp2_with fail
       clear l1
       go_region_held3 (fun X => ((loadVar 39 ⟨w.heap.size, 2, none⟩).run Tryz.prog X = .ok (.slice (some ⟨g, o, none⟩) M cb) X ∧ (loadVar 3 ⟨g, o + k * 5 + 1, none⟩).run Tryz.prog X = .ok (.int .i64 rz) X ∧ (loadVar 3 ⟨g, o + k * 5 + 2, none⟩).run Tryz.prog X = .ok (.int .i64 rt) X) ∧ wr.grownBy X u4.ownBlock)
        ((refine HKP.out _ ?_; first | exact hG3 | exact grown_alloc hG2 _ | exact hG2 | exact hG1 | exact only_drew (grown_refl _ _) | exact grown_refl _ _))
        (first
         | (have := hb1; go_at_call 36; refine (H2.out _).mono ?_; rintro e w3 ⟨rfl, hb3⟩; have hb3' := hb1.trans (hb3.mono hb1.size); have hG2 : wr.grownBy w3 u4.ownBlock := only_of_below hb3' _)
         | (go_at_call 36; refine (H1.out _).mono ?_; rintro e w4 ⟨rfl, hb4⟩; have hb1 : Below wr.heap.size wr w4 := (Below.refl _ _).drew.trans hb4; have hG1 : wr.grownBy w4 u4.ownBlock := only_of_below hb1 _)
         | (have := hG2; (refine step_append_txt (by rfl) _ _ (by rfl) wo.heap.size u4 (G k) (by rfl) (HOW.out.below hb3') A3 (by rfl) hlen (Nat.le_trans hle2 hG2.size) ?_; intro g2 cap2 w5 hown2 hgr2; have hG3 : wr.grownBy w5 u4.ownBlock := grown_trans hG2 hgr2)))
       rw [HFKL.out, ← HFK.out] at hown2
       have hB5 := HBW.out.grown hG3 hle2 (fun q hq => (World.ownsRow.lt HOW.out q hq).1)
       rw [HFKL.out]
       rename_i hHeld
       clear hHeld hG1 hG2 hG3 hgr2 hb1 hb3 hb3' hb4 HKP HLD HSL HOW HBW H1 H2 r1
       go_wp2
       go_roundw
       case rel => exact ⟨k + 1, by omega, by go_num, hown2, hB5⟩
       case measure => simp [intOf]; omega
     · obtain rfl : M = k := by omega
       have hltM : ¬ (M : Int) < (M : Int) := by omega
       have hS1 := HOA.out.below hB
       obtain ⟨o2, c2, hv, hS2⟩ := hown.form
       rw [HGL.out M (Nat.le_refl _)] at hv
       rw [HGN.out] at hS2
       subst hv
       have H1 := Lib.hid (fun X hX => HL1.out o1 c1 X hX)
       have H2 := Lib.hid (fun X hX => HL2.out o2 c2 X hX)
       have hB9 := hb0.trans ((HBA.out.trans (hB.mono HBA.out.size)).mono hb0.size)
       have z0 : (⟨#[83]⟩ : ByteArray).size = 1 := rfl
       have hp := HP.out
       have z1 := HS1.out
       have z2 := HS2.out
       generalize listB TA = X1 at *
       generalize listB TB = X2 at *
       have a1 : ¬ (⟨#[83]⟩ : ByteArray).size + X1.size > 9223372036854775807 := by omega
       have a2 : ¬ ((⟨#[83]⟩ : ByteArray) ++ X1).size + X2.size > 9223372036854775807 := by rw [ByteArray.size_append]; omega
       clear z0 z1 z2 hp hown hB HL1 HL2 HGL HGS HG0 HGN hlt
       go_wp2_with fail
       refine (H1.out _ hS1).mono ?_
       rintro e w5 ⟨rfl, hb5⟩
       have hS3 := hS2.below hb5
       have hB10 := hB9.trans (hb5.mono hB9.size)
       clear hb5 hS1 hS2 hB9
       go_wp2_with fail
       refine (H2.out _ hS3).mono ?_
       rintro e w6 ⟨rfl, hb6⟩
       have hB11 := hB10.trans (hb6.mono hB10.size)
       go_wp2
       go_ret
       rw [HE.out]
       exact ⟨rfl, hB11⟩
end
theorem rbytes_any (P : Nat → Prop) (cs : Array Value) (W : Wd) (hi : InvW W) (w : World) (h : WdC w P cs W) :
 Calls Tryz.prog 16 #[.agg cs] w fun e w' => e = .returned (.string (expB W)) ∧ Below w.heap.size w w' := by
 obtain ⟨a, b, c, rfl, ⟨oa, ca, rfl, hA, _⟩, _, ⟨ob, cb, rfl, hB, _⟩⟩ := h
 exact rbytes_in oa ob _ _ ca _ cb W rfl rfl hi w hA hB
end Go.Proofs.YtnbboabaihddbaaGreat

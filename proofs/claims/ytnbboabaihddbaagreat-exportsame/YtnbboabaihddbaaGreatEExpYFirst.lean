/-
  Export: a state's bytes. The first requests of a state; its heads.
-/
import Derived.Test.YtnbboabaihddbaaGreatWMathQEMath
import Derived.Test.YtnbboabaihddbaaGreatWBldWStrsWListWBeWCut
import Derived.Test.YtnbboabaihddbaaGreatMRefLSRefAHSBitMSPairSRefAMHStep
import Derived.Test.YtnbboabaihddbaaGreatYMathYSt
namespace Go.Proofs.YtnbboabaihddbaaGreat
open Go.RowKit

theorem txts_bound {ss : List ByteArray} {c : Nat} (h : ∀ s ∈ ss, s.size ≤ c) : (txts ss).size ≤ ss.length * (4 + c) := by
 induction ss with
 | nil => exact Nat.zero_le _
 | cons s r ih =>
  show (txt s ++ txts r).size ≤ (r.length + 1) * (4 + c)
  have h1 := ih (fun x hx => h x (by simp [hx]))
  have h2 := h s (by simp)
  rw [ByteArray.size_append, txt_size, Nat.succ_mul]
  omega
/-- what a log's bytes are made of -/
theorem exp_parts {W : Wd} (hi : InvW W) : (txts (W.tk.map reqQ)).size ≤ 1000000 ∧ (txts (W.hd.map ztB)).size ≤ 1000000 := by
 have hm := hi.most
 have hh := hi.heads
 have h1 := txts_bound (ss := W.tk.map reqQ) (c := 600) (fun s hs => by
  obtain ⟨r, hr, rfl⟩ := List.mem_map.1 hs
  have := of_decide_eq_true (hi.szq r hr)
  unfold reqQ
  rw [reqB_size]
  omega)
 have h2 := txts_bound (ss := W.hd.map ztB) (c := 8) (fun s hs => by
  obtain ⟨r, hr, rfl⟩ := List.mem_map.1 hs
  unfold ztB
  rw [ByteArray.size_append, num4_size, num4_size]
  omega)
 rw [List.length_map] at h1 h2
 omega
theorem expB_size {W : Wd} (hi : InvW W) : (expB W).size ≤ 3000000 := by
 obtain ⟨h1, h2⟩ := exp_parts hi
 unfold expB
 rw [ByteArray.size_append, ByteArray.size_append, listB_size, listB_size]
 show 1 + _ + _ ≤ _
 omega
/-- a head of a slice, whole -/
theorem hd_whole {w : World} {oa : Option Addr} {xs : List Hd} (h : RowG hdK w oa xs) {i : Nat} (hi : i < xs.length) : ∃ g o, oa = some ⟨g, o, none⟩ ∧ g < w.heap.size ∧ ∀ W, Below w.heap.size w W → (loadVar 48 ⟨g, o + i * 5, none⟩).run Tryz.prog W = .ok (.agg #[.int .i64 xs[i].q, .int .i64 xs[i].z, .int .i64 xs[i].t, .string xs[i].r, .string xs[i].m]) W := by
 obtain ⟨g, o, h1, h2, _⟩ := hd_at h hi
 refine ⟨g, o, h1, h2, fun W hW => ?_⟩
 have := h.below hW
 rw [h1] at this
 exact RowG.load hdOk this (List.getElem?_eq_getElem hi)
theorem req_whole {w : World} {oa : Option Addr} {xs : List Req} (h : RowG reqK w oa xs) {i : Nat} (hi : i < xs.length) : ∃ g o, oa = some ⟨g, o, none⟩ ∧ g < w.heap.size ∧ ∀ W, Below w.heap.size w W → (loadVar 58 ⟨g, o + i * 5, none⟩).run Tryz.prog W = .ok (.agg #[.int .i64 xs[i].c, .int .i64 xs[i].q, .string xs[i].l, .string xs[i].k, .string xs[i].v]) W := by
 obtain ⟨g, o, h1, h2, _⟩ := req_at h hi
 refine ⟨g, o, h1, h2, fun W hW => ?_⟩
 have := h.below hW
 rw [h1] at this
 exact RowG.load reqOk this (List.getElem?_eq_getElem hi)
section
attribute [-go_sem] loadVar
set_option maxRecDepth 100000 in
set_option maxHeartbeats 2000000 in
theorem export_in (oa ob : Option Addr) (N ca M cb : Nat) (x y z u : Lst) (W : Wd) (hN : W.tk.length = N) (hM : W.hd.length = M) (hi : InvW W) (w : World) (hA : RowG reqK w oa W.tk) (hB : RowG hdK w ob W.hd) :
 Calls Tryz.prog 14 #[.agg (cellsS (.slice oa N ca) x y z u (.slice ob M cb))] w fun e w' => e = .returned (.string (expB W)) ∧ Below w.heap.size w w' := by
 have hm : N ≤ 64 := by rw [← hN]; exact hi.most
 have hm2 : M ≤ 64 := by have := hi.heads; omega
 obtain ⟨hp1, hp2⟩ := exp_parts hi
 have HL1 : Hid (∀ (o : Option Addr) (c : Nat) (X : World), Strs X o (W.tk.map reqQ) → Calls Tryz.prog 33 #[.slice o N c] X fun e w' => e = .returned (.string (listB (W.tk.map reqQ))) ∧ Below X.heap.size X w') := Lib.hid fun o c X hX => list_any o N c _ (by rw [List.length_map, hN]) (by omega) (by omega) X hX
 have HL2 : Hid (∀ (o : Option Addr) (c : Nat) (X : World), Strs X o (W.hd.map ztB) → Calls Tryz.prog 33 #[.slice o M c] X fun e w' => e = .returned (.string (listB (W.hd.map ztB))) ∧ Below X.heap.size X w') := Lib.hid fun o c X hX => list_any o M c _ (by rw [List.length_map, hM]) (by omega) (by omega) X hX
 have HS1 := Lib.hid (listB_size (W.tk.map reqQ))
 have HS2 := Lib.hid (listB_size (W.hd.map ztB))
 have HE := Lib.hid (show expB W = ⟨#[83]⟩ ++ listB (W.tk.map reqQ) ++ listB (W.hd.map ztB) from rfl)
 have HF0 := Lib.hid (show (W.tk.take 0).map reqQ = [] from rfl)
 have HFL := Lib.hid (show ∀ k, k ≤ N → ((W.tk.take k).map reqQ).length = k from fun k hk => by rw [List.length_map, List.length_take]; omega)
 have HFN : Hid ((fun k => (W.tk.take k).map reqQ) N = W.tk.map reqQ) := Lib.hid (by show (W.tk.take N).map reqQ = _; rw [← hN, List.take_length])
 have HFS : Hid (∀ k, k < N → ∃ r : Req, smallB r = true ∧ (W.tk.take (k + 1)).map reqQ = (W.tk.take k).map reqQ ++ [reqQ r] ∧ ∃ g o, oa = some ⟨g, o, none⟩ ∧ ∀ X, Below w.heap.size w X → (loadVar 58 ⟨g, o + k * 5, none⟩).run Tryz.prog X = .ok (.agg #[.int .i64 r.c, .int .i64 r.q, .string r.l, .string r.k, .string r.v]) X) := Lib.hid fun k hk => by
  obtain ⟨g, o, h1, _, h3⟩ := req_whole hA (i := k) (by omega)
  exact ⟨W.tk[k]'(by omega), hi.szq _ (List.getElem_mem _), by rw [List.take_succ_eq_append_getElem (by omega), List.map_append]; rfl, g, o, h1, h3⟩
 have HG0 := Lib.hid (show (W.hd.take 0).map ztB = [] from rfl)
 have HGL := Lib.hid (show ∀ k, k ≤ M → ((W.hd.take k).map ztB).length = k from fun k hk => by rw [List.length_map, List.length_take]; omega)
 have HGN : Hid ((fun k => (W.hd.take k).map ztB) M = W.hd.map ztB) := Lib.hid (by show (W.hd.take M).map ztB = _; rw [← hM, List.take_length])
 have HGS : Hid (∀ k, k < M → ∃ r : Hd, (W.hd.take (k + 1)).map ztB = (W.hd.take k).map ztB ++ [num4 r.z ++ num4 r.t] ∧ ∃ g o, ob = some ⟨g, o, none⟩ ∧ ∀ X, Below w.heap.size w X → (loadVar 48 ⟨g, o + k * 5, none⟩).run Tryz.prog X = .ok (.agg #[.int .i64 r.q, .int .i64 r.z, .int .i64 r.t, .string r.r, .string r.m]) X) := Lib.hid fun k hk => by
  obtain ⟨g, o, h1, _, h3⟩ := hd_whole hB (i := k) (by omega)
  exact ⟨W.hd[k]'(by omega), by rw [List.take_succ_eq_append_getElem (by omega), List.map_append]; rfl, g, o, h1, h3⟩
 have HRQ : Hid (∀ (r : Req), smallB r = true → ∀ X, Calls Tryz.prog 31 #[.agg #[.int .i64 r.c, .int .i64 r.q, .string r.l, .string r.k, .string r.v]] X fun e w' => e = .returned (.string (reqQ r)) ∧ Below X.heap.size X w') := Lib.hid fun r hr X => by
  have := of_decide_eq_true hr
  exact request_any r.c r.q r.l r.k r.v (by omega) (by omega) (by omega) X
 have HP := Lib.hid (And.intro hp1 hp2)
 obtain ⟨w0, hw0⟩ : ∃ w0, w.alloc (.cells (cellsS (.slice oa N ca) x y z u (.slice ob M cb)) 41) = w0 := ⟨_, rfl⟩
 have hb0 : Below w.heap.size w w0 := by rw [← hw0]; exact (Below.refl _ w).alloc (Nat.le_refl _) _
 have k0 : Blk w0 w.heap.size 41 (cellsS (.slice oa N ca) x y z u (.slice ob M cb)) := by rw [← hw0]; exact Blk.new _ _ _
 have HW0 := Lib.hid hw0
 have HK0 : Hid (∀ X, Below w0.heap.size w0 X → (loadVar 32 ⟨w.heap.size, 0, none⟩).run Tryz.prog X = .ok (.slice oa N ca) X ∧ (loadVar 39 ⟨w.heap.size, 21, none⟩).run Tryz.prog X = .ok (.slice ob M cb) X) := Lib.hid fun X hX => by
  have := k0.below hX k0.lt
  exact ⟨sl_req (this.cell 0), sl_hd (this.cell 21)⟩
 clear hw0 k0 hp1 hp2
 generalize expB W = EX at *
 generalize hF : (fun k => (W.tk.take k).map reqQ) = F at *
 generalize hG : (fun k => (W.hd.take k).map ztB) = G at *
 have hF' : ∀ k, (W.tk.take k).map reqQ = F k := fun k => by rw [← hF]
 have hG' : ∀ k, (W.hd.take k).map ztB = G k := fun k => by rw [← hG]
 simp only [hF'] at HF0 HFS HFL
 simp only [hG'] at HG0 HGS HGL
 clear hF hF' hG hG' hA hB
 generalize W.tk.map reqQ = TA at *
 generalize W.hd.map ztB = TB at *
 clear hN hM hi
 have l0 := (HK0.out w0 (Below.refl _ _)).1
 go_enter Tryz.func14, Tryz.ntmps14
 go_wp2_with (rw [HW0.out])
 go_loopw [3, 12] (fun v i wr => ∃ k : Nat, k ≤ N ∧ i = .int .i64 k ∧ Own wr w0.heap.size v (F k) ∧ Below w0.heap.size w0 wr) (fun _ i _ => N - (intOf i).toNat)
 case atStart => exact ⟨0, by omega, rfl, by rw [HF0.out]; exact own_nil _ _, Below.refl _ _⟩
 case round =>
  obtain ⟨k, hk, rfl, hown, hB⟩ := hrel
  clear l0
  by_cases hlt : k < N
  · have hlt' : (k : Int) < (N : Int) := by omega
    obtain ⟨r, hr, hfs, g, o, rfl, hld⟩ := HFS.out k hlt
    have d0 := hld wr (hb0.trans (hB.mono hb0.size))
    have HQ := Lib.hid (HRQ.out r hr)
    have HFK := Lib.hid hfs
    have HFKL := Lib.hid (HFL.out k hk)
    have hlen : (F k).length ≤ 1073741824 := by rw [HFL.out k hk]; omega
    generalize reqQ r = RR at *
    obtain ⟨rc, rq, rl, rk, rv⟩ := r
    dsimp only at d0 HQ
    obtain ⟨w2, hw2⟩ : ∃ w2, wr.alloc (.cells #[.int .i64 rc, .int .i64 rq, .string rl, .string rk, .string rv] 58) = w2 := ⟨_, rfl⟩
    have hb2 : Below wr.heap.size wr w2 := by rw [← hw2]; exact (Below.refl _ wr).alloc (Nat.le_refl _) _
    have k9 : Blk w2 wr.heap.size 58 #[.int .i64 rc, .int .i64 rq, .string rl, .string rk, .string rv] := by rw [← hw2]; exact Blk.new _ _ _
    have hown2 := hown.below hb2
    have hB2 := hB.trans (hb2.mono hB.size)
    have d1 := req_load5 k9
    have HW2 := Lib.hid hw2
    obtain ⟨g9, hg9⟩ : ∃ g9, wr.heap.size = g9 := ⟨_, rfl⟩
    have HG9 := Lib.hid hg9
    rw [hg9] at d1
    clear hfs hr hld hown hB hw2 hb2 k9 hg9
    go_wp2_with (rw [HW2.out, HG9.out])
    refine (HQ.out _).mono ?_
    rintro e w3 ⟨rfl, hb3⟩
    have hown3 := hown2.below hb3
    have hB3 := hB2.trans (hb3.mono hB2.size)
    clear hown2 hB2 hb3 d0 d1 HQ
    go_wp2_with (at_builtin; refine wpList_append_txt rfl _ _ rfl w0.heap.size u3 (F k) rfl hown3 RR rfl hlen hB3.size ?_)
    intro g5 c5 w5 hown5 hg5
    rw [HFKL.out, ← HFK.out] at hown5
    have hB5 := hB3.grown hg5 hB3.size (fun z hz => by have := (World.ownsRow.lt hown3 z hz).1; omega)
    clear hown3 hB3 hg5
    rw [HFKL.out]
    go_wp2
    go_roundw
    case rel => exact ⟨k + 1, by omega, by go_num, hown5, hB5⟩
    case measure => simp [intOf]; omega
  · obtain rfl : N = k := by omega
    have hlt' : ¬ (N : Int) < (N : Int) := by omega
    have l1 := (HK0.out wr hB).2
    obtain ⟨o1, c1, hv, hS1⟩ := hown.form
    rw [HFL.out N (Nat.le_refl _)] at hv
    rw [HFN.out] at hS1
    subst hv
    have HOA := Lib.hid hS1
    have HBA := Lib.hid hB
    clear hown hS1 hB HFL HFS HF0 HFN HRQ hlt
    generalize wr = wo at *
    go_wp2_with fail
    go_loopw [4, 25] (fun v i wr => ∃ k : Nat, k ≤ M ∧ i = .int .i64 k ∧ Own wr wo.heap.size v (G k) ∧ Below wo.heap.size wo wr) (fun _ i _ => M - (intOf i).toNat)
    case atStart => exact ⟨0, by omega, rfl, by rw [HG0.out]; exact own_nil _ _, Below.refl _ _⟩
    case round =>
     obtain ⟨k, hk, rfl, hown, hB⟩ := hrel
     clear l1
     by_cases hlt : k < M
     · have hlt' : (k : Int) < (M : Int) := by omega
       obtain ⟨r, hfs, g, o, rfl, hld⟩ := HGS.out k hlt
       have hb9 := hb0.trans (HBA.out.mono hb0.size)
       have d0 := hld wr (hb9.trans (hB.mono hb9.size))
       have HFK := Lib.hid hfs
       have HFKL := Lib.hid (HGL.out k hk)
       have hlen : (G k).length ≤ 1073741824 := by rw [HGL.out k hk]; omega
       obtain ⟨rq, rz, rt, rr, rm⟩ := r
       dsimp only at d0 HFK
       have H1 := Lib.hid (fun X => number_any rz X)
       have H2 := Lib.hid (fun X => number_any rt X)
       have z1 := num4_size rz
       have z2 := num4_size rt
       generalize num4 rz = A1 at *
       generalize num4 rt = A2 at *
       have r1 := addRun (a := A1) (b := A2) (by omega)
       generalize A1 ++ A2 = A3 at *
       obtain ⟨w2, hw2⟩ : ∃ w2, wr.alloc (.cells #[.int .i64 rq, .int .i64 rz, .int .i64 rt, .string rr, .string rm] 48) = w2 := ⟨_, rfl⟩
       have hb2 : Below wr.heap.size wr w2 := by rw [← hw2]; exact (Below.refl _ wr).alloc (Nat.le_refl _) _
       have k9 : Blk w2 wr.heap.size 48 #[.int .i64 rq, .int .i64 rz, .int .i64 rt, .string rr, .string rm] := by rw [← hw2]; exact Blk.new _ _ _
       have HOW := Lib.hid (hown.below hb2)
       have HBW := Lib.hid (hB.trans (hb2.mono hB.size))
       have HK9 := Lib.hid k9
       have HW2 := Lib.hid hw2
       obtain ⟨g9, hg9⟩ : ∃ g9, wr.heap.size = g9 := ⟨_, rfl⟩
       have HG9 := Lib.hid hg9
       have HN9 : Hid (some wr.heap.size ≠ u4.ownBlock) := Lib.hid fun e => by have := (World.ownsRow.lt hown _ e.symm).2; omega
       have HKP : Hid (∀ X, w2.grownBy X u4.ownBlock → ((loadVar 3 ⟨g9, 1, none⟩).run Tryz.prog X = .ok (.int .i64 rz) X ∧ (loadVar 3 ⟨g9, 2, none⟩).run Tryz.prog X = .ok (.int .i64 rt) X) ∧ w2.grownBy X u4.ownBlock) := Lib.hid fun X hX => by
        have := HK9.out.grown hX HN9.out
        rw [HG9.out] at this
        exact ⟨⟨num_load (this.cell 1), num_load (this.cell 2)⟩, hX⟩
       have hle2 : wo.heap.size ≤ w2.heap.size := HBW.out.size
       clear hfs hld hown hB hw2 hb2 k9 hg9 hb9 z1 z2
       go_wp2_with (rw [HW2.out, HG9.out])
       clear d0
       go_region_held3 (fun w' => ((loadVar 3 ⟨g9, 1, none⟩).run Tryz.prog w' = .ok (.int .i64 rz) w' ∧ (loadVar 3 ⟨g9, 2, none⟩).run Tryz.prog w' = .ok (.int .i64 rt) w') ∧ w2.grownBy w' u4.ownBlock)
        ((refine HKP.out _ ?_; first | exact hG3 | exact grown_alloc hG2 _ | exact hG2 | exact hG1 | exact only_drew (grown_refl _ _) | exact grown_refl _ _))
        (first
         | (have := hb1; go_at_call 32; refine (H2.out _).mono ?_; rintro e w3 ⟨rfl, hb3⟩; have hb3' := hb1.trans (hb3.mono hb1.size); have hG2 : w2.grownBy w3 u4.ownBlock := only_of_below hb3' _)
         | (go_at_call 32; refine (H1.out _).mono ?_; rintro e w4 ⟨rfl, hb4⟩; have hb1 : Below w2.heap.size w2 w4 := (Below.refl _ _).drew.trans hb4; have hG1 : w2.grownBy w4 u4.ownBlock := only_of_below hb1 _)
         | (have := hG2; (refine step_append_txt (by rfl) _ _ (by rfl) wo.heap.size u4 (G k) (by rfl) (HOW.out.below hb3') A3 (by rfl) hlen (Nat.le_trans hle2 hG2.size) ?_; intro g2 cap2 w5 hown2 hgr2; have hG3 : w2.grownBy w5 u4.ownBlock := grown_trans hG2 hgr2)))
       rw [HFKL.out, ← HFK.out] at hown2
       have hB5 := HBW.out.grown hG3 hle2 (fun q hq => (World.ownsRow.lt HOW.out q hq).1)
       rw [HFKL.out]
       rename_i hHeld
       clear hHeld hG1 hG2 hG3 hgr2 hb1 hb3 hb3' hb4 HKP HN9 HOW HBW HK9 H1 H2 r1
       go_wp2
       go_roundw
       case rel => exact ⟨k + 1, by omega, by go_num, hown2, hB5⟩
       case measure => simp [intOf]; omega
     · obtain rfl : M = k := by omega
       have hltM : ¬ (M : Int) < (M : Int) := by omega
       have hS1 := HOA.out.below hB
       obtain ⟨o2, c2, hv, hS2⟩ := hown.form
       rw [HGL.out M (Nat.le_refl _)] at hv
       rw [HGN.out] at hS2
       subst hv
       have H1 := Lib.hid (fun X hX => HL1.out o1 c1 X hX)
       have H2 := Lib.hid (fun X hX => HL2.out o2 c2 X hX)
       have hB9 := hb0.trans ((HBA.out.trans (hB.mono HBA.out.size)).mono hb0.size)
       have z0 : (⟨#[83]⟩ : ByteArray).size = 1 := rfl
       have hp := HP.out
       have z1 := HS1.out
       have z2 := HS2.out
       generalize listB TA = X1 at *
       generalize listB TB = X2 at *
       have a1 : ¬ (⟨#[83]⟩ : ByteArray).size + X1.size > 9223372036854775807 := by omega
       have a2 : ¬ ((⟨#[83]⟩ : ByteArray) ++ X1).size + X2.size > 9223372036854775807 := by rw [ByteArray.size_append]; omega
       clear z0 z1 z2 hp hown hB HL1 HL2 HGL HGS HG0 HGN hlt
       go_wp2_with fail
       refine (H1.out _ hS1).mono ?_
       rintro e w5 ⟨rfl, hb5⟩
       have hS3 := hS2.below hb5
       have hB10 := hB9.trans (hb5.mono hB9.size)
       clear hb5 hS1 hS2 hB9
       go_wp2_with fail
       refine (H2.out _ hS3).mono ?_
       rintro e w6 ⟨rfl, hb6⟩
       have hB11 := hB10.trans (hb6.mono hB10.size)
       go_wp2
       go_ret
       rw [HE.out]
       exact ⟨rfl, hB11⟩
end
theorem export_any (P : Nat → Prop) (cs : Array Value) (W : Wd) (hi : InvW W) (w : World) (h : StC w P cs W) :
 Calls Tryz.prog 14 #[.agg cs] w fun e w' => e = .returned (.string (expB W)) ∧ Below w.heap.size w w' := by
 obtain ⟨a, b, rfl, ⟨oa, ca, rfl, hA, _⟩, ⟨ob, cb, rfl, hB, _⟩⟩ := h
 exact export_in oa ob _ ca _ cb _ _ _ _ W rfl rfl hi w hA hB
end Go.Proofs.YtnbboabaihddbaaGreat
namespace Go.Proofs.YtnbboabaihddbaaGreat
open Go.RowKit

/-- as many as n, or as are nearest to n -/
def nearN (n : Int) (N : Nat) : Nat := (min (max n 0) (N : Int)).toNat
theorem nearN_le (n : Int) (N : Nat) : nearN n N ≤ N := by unfold nearN; omega
theorem nearN_int (n : Int) (N : Nat) : min (max n 0) (N : Int) = (nearN n N : Int) := by unfold nearN; omega
set_option maxRecDepth 100000 in
theorem slice_req (oa : Option Addr) (n cap k : Nat) (hk : k ≤ cap) (W : World) : (Instr.slice 32 (.slice oa n cap) none (some (.int .i64 (k : Int))) none).run Tryz.prog W = .ok (.slice oa k cap) W := by
 rw [run_slice_h W _ _ n cap Tryz.underlying32 .i64 (k : Int) (by omega) (by omega)]
 have hs : (sizeOf (Tryz.prog.elem 32)).run Tryz.prog W = .ok 5 W := by kernel_rfl
 rw [hs]
 simp only [Result.andThen_ok, sliced, Int.toNat_natCast, Nat.zero_mul, Nat.sub_zero]
 congr 2
 split
 · rfl
 · cases oa with
   | none => rfl
   | some a => simp [Addr.add]
section
attribute [-go_sem] loadVar
set_option maxRecDepth 100000 in
set_option maxHeartbeats 1000000 in
theorem first_any (oa : Option Addr) (N ca : Nat) (x y z u : Lst) (vb : Value) (n : Int) (hle : N ≤ ca) (hN : N ≤ 1000000) (hn : -9223372036854775808 ≤ n ∧ n ≤ 9223372036854775807) (w : World) :
 Calls Tryz.prog 70 #[.agg (cellsS (.slice oa N ca) x y z u vb), .int .i64 n] w fun e w' => e = .returned (.slice oa (nearN n N) ca) ∧ Below w.heap.size w w' := by
 obtain ⟨w0, hw0⟩ : ∃ w0, w.alloc (.cells (cellsS (.slice oa N ca) x y z u vb) 41) = w0 := ⟨_, rfl⟩
 have hb0 : Below w.heap.size w w0 := by rw [← hw0]; exact (Below.refl _ w).alloc (Nat.le_refl _) _
 have k0 : Blk w0 w.heap.size 41 (cellsS (.slice oa N ca) x y z u vb) := by rw [← hw0]; exact Blk.new _ _ _
 have l0 := sl_req (w := w0) (p := ⟨w.heap.size, 0, none⟩) (k0.cell 0)
 change (loadVar 32 _).run Tryz.prog w0 = .ok (.slice oa N ca) w0 at l0
 have HW0 := Lib.hid hw0
 have hk := nearN_le n N
 have hs := slice_req oa N ca (nearN n N) (by omega) w0
 have hm := nearN_int n N
 generalize nearN n N = k at *
 clear hw0 k0
 go_enter Tryz.func70, Tryz.ntmps70
 go_wp2_with (rw [HW0.out])
 go_ret
 exact ⟨rfl, hb0⟩
/-- the head of a number, and whether it is there -/
def headAt (hd : List Hd) (q : Int) : Hd × Bool := if 1 ≤ q ∧ q ≤ hd.length then (hd.getD (q.toNat - 1) default, true) else (default, false)
def zeroHd : Array Value := #[.int .i64 0, .int .i64 0, .int .i64 0, .string ⟨#[]⟩, .string ⟨#[]⟩]
theorem info5 : (Tryz.prog.info? 48).map (·.size) = some 5 := by kernel_rfl
theorem hd_one (a b c : Int) (d e : ByteArray) : ((#[.int .i64 a, .int .i64 b, .int .i64 c, .string d, .string e] : Array Value).all fun x => x.oneCell') = true := by simp [Value.oneCell']
set_option maxRecDepth 100000 in
set_option maxHeartbeats 1000000 in
theorem stHead_any (va : Value) (x y z u : Lst) (ob : Option Addr) (m cb : Nat) (hd : List Hd) (hm : hd.length = m) (hN : m ≤ 1000000) (q : Int) (hq : -9223372036854775808 ≤ q ∧ q ≤ 9223372036854775807) (w : World) (hD : RowG hdK w ob hd) :
 Calls Tryz.prog 43 #[.agg (cellsS va x y z u (.slice ob m cb)), .int .i64 q] w fun e w' => e = .returned (.tuple #[.agg (headAt hd q).1.enc.toArray, .bool (headAt hd q).2]) ∧ Below w.heap.size w w' := by
 obtain ⟨w0, hw0⟩ : ∃ w0, (w.alloc (.cells (cellsS va x y z u (.slice ob m cb)) 41)).alloc (.cells zeroHd 48) = w0 := ⟨_, rfl⟩
 have hb0 : Below w.heap.size w w0 := by rw [← hw0]; exact ((Below.refl _ w).alloc (Nat.le_refl _) _).alloc (by simp) _
 have k0 : Blk w0 w.heap.size 41 (cellsS va x y z u (.slice ob m cb)) := by rw [← hw0]; exact (Blk.new _ _ _).alloc _
 have k1 : Blk w0 (w.heap.size + 1) 48 zeroHd := by rw [← hw0]; exact Blk.new_at (by simp)
 have l0 := sl_hd (w := w0) (p := ⟨w.heap.size, 21, none⟩) (k0.cell 21)
 change (loadVar 39 _).run Tryz.prog w0 = .ok (.slice ob m cb) w0 at l0
 have hz : ∀ W : World, (zeroValue 48).run Tryz.prog W = .ok (.agg zeroHd) W := fun W => by kernel_rfl
 have hno : ¬ (1 ≤ q ∧ q ≤ (m : Int)) → (headAt hd q).1.enc.toArray = zeroHd ∧ (headAt hd q).2 = false := fun h => by
  unfold headAt
  rw [hm, if_neg h]
  exact ⟨rfl, rfl⟩
 have HI := Lib.hid (show (Tryz.prog.info? 48).map (·.size) = some zeroHd.size from info5)
 have HO := Lib.hid (show (zeroHd.all fun x => x.oneCell') = true from hd_one 0 0 0 ⟨#[]⟩ ⟨#[]⟩)
 have HZ := Lib.hid (show zeroHd = #[.int .i64 0, .int .i64 0, .int .i64 0, .string ⟨#[]⟩, .string ⟨#[]⟩] from rfl)
 have HK1 := Lib.hid k1
 have HW0 := Lib.hid hw0
 have HB0 := Lib.hid hb0
 by_cases hin : 1 ≤ q ∧ q ≤ (m : Int)
 · obtain ⟨j, rfl⟩ : ∃ j : Nat, q = (j : Int) + 1 := ⟨(q - 1).toNat, by omega⟩
   have hj : j < hd.length := by omega
   have hyes : (headAt hd ((j : Int) + 1)).1 = hd[j] ∧ (headAt hd ((j : Int) + 1)).2 = true := by
    unfold headAt
    rw [hm, if_pos hin, show ((j : Int) + 1).toNat - 1 = j by omega]
    refine ⟨?_, rfl⟩
    show hd.getD j default = hd[j]
    rw [List.getD_eq_getElem?_getD, List.getElem?_eq_getElem hj]
    rfl
   rw [hyes.1, hyes.2]
   obtain ⟨g, o, rfl, hg, c0, c1, c2, c3, c4⟩ := hd_at hD hj
   have hrow : RowG hdK w0 (some ⟨g, o, none⟩) hd := hD.below hb0
   have lh := RowG.load hdOk hrow (List.getElem?_eq_getElem hj)
   change (loadVar 48 ⟨g, o + j * 5, none⟩).run Tryz.prog w0 = .ok (.agg #[.int .i64 hd[j].q, .int .i64 hd[j].z, .int .i64 hd[j].t, .string hd[j].r, .string hd[j].m]) w0 at lh
   unfold Hd.enc
   obtain ⟨X, hX⟩ : ∃ X, hd[j] = X := ⟨_, rfl⟩
   rw [hX] at lh ⊢
   clear hyes c0 c1 c2 c3 c4
   clear hX
   obtain ⟨h1, h2, h3, h4, h5⟩ := X
   dsimp only at lh ⊢
   have hjm : (j : Int) < (m : Int) := by omega
   have t1 : ¬ ((j : Int) + 1 < 1) := by omega
   have t2 : ¬ ((m : Int) < (j : Int) + 1) := by omega
   have e1 : (j : Int) + 1 - 1 = (j : Int) := by omega
   clear hw0 k0 k1 hb0 hD hno hrow hin hm
   have HIX := Lib.hid (show (Tryz.prog.info? 48).map (·.size) = some (#[.int .i64 h1, .int .i64 h2, .int .i64 h3, .string h4, .string h5] : Array Value).size from info5)
   go_enter Tryz.func43, Tryz.ntmps43
   go_wp2_with (first
    | rw [HW0.out]
    | (refine wpList_store_row rfl 48 _ _ rfl (w.heap.size + 1) #[.int .i64 h1, .int .i64 h2, .int .i64 h3, .string h4, .string h5] rfl rfl 48 zeroHd HK1.out HIX.out rfl (hd_one _ _ _ _ _) ?_))
   have n5 := setRow_heap w0 (w.heap.size + 1) zeroHd #[.int .i64 h1, .int .i64 h2, .int .i64 h3, .string h4, .string h5] 48 (0, 0) HK1.out
   refine bodyPost_ret (results_row_tmp rfl _ _ (w.heap.size + 1) 48 #[.int .i64 h1, .int .i64 h2, .int .i64 h3, .string h4, .string h5] _ rfl n5 Tryz.underlying48 rfl HIX.out) rfl ?_
   exact ⟨rfl, HB0.out.grown (only_setRow (grown_refl _ _) _) HB0.out.size (fun k hk => by injection hk; omega)⟩
 · rw [(hno hin).1, (hno hin).2]
   have n5 := setRow_heap w0 (w.heap.size + 1) zeroHd zeroHd 48 (0, 0) HK1.out
   clear hw0 k0 k1 hb0 hD hno hm
   rcases (by omega : q < 1 ∨ (¬ q < 1 ∧ (m : Int) < q)) with t1 | ⟨t1, t2⟩
   all_goals
    clear hin
    go_enter Tryz.func43, Tryz.ntmps43
    go_wp2_with (first
     | rw [HW0.out]
     | (refine wpList_store_row rfl 48 _ _ rfl (w.heap.size + 1) zeroHd rfl rfl 48 zeroHd HK1.out HI.out rfl HO.out ?_))
    refine bodyPost_ret (results_row_tmp rfl _ _ (w.heap.size + 1) 48 zeroHd _ rfl n5 Tryz.underlying48 rfl HI.out) rfl ?_
    exact ⟨rfl, HB0.out.grown (only_setRow (grown_refl _ _) _) HB0.out.size (fun k hk => by injection hk; omega)⟩
end
end Go.Proofs.YtnbboabaihddbaaGreat

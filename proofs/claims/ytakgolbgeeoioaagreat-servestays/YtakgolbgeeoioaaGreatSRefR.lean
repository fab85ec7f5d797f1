/-
 The reference's Root: of pairs, at a depth: 32 bytes.
-/
import Derived.Test.YtakgolbgeeoioaaGreatYRef3SRefD
namespace Go.Proofs.YtakgolbgeeoioaaGreat
open Go.RowKit

/-- 32 bytes -/
def R32 (w : World) (e : Ending) (w' : World) : Prop := (∃ r : ByteArray, e = .returned (.string r) ∧ r.size = 32) ∧ Below w.heap.size w w'
theorem pair_load {w : World} {g o : Nat} {X Y : ByteArray} (h1 : w.cell? ⟨g, o, none⟩ = some (.string X)) (h2 : w.cell? ⟨g, o + 1, none⟩ = some (.string Y)) : (loadVar 123 ⟨g, o, none⟩).run Tryz.prog w = .ok (.agg #[.string X, .string Y]) w :=
 run_loadVar_mid (P := Tryz.prog) w g o 123 [.string X, .string Y] _ (fun j v hv => by
  match j with
  | 0 => simp at hv; rw [← hv]; exact h1
  | 1 => simp at hv; rw [← hv]; exact h2
  | j + 2 => simp at hv) Tryz.underlying123 rfl (by kernel_rfl)
def emL (f : Nat → ByteArray) : List Value := (List.range 257).map fun d => Value.string (f d)
theorem emC_L (f : Nat → ByteArray) : emC f = (emL f).toArray := rfl
theorem emL_len (f : Nat → ByteArray) : (emL f).length = 257 := by simp [emL]
theorem em_range {w : World} {g : Nat} {L : List Value} (h : Blk w g 55 L.toArray) : w.rangeAt g 0 L := fun j v hv => by
 rw [Nat.zero_add, h.cell, List.getElem?_toArray]
 exact hv
section
attribute [-go_sem] loadVar
set_option maxRecDepth 100000 in
set_option maxHeartbeats 4000000 in
theorem srroot_any (k : Nat) : ∀ (d : Nat) (_ : d + k = 256) (oa ob : Option Addr) (n cap capb : Nat) (ps : List (ByteArray × ByteArray)) (pths : List ByteArray) (_ : ps.length = n) (_ : pths.length = n) (_ : n ≤ 1000) (_ : FitP ps) (_ : ∀ s ∈ pths, s.size = 32) (w : World) (_ : Prs w oa ps) (_ : Strs w ob pths),
 Calls Tryz.prog 52 #[.agg (emC emp), .slice oa n cap, .slice ob n capb, .int .i64 d] w (R32 w) := by
 induction k with
 | zero =>
  intro d hd oa ob n cap capb ps pths hn hq hsz hF hS w hP hT
  obtain rfl : d = 256 := by omega
  have b0 : Blk (w.alloc (.cells (emC emp) 55)) w.heap.size 55 (emC emp) := Blk.new _ _ _
  have hB0 := (Below.refl _ w).alloc (Nat.le_refl _) (.cells (emC emp) 55)
  have HR32 : Hid (∀ e w', R32 w e w' = ((∃ r : ByteArray, e = .returned (.string r) ∧ r.size = 32) ∧ Below w.heap.size w w')) := Lib.hid fun _ _ => rfl
  generalize R32 w = PO at *
  by_cases hn0 : n = 0
  · subst hn0
    have hc := txt_load ((b0.cell 256).trans (emC_at emp (by decide)))
    have HE := Lib.hid (emp_size 256)
    generalize emp 256 = E at *
    clear hn hq hF hS hP hT
    go_enter Tryz.func52, Tryz.ntmps52
    go_wp2
    rw [HR32.out]
    exact ⟨⟨E, rfl, HE.out⟩, hB0⟩
  · have hn1 : ((n : Int) == 0) = false := by rw [beq_eq_false_iff_ne]; omega
    have HL := Lib.hid (fun W hP => least_any oa n cap ps hn (by omega) hsz hF W hP)
    unfold RPr at HL
    have HP := Lib.hid (hP.below hB0)
    have HB0 := Lib.hid hB0
    have HO := Lib.hid (fun (X Y : ByteArray) (hx : X.size ≤ 250) (hy : Y.size ≤ 250) W => rown_any X Y (by omega) (by omega) W)
    have HOS := Lib.hid ownS_size
    clear hn hq hF hS hP hT b0 hB0
    go_enter Tryz.func52, Tryz.ntmps52
    go_wp2_with fail
    refine (HL.out _ HP.out).mono ?_
    rintro e w2 ⟨⟨X, Y, rfl, hx, hy⟩, hB2⟩
    have hB2' := HB0.out.trans (hB2.mono HB0.out.size)
    clear hB2
    go_wp2_with fail
    refine (HO.out X Y hx hy _).mono ?_
    rintro e w3 ⟨rfl, hB3⟩
    have hB3' := hB2'.trans (hB3.mono hB2'.size)
    have hos := HOS.out X Y
    generalize ownS X Y = R at *
    clear hB3
    go_wp2
    rw [HR32.out]
    exact ⟨⟨R, rfl, hos⟩, hB3'⟩
 | succ k ih =>
  intro d hd oa ob n cap capb ps pths hn hq hsz hF hS w hP hT
  have hd1 : d < 256 := by omega
  have hd7 : (d : Int) < 257 := by omega
  have hd2 : ((d : Int) == 256) = false := by rw [beq_eq_false_iff_ne]; omega
  have b0 : Blk (w.alloc (.cells (emC emp) 55)) w.heap.size 55 (emC emp) := Blk.new _ _ _
  have hB0 := (Below.refl _ w).alloc (Nat.le_refl _) (.cells (emC emp) 55)
  have HR32 : Hid (∀ e w', R32 w e w' = ((∃ r : ByteArray, e = .returned (.string r) ∧ r.size = 32) ∧ Below w.heap.size w w')) := Lib.hid fun _ _ => rfl
  have IH := Lib.hid ih
  unfold R32 at IH
  clear ih
  generalize R32 w = PO at *
  have hP0 := hP.below hB0
  have hT0 := hT.below hB0
  obtain ⟨w0, hw0⟩ : ∃ w0, w.alloc (.cells (emC emp) 55) = w0 := ⟨_, rfl⟩
  have HW0 := Lib.hid hw0
  rw [hw0] at b0 hB0 hP0 hT0
  clear hw0 hP hT
  by_cases hn0 : n = 0
  · subst hn0
    have hc := txt_load ((b0.cell d).trans (emC_at emp (by omega)))
    have HE := Lib.hid (emp_size d)
    generalize emp d = E at *
    clear hn hq hF hS hP0 hT0
    go_enter Tryz.func52, Tryz.ntmps52
    go_wp2_with (rw [HW0.out])
    rw [HR32.out]
    exact ⟨⟨E, rfl, HE.out⟩, hB0⟩
  · have hn1 : ((n : Int) == 0) = false := by rw [beq_eq_false_iff_ne]; omega
    have hnp : 0 < n := by omega
    have HIL := emL_len emp
    have hu43 := Tryz.underlying55
    have hi43 : (Tryz.prog.info? 55).map (·.size) = some (emL emp).length := by rw [HIL]; exact infoEm
    have HEM : Hid (∀ W, Below w0.heap.size w0 W → W.rangeAt w.heap.size 0 (emL emp)) := Lib.hid fun W hW => em_range (b0.below hW b0.lt)
    by_cases hn2 : n = 1
    · subst hn2
      obtain ⟨g, o, rfl, hg, c1, c2⟩ := hP0.at (i := 0) (by omega)
      obtain ⟨a, rfl, hab, hcp⟩ := hT0 0 (by omega)
      rw [show a.add 0 = a from rfl] at hcp
      have hps := hS (pths.getD 0 ByteArray.empty) (by rw [List.getD_eq_getElem?_getD, List.getElem?_eq_getElem (by omega)]; exact List.getElem_mem _)
      have hfit := hF.get (i := 0) (by omega)
      rw [Nat.zero_mul, Nat.add_zero] at c1 c2
      generalize pths.getD 0 ByteArray.empty = p at *
      generalize hX : (ps[0]'(by omega)).1 = X at *
      generalize hY : (ps[0]'(by omega)).2 = Y at *
      have HO := Lib.hid (fun W => rown_any X Y (by omega) (by omega) W)
      have HOS := Lib.hid (ownS_size X Y)
      have HC := Lib.hid (fun W => rclimb_any p (ownS X Y) hps (ownS_size X Y) d (by omega) W)
      generalize ownS X Y = R at *
      have HKP : Hid (∀ W, Below w0.heap.size w0 W → (W.rangeAt w.heap.size 0 (emL emp) ∧ (loadVar 9 a).run Tryz.prog W = .ok (.string p) W ∧ (loadVar 123 ⟨g, o, none⟩).run Tryz.prog W = .ok (.agg #[.string X, .string Y]) W) ∧ Below w0.heap.size w0 W) :=
       Lib.hid fun W hW => ⟨⟨HEM.out W hW, txt_load ((hW.cell hab).trans hcp), pair_load ((hW.cell (p := ⟨g, o, none⟩) hg).trans c1) ((hW.cell (p := ⟨g, o + 1, none⟩) hg).trans c2)⟩, hW⟩
      have HB0 := Lib.hid hB0
      rw [emC_L] at HC HW0 ⊢
      generalize emL emp = EL at *
      clear hn hq hF hS hP0 hT0 b0 hB0 c1 c2 hcp hab hg hps hfit hX hY HEM IH HIL
      go_enter Tryz.func52, Tryz.ntmps52
      go_wp2_with (rw [HW0.out])
      go_region_held3 (fun w' => (w'.rangeAt w.heap.size 0 EL ∧ (loadVar 9 a).run Tryz.prog w' = .ok (.string p) w' ∧ (loadVar 123 ⟨g, o, none⟩).run Tryz.prog w' = .ok (.agg #[.string X, .string Y]) w') ∧ Below w0.heap.size w0 w')
       ((refine HKP.out _ ?_; first | exact hE2 | exact hE1 | exact (Below.refl _ _).drew | exact Below.refl _ _))
       (first
        | (have := hE1; go_at_call 84; refine (HC.out _).mono ?_; rintro e y2 ⟨⟨r, rfl, hr⟩, hy2⟩; have hE2 : Below w0.heap.size w0 y2 := hE1.trans (hy2.mono hE1.size))
        | (go_at_call 82; refine (HO.out _).mono ?_; rintro e y1 ⟨rfl, hy1⟩; have hE1 : Below w0.heap.size w0 y1 := (Below.refl _ _).drew.trans hy1))
      have hB9 := HB0.out.trans (hE2.mono HB0.out.size)
      go_wp2
      rw [HR32.out]
      exact ⟨⟨r, rfl, hr⟩, hB9⟩
    · have hn3 : ((n : Int) == 1) = false := by rw [beq_eq_false_iff_ne]; omega
      have HAT : Hid (∀ j, j < n → ∃ g o a X Y s, oa = some ⟨g, o, none⟩ ∧ g < w0.heap.size ∧ ob = some a ∧ a.block < w0.heap.size ∧ w0.cell? ⟨g, o + j * 2, none⟩ = some (.string X) ∧ w0.cell? ⟨g, o + j * 2 + 1, none⟩ = some (.string Y) ∧ w0.cell? (a.add j) = some (.string s) ∧ X.size ≤ 250 ∧ Y.size ≤ 250 ∧ s.size = 32) := Lib.hid fun j hj => by
       obtain ⟨g, o, h1, h2, h3, h4⟩ := hP0.at (i := j) (by omega)
       obtain ⟨a, h5, h6, h7⟩ := hT0 j (by omega)
       have := hF.get (i := j) (by omega)
       refine ⟨g, o, a, _, _, _, h1, h2, h5, h6, h3, h4, h7, this.1, this.2, hS _ ?_⟩
       rw [List.getD_eq_getElem?_getD, List.getElem?_eq_getElem (by omega)]
       exact List.getElem_mem _
      have HIH := Lib.hid (fun oa ob m cap capb ps pths h1 h2 h3 h4 h5 W h6 h7 => IH.out (d + 1) (by omega) oa ob m cap capb ps pths h1 h2 h3 h4 h5 W h6 h7)
      have HH := Lib.hid (fun (b : ByteArray) (hb : b.size ≤ 1000) W => rh5_any b (by omega) W)
      have HHS := Lib.hid hB_size
      have HB0 := Lib.hid hB0
      have hz0 : w0.heap.size = w.heap.size + 1 := by rw [← HW0.out]; simp
      have HZ0 := Lib.hid hz0
      have hd3 : IntKind.i64.wrap ((d : Int) + 1) = (d : Int) + 1 := by have := i64_small (n := d + 1) (by omega); simpa using this
      have e1 : ((d + 1 : Nat) : Int) = (d : Int) + 1 := by omega
      rw [e1] at HIH
      rw [emC_L] at HIH HW0 ⊢
      generalize emL emp = EL at *
      clear hn hq hF hS hP0 hT0 b0 hB0 IH HIL hz0 e1
      go_enter Tryz.func52, Tryz.ntmps52
      go_wp2_with (rw [HW0.out])
      go_loopw [9, 10, 11, 12, 13] (fun va vb vp vq i wr => ∃ (j : Nat) (A Bs : List (ByteArray × ByteArray)) (P Q : List ByteArray), j ≤ n ∧ i = .int .i64 j ∧ TwoS wr w0.heap.size va vp A P ∧ TwoS wr w0.heap.size vb vq Bs Q ∧ Apt4 va vb vp vq ∧ A.length ≤ j ∧ Bs.length ≤ j ∧ Below w0.heap.size w0 wr) (fun _ _ _ _ i _ => n - (intOf i).toNat)
      case atStart => exact ⟨0, [], [], [], [], by omega, rfl, twoS_nil _ _, twoS_nil _ _, apt4_nil, Nat.le_refl _, Nat.le_refl _, Below.refl _ _⟩
      case round =>
       obtain ⟨j, A, Bs, P, Q, hj, rfl, hA, hB, hapt, hla, hlb, hBr⟩ := hrel
       by_cases hlt : j < n
       · have hlt' : (j : Int) < (n : Int) := by omega
         obtain ⟨g, o, a, X, Y, s, rfl, hg, rfl, hab, c1, c2, hcp, hx, hy, hss⟩ := HAT.out j hlt
         have hfit : (X, Y).1.size ≤ 250 ∧ (X, Y).2.size ≤ 250 := ⟨hx, hy⟩
         have hl1 := pair_load ((hBr.cell (p := ⟨g, o + j * 2, none⟩) hg).trans c1) ((hBr.cell (p := ⟨g, o + j * 2 + 1, none⟩) hg).trans c2)
         replace hab : (a.add j).block < w0.heap.size := by rw [add_block]; exact hab
         have hl2 := txt_load ((hBr.cell hab).trans hcp)
         have hcp0 := hcp
         have HBI := Lib.hid (fun W => rbit_any s d hd1 (by omega) W)
         have hb2 : bitN s d = 0 ∨ bitN s d = 1 := by rw [bitN_eq]; split <;> simp
         clear c1 c2 hcp HAT HIH HH
         go_wp2_with fail
         refine (HBI.out _).mono ?_
         rintro e w2 ⟨rfl, rfl⟩
         rcases hb2 with hb2 | hb2
         · rw [hb2]
           have hl90 := hA.own
           go_wp2_with (at_builtin; refine wpList_append_pair rfl _ _ rfl w0.heap.size u9 A rfl hA.own (X, Y) rfl (by omega) hBr.size ?_)
           intro g5 c5 w5 hown5 hg5 hat5
           have hB5' := hBr.grown hg5 hBr.size (fun z hz => (World.ownsRow.lt hA.own z hz).1)
           have hp5 := hA.ownp.grown2 hg5 (hapt).ap.kept
           have hk5 := hB.kept hg5 (hapt).ab.kept (hapt).aq.kept
           have hapt5 := apt4_a (l := A.length + 1) (c := c5) (hapt) hA hB hA.ownp hat5
           have hld5 := txt_load ((hB5'.cell hab).trans hcp0)
           clear hg5 hat5
           go_wp2_with (at_builtin; refine wpList_append_txt2 rfl _ _ rfl w0.heap.size u11 P rfl hp5 s rfl (by have := hA.len; omega) hB5'.size ?_)
           intro g6 c6 w6 hown6 hg6 hat6
           have hB6' := hB5'.grown hg6 hB5'.size (fun z hz => (World.ownsRow.lt hp5 z hz).1)
           have hA6 := hown5.grown hg6 hapt5.ap.symm.kept
           have hB6 := hk5.kept hg6 hapt5.bp.symm.kept hapt5.pq.kept
           have hapt6 := apt4_p (l := P.length + 1) (c := c6) hapt5 hown5 hk5 hat6
           clear hg6 hat6 hld5
           go_wp2
           go_roundw
           case rel => exact ⟨j + 1, A ++ [(X, Y)], Bs, P ++ [s], Q, by omega, by go_num, ⟨hA6, hown6, by simp [hA.len], hA.fit.snoc hfit, sz_snoc hA.sz hss⟩, hB6, hapt6, by simp; omega, by omega, hB6'⟩
           case measure => simp [intOf]; omega
         · rw [hb2]
           have hl100 := hB.own
           go_wp2_with (at_builtin; refine wpList_append_pair rfl _ _ rfl w0.heap.size u10 Bs rfl hB.own (X, Y) rfl (by omega) hBr.size ?_)
           intro g5 c5 w5 hown5 hg5 hat5
           have hB5' := hBr.grown hg5 hBr.size (fun z hz => (World.ownsRow.lt hB.own z hz).1)
           have hp5 := hB.ownp.grown2 hg5 (hapt.swap).ap.kept
           have hk5 := hA.kept hg5 (hapt.swap).ab.kept (hapt.swap).aq.kept
           have hapt5 := apt4_a (l := Bs.length + 1) (c := c5) (hapt.swap) hB hA hB.ownp hat5
           have hld5 := txt_load ((hB5'.cell hab).trans hcp0)
           clear hg5 hat5
           go_wp2_with (at_builtin; refine wpList_append_txt2 rfl _ _ rfl w0.heap.size u12 Q rfl hp5 s rfl (by have := hB.len; omega) hB5'.size ?_)
           intro g6 c6 w6 hown6 hg6 hat6
           have hB6' := hB5'.grown hg6 hB5'.size (fun z hz => (World.ownsRow.lt hp5 z hz).1)
           have hA6 := hown5.grown hg6 hapt5.ap.symm.kept
           have hB6 := hk5.kept hg6 hapt5.bp.symm.kept hapt5.pq.kept
           have hapt6 := apt4_p (l := Q.length + 1) (c := c6) hapt5 hown5 hk5 hat6
           clear hg6 hat6 hld5
           go_wp2
           go_roundw
           case rel => exact ⟨j + 1, A, Bs ++ [(X, Y)], P, Q ++ [s], by omega, by go_num, hB6, ⟨hA6, hown6, by simp [hB.len], hB.fit.snoc hfit, sz_snoc hB.sz hss⟩, hapt6.swap, by omega, by simp; omega, hB6'⟩
           case measure => simp [intOf]; omega
       · obtain rfl : j = n := by omega
         have hlt' : ¬ (j : Int) < (j : Int) := by omega
         obtain ⟨o1, c1, hv1, hc1, hp1⟩ := hA.own.form
         obtain ⟨o2, c2, hv2, hp2⟩ := hA.ownp.form
         obtain ⟨o3, c3, hv3, hc3, hp3⟩ := hB.own.form
         obtain ⟨o4, c4, hv4, hp4⟩ := hB.ownp.form
         rw [← hA.len] at hv2
         rw [← hB.len] at hv4
         subst hv1 hv2 hv3 hv4
         have HR1 := Lib.hid (fun W h6 h7 => HIH.out o1 o2 A.length c1 c2 A P rfl hA.len.symm (by omega) hA.fit hA.sz W h6 h7)
         have HR2 := Lib.hid (fun W h6 h7 => HIH.out o3 o4 Bs.length c3 c4 Bs Q rfl hB.len.symm (by omega) hB.fit hB.sz W h6 h7)
         have HP1 := Lib.hid hp1
         have HP2 := Lib.hid hp2
         have HP3 := Lib.hid hp3
         have HP4 := Lib.hid hp4
         have HBR := Lib.hid (HB0.out.trans (hBr.mono HB0.out.size))
         have HKP : Hid (∀ W, Below wr.heap.size wr W → (loadVar 55 ⟨w.heap.size, 0, none⟩).run Tryz.prog W = .ok (.agg EL.toArray) W ∧ Below wr.heap.size wr W) := Lib.hid fun W hW => ⟨run_loadVar_mid W w.heap.size 0 55 EL _ (HEM.out W (hBr.trans (hW.mono hBr.size))) hu43 rfl hi43, hW⟩
         have z0 : (⟨#[78]⟩ : ByteArray).size = 1 := rfl
         generalize A.length = m1 at *
         generalize Bs.length = m2 at *
         clear hlt hp1 hp2 hp3 hp4 hA hB hapt hc1 hc3 HAT HIH HEM hBr HB0
         go_wp2
         refine wp_region_held_drew (S := fun w' => (loadVar 55 ⟨w.heap.size, 0, none⟩).run Tryz.prog w' = .ok (.agg EL.toArray) w' ∧ Below wr.heap.size wr w') (by kernel_rfl) ?_ (fun hHeld0 => ?_)
         · (refine HKP.out _ ?_; first | exact hE3 | exact hE2 | exact hE1 | exact (Below.refl _ _).drew | exact Below.refl _ _)
         refine takeH (i := 0) (v := ?v0) rfl (by kernel_rfl) (by kernel_rfl) (by kernel_rfl) (fun _ _ _ h => h) (by rfl) ?hy0 (by assumption) ?_
         case hy0 => (intro w hSw; (try dsimp only at hSw); go_simp; try with_reducible rfl)
         (try simp only [Act.put, List.setIfInBounds_toArray, List.set_cons_zero, List.set_cons_succ])
         refine takeH (i := 1) (v := ?v1) rfl (by kernel_rfl) (by kernel_rfl) (by kernel_rfl) (fun _ _ _ h => h) (by rfl) ?hy1 (by assumption) ?_
         case hy1 => (intro w hSw; (try dsimp only at hSw); go_simp; try with_reducible rfl)
         (try simp only [Act.put, List.setIfInBounds_toArray, List.set_cons_zero, List.set_cons_succ])
         refine takeH (i := 2) (v := ?v2) rfl (by kernel_rfl) (by kernel_rfl) (by kernel_rfl) (fun _ _ _ h => h) (by rfl) ?hy2 (by assumption) ?_
         case hy2 => (intro w hSw; (try dsimp only at hSw); go_simp; try with_reducible rfl)
         (try simp only [Act.put, List.setIfInBounds_toArray, List.set_cons_zero, List.set_cons_succ])
         refine takeH (i := 3) (v := ?v3) rfl (by kernel_rfl) (by kernel_rfl) (by kernel_rfl) (fun _ _ _ h => h) (by rfl) ?hy3 (by assumption) ?_
         case hy3 => (intro w hSw; (try dsimp only at hSw); go_simp; try with_reducible rfl)
         (try simp only [Act.put, List.setIfInBounds_toArray, List.set_cons_zero, List.set_cons_succ])
         refine takeH (i := 4) (v := ?v4) rfl (by kernel_rfl) (by kernel_rfl) (by kernel_rfl) (fun _ _ _ h => h) (by rfl) ?hy4 (by assumption) ?_
         case hy4 => (intro w hSw; (try dsimp only at hSw); go_simp; try with_reducible rfl)
         (try simp only [Act.put, List.setIfInBounds_toArray, List.set_cons_zero, List.set_cons_succ])
         refine takeH (i := 7) (v := ?v7) rfl (by kernel_rfl) (by kernel_rfl) (by kernel_rfl) (fun _ _ _ h => h) (by rfl) ?hy7 (by assumption) ?_
         case hy7 => (intro w hSw; (try dsimp only at hSw); go_simp; try with_reducible rfl)
         (try simp only [Act.put, List.setIfInBounds_toArray, List.set_cons_zero, List.set_cons_succ])
         refine takeH (i := 8) (v := ?v8) rfl (by kernel_rfl) (by kernel_rfl) (by kernel_rfl) (fun _ _ _ h => h) (by rfl) ?hy8 (by assumption) ?_
         case hy8 => (intro w hSw; (try dsimp only at hSw); go_simp; try with_reducible rfl)
         (try simp only [Act.put, List.setIfInBounds_toArray, List.set_cons_zero, List.set_cons_succ])
         refine takeH (i := 9) (v := ?v9) rfl (by kernel_rfl) (by kernel_rfl) (by kernel_rfl) (fun _ _ _ h => h) (by rfl) ?hy9 (by assumption) ?_
         case hy9 => (intro w hSw; (try dsimp only at hSw); go_simp; try with_reducible rfl)
         (try simp only [Act.put, List.setIfInBounds_toArray, List.set_cons_zero, List.set_cons_succ])
         refine takeH (i := 10) (v := ?v10) rfl (by kernel_rfl) (by kernel_rfl) (by kernel_rfl) (fun _ _ _ h => h) (by rfl) ?hy10 (by assumption) ?_
         case hy10 => (intro w hSw; (try dsimp only at hSw); go_simp; try with_reducible rfl)
         (try simp only [Act.put, List.setIfInBounds_toArray, List.set_cons_zero, List.set_cons_succ])
         refine takeH (i := 11) (v := ?v11) rfl (by kernel_rfl) (by kernel_rfl) (by kernel_rfl) (fun _ _ _ h => h) (by rfl) ?hy11 (by assumption) ?_
         case hy11 => (intro w hSw; (try dsimp only at hSw); go_simp; try with_reducible rfl)
         (try simp only [Act.put, List.setIfInBounds_toArray, List.set_cons_zero, List.set_cons_succ])
         refine doH (i := 5) rfl (by kernel_rfl) (by rfl) (fun K hK => ?_)
         go_simp
         (go_at_call 52; refine (HR1.out _ (HP1.out.below (Below.refl _ _).drew) (HP2.out.below (Below.refl _ _).drew)).mono ?_; rintro e y1 ⟨⟨r1, rfl, hr1⟩, hy1⟩; have hE1 : Below wr.heap.size wr y1 := (Below.refl _ _).drew.trans hy1; have ad1 := addRun (a := ⟨#[78]⟩) (b := r1) (by omega))
         go_wp2_with fail
         refine hK.out _ _ ?_ (fun hHeld5 => ?_)
         · (refine HKP.out _ ?_; first | exact hE3 | exact hE2 | exact hE1 | exact (Below.refl _ _).drew | exact Below.refl _ _)
         clear hK K hHeld0
         (try simp only [Act.put, List.setIfInBounds_toArray, List.set_cons_zero, List.set_cons_succ])
         refine takeH (i := 6) (v := ?v6) rfl (by kernel_rfl) (by kernel_rfl) (by kernel_rfl) (fun _ _ _ h => h) (by rfl) ?hy6 (by assumption) ?_
         case hy6 => (intro w hSw; (try dsimp only at hSw); go_simp; try with_reducible rfl)
         (try simp only [Act.put, List.setIfInBounds_toArray, List.set_cons_zero, List.set_cons_succ])
         refine doH (i := 12) rfl (by kernel_rfl) (by rfl) (fun K hK => ?_)
         go_simp
         (go_at_call 52; refine (HR2.out _ (HP3.out.below hE1) (HP4.out.below hE1)).mono ?_; rintro e y2 ⟨⟨r2, rfl, hr2⟩, hy2⟩; have hE2 : Below wr.heap.size wr y2 := hE1.trans (hy2.mono hE1.size); have ad2 := addRun (a := ⟨#[78]⟩ ++ r1) (b := r2) (by simp only [ByteArray.size_append]; omega))
         go_wp2_with fail
         refine hK.out _ _ ?_ (fun hHeld12 => ?_)
         · (refine HKP.out _ ?_; first | exact hE3 | exact hE2 | exact hE1 | exact (Below.refl _ _).drew | exact Below.refl _ _)
         clear hK K hHeld5
         (try simp only [Act.put, List.setIfInBounds_toArray, List.set_cons_zero, List.set_cons_succ])
         refine takeH (i := 13) (v := ?v13) rfl (by kernel_rfl) (by kernel_rfl) (by kernel_rfl) (fun _ _ _ h => h) (by rfl) ?hy13 (by assumption) ?_
         case hy13 => (intro w hSw; (try dsimp only at hSw); go_simp; try with_reducible rfl)
         (try simp only [Act.put, List.setIfInBounds_toArray, List.set_cons_zero, List.set_cons_succ])
         refine doH (i := 14) rfl (by kernel_rfl) (by rfl) (fun K hK => ?_)
         go_simp
         (go_at_call 41; refine (HH.out _ (by simp only [ByteArray.size_append]; omega) _).mono ?_; rintro e y3 ⟨rfl, hy3⟩; have hE3 : Below wr.heap.size wr y3 := hE2.trans (hy3.mono hE2.size))
         go_wp2_with fail
         refine hK.out _ _ ?_ (fun hHeld14 => ?_)
         · (refine HKP.out _ ?_; first | exact hE3 | exact hE2 | exact hE1 | exact (Below.refl _ _).drew | exact Below.refl _ _)
         clear hK K hHeld12
         (try simp only [Act.put, List.setIfInBounds_toArray, List.set_cons_zero, List.set_cons_succ])
         refine takeH (i := 15) (v := ?v15) rfl (by kernel_rfl) (by kernel_rfl) (by kernel_rfl) (fun _ _ _ h => h) (by rfl) ?hy15 (by assumption) ?_
         case hy15 => (intro w hSw; (try dsimp only at hSw); go_simp; try with_reducible rfl)
         (try simp only [Act.put, List.setIfInBounds_toArray, List.set_cons_zero, List.set_cons_succ])
         refine wpAnyH_done (by kernel_rfl) ?_ _
         have hB9 := HBR.out.trans (hE3.mono HBR.out.size)
         have hrs := HHS.out (⟨#[78]⟩ ++ r1 ++ r2)
         generalize hB (⟨#[78]⟩ ++ r1 ++ r2) = R at *
         go_wp2
         rw [HR32.out]
         exact ⟨⟨R, rfl, hrs⟩, hB9⟩
end
end Go.Proofs.YtakgolbgeeoioaaGreat

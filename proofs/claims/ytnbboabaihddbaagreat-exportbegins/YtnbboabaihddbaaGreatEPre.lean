/-
 Prefix: the state of requests and heads.
-/
import Derived.Test.YtnbboabaihddbaaGreatERiseEPreMYClone
import Derived.Test.YtnbboabaihddbaaGreatYApply
import Derived.Test.YtnbboabaihddbaaGreatYCutP
namespace Go.Proofs.YtnbboabaihddbaaGreat
open Go.RowKit

/-- what Prefix answers -/
def RPre (l : List Req) (hs : List Hd) (w : World) (e : Ending) (w' : World) : Prop :=
 ((mkE l hs = none ∧ e = .returned (.tuple #[.agg zeroSt, .int .i64 2])) ∨
  (∃ W cs, mkE l hs = some W ∧ InvW W ∧ e = .returned (.tuple #[.agg cs, .int .i64 0]) ∧ StC w' (geP w.heap.size) cs W)) ∧ Below w.heap.size w w'
theorem zeroSt_one : (zeroSt.all fun x => x.oneCell') = true := cellsS_one _ _ _ _ _ _ _ _ _ _
set_option maxRecDepth 100000 in
/-- heads[1:] -/
theorem heads_from (g o n cap : Nat) (hn : 1 ≤ n) (hc : n ≤ cap) (W : World) : ∃ o', (Instr.slice 39 (.slice (some ⟨g, o, none⟩) n cap) (some (.int .i64 1)) none none).run Tryz.prog W = .ok (.slice o' (n - 1) (cap - 1)) W ∧ (1 < n → o' = some ⟨g, o + 5, none⟩) := by
 rw [run_slice_l W _ _ n cap Tryz.underlying39 .i64 1 (by omega) (by omega)]
 have hs : (sizeOf (Tryz.prog.elem 39)).run Tryz.prog W = .ok 5 W := by kernel_rfl
 rw [hs]
 refine ⟨_, rfl, fun h => ?_⟩
 simp only [show ((1 : Int).toNat) = 1 from rfl, if_neg (show ¬ cap = 1 by omega), Nat.one_mul, Option.map_some, addr_add]
theorem row_tail {w : World} {g o : Nat} {x : Hd} {r : List Hd} (h : RowG hdK w (some ⟨g, o, none⟩) (x :: r)) : RowG hdK w (some ⟨g, o + 5, none⟩) r := by
 intro i y hy
 obtain ⟨g', o', e, hl, hc⟩ := h (i + 1) y (by simpa using hy)
 injection e with e
 injection e with e1 e2
 subst e1 e2
 refine ⟨g, o + 5, rfl, hl, fun j v hv => ?_⟩
 have := hc j v hv
 rw [show o + ((i + 1) * hdK.k + j) = o + 5 + (i * hdK.k + j) by show o + ((i + 1) * 5 + j) = o + 5 + (i * 5 + j); omega] at this
 exact this
section
attribute [-go_sem] loadVar
set_option maxRecDepth 100000 in
set_option maxHeartbeats 4000000 in
theorem prefix_any (oa ob : Option Addr) (n ca m cb : Nat) (l : List Req) (hs : List Hd) (hn : l.length = n) (hm : hs.length = m) (hn2 : n ≤ 1000000) (hm2 : m ≤ 1000000) (hmc : m ≤ cb) (hsm : ∀ r ∈ l, smallB r = true) (w : World) (hA : RowG reqK w oa l) (hB : RowG hdK w ob hs) :
 Calls Tryz.prog 13 #[.agg tabV, .slice oa n ca, .slice ob m cb] w (RPre l hs w) := by
 have HRP := Lib.hid (show ∀ e w', RPre l hs w e w' = (((mkE l hs = none ∧ e = .returned (.tuple #[.agg zeroSt, .int .i64 2])) ∨
  (∃ W cs, mkE l hs = some W ∧ InvW W ∧ e = .returned (.tuple #[.agg cs, .int .i64 0]) ∧ StC w' (geP w.heap.size) cs W)) ∧ Below w.heap.size w w') from fun _ _ => rfl)
 have HMK := Lib.hid (show mkE l hs = if riseH n hs then stE l hs n else none by unfold mkE; rw [hn])
 have HRI := Lib.hid (fun X (hX : Below w.heap.size w X) => rise_any ob m cb n hs hm hm2 X (hB.below hX))
 have HAp := Lib.hid applyC
 have HCu := Lib.hid cutC
 have HLN := Lib.hid hn
 have HHM := Lib.hid hm
 have HX : Hid (∀ k, k < n → ∃ r : Req, l.getD k default = r ∧ smallB r = true ∧ ∃ g o, oa = some ⟨g, o, none⟩ ∧ ∀ X, Below w.heap.size w X → (loadVar 58 ⟨g, o + k * 5, none⟩).run Tryz.prog X = .ok (.agg #[.int .i64 r.c, .int .i64 r.q, .string r.l, .string r.k, .string r.v]) X) := Lib.hid fun k hk => by
  obtain ⟨g, o, h1, _, h3⟩ := req_whole hA (i := k) (by omega)
  have e : l.getD k default = l[k]'(by omega) := by rw [List.getD_eq_getElem?_getD, List.getElem?_eq_getElem (by omega)]; rfl
  exact ⟨l[k]'(by omega), e, hsm _ (List.getElem_mem _), g, o, h1, h3⟩
 have HHB := Lib.hid hB
 clear hA hB hsm hn hm
 have HZ := Lib.hid zeroS
 have z1 := HZ.out
 obtain ⟨w0, hw0⟩ : ∃ w0, (w.alloc (.cells tabV 30)).alloc (.cells zeroSt 41) = w0 := ⟨_, rfl⟩
 have hsz0 : w0.heap.size = w.heap.size + 2 := by rw [← hw0]; simp
 have kT : Blk w0 w.heap.size 30 tabV := by rw [← hw0]; exact (Blk.new _ _ _).alloc _
 have k6 : Blk w0 (w.heap.size + 1) 41 zeroSt := by rw [← hw0]; exact Blk.new_at (by simp)
 have hb0 : Below w.heap.size w w0 := by rw [← hw0]; exact ((Below.refl _ w).alloc (Nat.le_refl _) _).alloc (by simp) _
 have HW0 := Lib.hid hw0
 clear hw0
 generalize RPre l hs w = PO at *
 go_enter Tryz.func13, Tryz.ntmps13
 go_wp2_with (rw [HW0.out])
 refine (HRI.out _ hb0).mono ?_
 rintro e w1 ⟨rfl, hb1⟩
 have hB1 := hb0.trans (hb1.mono hb0.size)
 replace kT := kT.below hb1 kT.lt
 replace k6 := k6.below hb1 k6.lt
 have hsz1 : w.heap.size + 2 ≤ w1.heap.size := by have := hb1.size; omega
 clear hb0 hb1 HRI HW0 hsz0
 cases hrise : riseH n hs with
 | false =>
  have HM : Hid (mkE l hs = none) := Lib.hid (by rw [HMK.out, hrise]; rfl)
  clear hrise
  go_wp2_with (refine wpList_store_row rfl 41 _ _ rfl (w.heap.size + 1) zeroSt rfl rfl 41 zeroSt k6 infoS rfl zeroSt_one ?_)
  refine bodyPost_ret (results_row_tmp rfl _ _ (w.heap.size + 1) 41 zeroSt _ rfl (blk_setRow k6 _) Tryz.underlying41 rfl infoS) rfl ?_
  rw [HRP.out]
  exact ⟨.inl ⟨HM.out, rfl⟩, below_setRow hB1 (by omega) _⟩
 | true =>
  have HRISE := Lib.hid hrise
  rw [hrise, if_pos rfl] at HMK
  clear hrise
  obtain ⟨w2, hw2⟩ : ∃ w2, w1.alloc (.cells zeroSt 41) = w2 := ⟨_, rfl⟩
  have hb2 : Below w1.heap.size w1 w2 := by rw [← hw2]; exact (Below.refl _ w1).alloc (Nat.le_refl _) _
  have k8 : Blk w2 w1.heap.size 41 zeroSt := by rw [← hw2]; exact Blk.new _ _ _
  have hB2 := hB1.trans (hb2.mono hB1.size)
  replace kT := kT.below hb2 kT.lt
  replace k6 := k6.below hb2 k6.lt
  have HW2 := Lib.hid hw2
  have hg8 : w1.heap.size < w2.heap.size := k8.lt
  obtain ⟨g8, hq8⟩ : ∃ g8, w1.heap.size = g8 := ⟨_, rfl⟩
  have HG8 := Lib.hid hq8
  rw [hq8] at k8 hg8 hsz1
  have HKT : Hid (∀ X, w2.grownBy X (some g8) → (loadVar 30 ⟨w.heap.size, 0, none⟩).run Tryz.prog X = .ok (.agg tabV) X) := Lib.hid fun X hX => tab_run (kT.grown hX (fun e => by injection e; omega))
  have HK6 : Hid (∀ X, w2.grownBy X (some g8) → Blk X (w.heap.size + 1) 41 zeroSt) := Lib.hid fun X hX => k6.grown hX (fun e => by injection e; omega)
  have HBW : Hid (∀ X, w2.grownBy X (some g8) → Below w.heap.size w X) := Lib.hid fun X hX => hB2.grown hX hB2.size (fun q hq => by injection hq; omega)
  have HZ0 := Lib.hid (zeroSt_at w2 (geP w2.heap.size))
  clear kT k6 hb2 hw2 hq8 hB1 hB2
  go_wp2_with (rw [HW2.out, HG8.out])
  go_loopw [2, 21] (fun h i wr => ∃ (k j : Nat) (W : Wd) (cs : Array Value) (q : Option Addr) (c : Nat), k ≤ n ∧ j ≤ m ∧ i = .int .i64 k ∧ h = .slice q (m - j) c ∧ Hid (RowG hdK w q (hs.drop j)) ∧ m - j ≤ c ∧ Hid (PreI l hs k j W) ∧ Blk wr g8 41 cs ∧ StC wr (geP w2.heap.size) cs W ∧ w2.grownBy wr (some g8)) (fun _ i _ => n - (intOf i).toNat)
  case atStart => exact ⟨0, 0, ⟨[], [], []⟩, zeroSt, ob, cb, by omega, by omega, rfl, rfl, HHB, by omega, Lib.hid (PreI.begin HRISE.out), k8, HZ0.out, grown_refl _ _⟩
  case round =>
   clear k8
   obtain ⟨k, j, W, cs, q, c, hk, hj, rfl, rfl, HRQ, hmc, HPI, k8, hS, hG⟩ := hrel
   have hge : w2.heap.size ≤ wr.heap.size := hG.size
   have d8 := st_load hS.size k8
   have hcs22 := hS.size
   by_cases hlt : k < n
   · have hlt' : (k : Int) < (n : Int) := by omega
     obtain ⟨r, hr, hrs, g, o, rfl, hld⟩ := HX.out k hlt
     have d0 := hld wr (HBW.out wr hG)
     obtain ⟨HI, htk⟩ := HPI.out.inv (by rw [HLN.out]; exact hk)
     have HIW := Lib.hid HI
     have HTK := Lib.hid htk
     have HRR := Lib.hid hr
     obtain ⟨rc, rq, rl, rk, rv⟩ := r
     dsimp only at d0
     have HAR : Hid (∀ X, StC X (geP w2.heap.size) cs W → Calls Tryz.prog 28 #[.agg cs, .agg #[.int .i64 rc, .int .i64 rq, .string rl, .string rk, .string rv]] X fun e w' => ∃ cs', e = .returned (.tuple #[.agg cs', .agg #[.int .i64 (saysS W ⟨rc, rq, rl, rk, rv⟩).e, .int .i64 (saysS W ⟨rc, rq, rl, rk, rv⟩).i, .int .i64 (saysS W ⟨rc, rq, rl, rk, rv⟩).h]]) ∧ StC w' (geP X.heap.size) cs' (askS W ⟨rc, rq, rl, rk, rv⟩) ∧ Below X.heap.size X w') := Lib.hid fun X hX => HAp.out _ cs W ⟨rc, rq, rl, rk, rv⟩ X HIW.out hrs hX
     obtain ⟨w4, hw4⟩ : ∃ w4, wr.alloc (.cells #[.int .i64 rc, .int .i64 rq, .string rl, .string rk, .string rv] 58) = w4 := ⟨_, rfl⟩
     have hb4 : Below wr.heap.size wr w4 := by rw [← hw4]; exact (Below.refl _ wr).alloc (Nat.le_refl _) _
     have k10 : Blk w4 wr.heap.size 58 #[.int .i64 rc, .int .i64 rq, .string rl, .string rk, .string rv] := by rw [← hw4]; exact Blk.new _ _ _
     have k84 := k8.below hb4 k8.lt
     have hS4 := hS.below hb4
     have hG4 := grown_trans hG (only_of_below hb4 (some g8))
     have d10 := req_load5 k10
     have d84 := st_load hS4.size k84
     have HW4 := Lib.hid hw4
     obtain ⟨g10, hg10⟩ : ∃ g10, wr.heap.size = g10 := ⟨_, rfl⟩
     have HG10 := Lib.hid hg10
     rw [hg10] at d10
     have zq : ∀ X : World, (zeroValue 58).run Tryz.prog X = .ok (.agg zReq5) X := fun X => by kernel_rfl
     clear hr hld hb4 k8 hS hG k10 hw4 hg10 htk HI
     go_wp2_with (first
      | (refine wpList_store_row rfl 58 _ _ rfl wr.heap.size #[.int .i64 rc, .int .i64 rq, .string rl, .string rk, .string rv] rfl rfl 58 zReq5 (Blk.new _ _ _) info5r rfl (req_one _ _ _ _ _) ?_; rw [World.setRow_alloc_new, HW4.out, HG10.out])
      | rw [HW4.out, HG10.out])
     refine (HAR.out w4 hS4).mono ?_
     rintro e w5 ⟨cs5, rfl, hS5, hb5⟩
     have k85 := k84.below hb5 k84.lt
     have hG5 := grown_trans hG4 (only_of_below hb5 (some g8))
     have hge4 := Nat.le_trans hge (show wr.heap.size ≤ w4.heap.size by rw [← HW4.out]; simp)
     have hge5 := Nat.le_trans hge4 hb5.size
     have hS45 := hS4.below hb5
     have HAW : Hid (askS W ⟨rc, rq, rl, rk, rv⟩ = askS W (l.getD k default)) := Lib.hid (by rw [HRR.out])
     generalize askS W ⟨rc, rq, rl, rk, rv⟩ = A at *
     generalize (saysS W ⟨rc, rq, rl, rk, rv⟩).e = ae at *
     generalize (saysS W ⟨rc, rq, rl, rk, rv⟩).i = ai at *
     generalize (saysS W ⟨rc, rq, rl, rk, rv⟩).h = ah at *
     clear hS4 hG4 hb5 d84 d10 d8 d0 HAR k84 hrs hge
     have zs6 := zeroS
     have zw6 := zeroW
     obtain ⟨wA6, hwA⟩ : ∃ wA, ((w5.alloc (.cells zeroSt 41)).alloc (.cells #[.int .i64 0, .int .i64 0, .int .i64 0] 35)) = wA := ⟨_, rfl⟩
     have bA : Below w5.heap.size w5 wA6 := by rw [← hwA]; exact ((Below.refl _ w5).alloc (Nat.le_refl _) _).alloc (by simp) _
     have kA : Blk wA6 w5.heap.size 41 zeroSt := by rw [← hwA]; exact (Blk.new _ _ _).alloc _
     have kB : Blk wA6 (w5.heap.size + 1) 35 #[.int .i64 0, .int .i64 0, .int .i64 0] := by rw [← hwA]; exact Blk.new_at (by simp)
     obtain ⟨w6, hw6⟩ : ∃ x, (wA6.setRow w5.heap.size cs5).setRow (w5.heap.size + 1) #[.int .i64 ae, .int .i64 ai, .int .i64 ah] = x := ⟨_, rfl⟩
     have ks : Blk w6 w5.heap.size 41 cs5 := by rw [← hw6]; exact Blk.setRow (setRow_heap wA6 _ zeroSt cs5 41 (0, 0) kA) (by omega) _
     have kp : Blk w6 (w5.heap.size + 1) 35 #[.int .i64 ae, .int .i64 ai, .int .i64 ah] := by rw [← hw6]; exact setRow_heap _ _ #[.int .i64 0, .int .i64 0, .int .i64 0] #[.int .i64 ae, .int .i64 ai, .int .i64 ah] 35 (0, 0) (Blk.setRow kB (by omega) _)
     have b6 : Below w5.heap.size w5 w6 := by rw [← hw6]; exact (bA.grown (only_setRow (grown_refl wA6 (some w5.heap.size)) cs5) bA.size (fun k hk => by injection hk; omega)).grown (only_setRow (grown_refl _ (some (w5.heap.size + 1))) #[.int .i64 ae, .int .i64 ai, .int .i64 ah]) (by have := bA.size; simp; omega) (fun k hk => by injection hk; omega)
     have HWA6 := Lib.hid hwA
     have HW6 := Lib.hid hw6
     have HKA6 := Lib.hid kA
     have HKB6 := Lib.hid kB
     have HIA6 : Hid ((Tryz.prog.info? 41).map (·.size) = some (cs5 : Array Value).size) := Lib.hid (by rw [hS5.size]; exact infoS)
     have HIB6 : Hid ((Tryz.prog.info? 35).map (·.size) = some (#[.int .i64 ae, .int .i64 ai, .int .i64 ah] : Array Value).size) := Lib.hid info3
     have HSA6 : Hid ((zeroSt : Array Value).size = (cs5 : Array Value).size) := Lib.hid (by rw [hS5.size]; rfl)
     have HSB6 : Hid ((#[.int .i64 0, .int .i64 0, .int .i64 0] : Array Value).size = (#[.int .i64 ae, .int .i64 ai, .int .i64 ah] : Array Value).size) := Lib.hid rfl
     have HOA6 : Hid (((cs5 : Array Value).all fun x => x.oneCell') = true) := Lib.hid hS5.one
     have HOB6 : Hid (((#[.int .i64 ae, .int .i64 ai, .int .i64 ah] : Array Value).all fun x => x.oneCell') = true) := Lib.hid (rep_one _ _ _)
     clear hwA hw6 kA kB bA
     have k86 := k85.below b6 k85.lt
     have hS6 := hS5.below b6
     have hS46 := hS45.below b6
     have hG6 := grown_trans hG5 (only_of_below b6 (some g8))
     have hge6 := Nat.le_trans hge5 b6.size
     have d11 := st_load hS5.size ks
     obtain ⟨a5, b5, e5, ⟨o5, c5, ra5, hA5, _⟩, _⟩ := hS6
     obtain ⟨a4, b4, e4, ⟨o4, c4, ra4, hA4, _⟩, _⟩ := hS46
     have e50 : cs5[0]? = some (.slice o5 A.tk.length c5) := by rw [e5, ra5]; rfl
     have e40 : cs[0]? = some (.slice o4 W.tk.length c4) := by rw [e4, ra4]; rfl
     have e50' : cs5[0]? = some (.slice o5 A.tk.length c5) := e50
     have l11 := sl_req ((ks.cell 0).trans e50)
     have l8 := sl_req ((k86.cell 0).trans e40)
     have HS6 := Lib.hid (hS5.below b6)
     have HGE6 := Lib.hid hge6
     have hg11 : w5.heap.size < w6.heap.size := ks.lt
     have hg11g : g8 ≠ w5.heap.size := by omega
     clear e5 ra5 hA5 e4 ra4 hA4 e50 e40 hS45 hS5 k85 hG5 kp
     obtain ⟨nA, hnA⟩ : ∃ nA, A.tk.length = nA := ⟨_, rfl⟩
     obtain ⟨nW, hnW⟩ : ∃ nW, W.tk.length = nW := ⟨_, rfl⟩
     rw [hnA] at l11
     rw [hnW] at l8
     have HNA := Lib.hid hnA
     have HNW := Lib.hid hnW
     clear hnA hnW
     by_cases heq : nA = nW
     · subst heq
       have HM : Hid (mkE l hs = none) := Lib.hid (by
        rw [HMK.out, ← HLN.out]
        exact HPI.out.fail (by rw [HLN.out]; exact hlt) (by rw [← HAW.out, HNA.out, HNW.out]))
       have k66 := HK6.out w6 hG6
       have hB6 := HBW.out w6 hG6
       have hbr : ((nA : Int) == (nA : Int)) = true := by simp
       clear d11
       go_wp2_with (first
        | rw [HWA6.out]
        | (refine wpList_store_row rfl 41 _ _ rfl w5.heap.size cs5 rfl rfl 41 zeroSt HKA6.out HIA6.out HSA6.out HOA6.out ?_)
        | (refine wpList_store_row rfl 35 _ _ rfl (w5.heap.size + 1) #[.int .i64 ae, .int .i64 ai, .int .i64 ah] rfl rfl 35 #[.int .i64 0, .int .i64 0, .int .i64 0] (Blk.setRow HKB6.out (by omega) _) HIB6.out HSB6.out HOB6.out ?_; rw [HW6.out])
        | (refine wpList_store_row rfl 41 _ _ rfl (w.heap.size + 1) zeroSt rfl rfl 41 zeroSt k66 infoS rfl zeroSt_one ?_))
       refine bodyPost_ret (results_row_tmp rfl _ _ (w.heap.size + 1) 41 zeroSt _ rfl (blk_setRow k66 _) Tryz.underlying41 rfl infoS) rfl ?_
       rw [HRP.out]
       exact ⟨.inl ⟨HM.out, rfl⟩, below_setRow hB6 (by omega) _⟩
     · have hne : (askS W (l.getD k default)).tk.length ≠ W.tk.length := by rw [← HAW.out, HNA.out, HNW.out]; exact heq
       obtain ⟨hA1, hA2, _⟩ := HPI.out.ask (by rw [HLN.out]; exact hlt) hne
       rw [← HAW.out, HNA.out] at hA1
       rw [← HAW.out] at hA2
       have HA2 := Lib.hid hA2
       have HNE := Lib.hid hne
       subst hA1
       rw [HNA.out] at e50'
       clear hA2 hne
       have hbr : (((k + 1 : Nat) : Int) == (nW : Int)) = false := by rw [beq_eq_false_iff_ne]; omega
       have hbr2 : ¬ ((k + 1 : Nat) : Int) = (nW : Int) := by omega
       obtain ⟨w7, hw7⟩ : ∃ w7, w6.setRow g8 cs5 = w7 := ⟨_, rfl⟩
       have k87 : Blk w7 g8 41 cs5 := by rw [← hw7]; exact blk_setRow k86 _
       have hG7 : w2.grownBy w7 (some g8) := by rw [← hw7]; exact only_setRow hG6 _
       have hS7 : StC w7 (geP w2.heap.size) cs5 A := by
        rw [← hw7]
        exact (HS6.out.same (by simp) (fun q _ hq => setRow_other _ _ _ _ (by unfold geP at hq; omega))).imp (fun q _ hq => by unfold geP at hq ⊢; omega)
       have HK8 := Lib.hid k86
       have HO5 := Lib.hid HS6.out.one
       have HI5 : Hid ((Tryz.prog.info? 41).map (·.size) = some (cs5 : Array Value).size) := Lib.hid (by rw [HS6.out.size]; exact infoS)
       have HW7 := Lib.hid hw7
       have hcs : cs.size = cs5.size := by rw [hcs22, HS6.out.size]
       have HCS := Lib.hid hcs
       clear hw7 k86 hcs HZ0
       go_wp2_with (first
        | rw [HWA6.out]
        | (refine wpList_store_row rfl 41 _ _ rfl w5.heap.size cs5 rfl rfl 41 zeroSt HKA6.out HIA6.out HSA6.out HOA6.out ?_)
        | (refine wpList_store_row rfl 35 _ _ rfl (w5.heap.size + 1) #[.int .i64 ae, .int .i64 ai, .int .i64 ah] rfl rfl 35 #[.int .i64 0, .int .i64 0, .int .i64 0] (Blk.setRow HKB6.out (by omega) _) HIB6.out HSB6.out HOB6.out ?_; rw [HW6.out])
        | (refine wpList_store_row rfl 41 _ _ rfl g8 cs5 rfl rfl 41 cs HK8.out HI5.out HCS.out HO5.out ?_; rw [HW7.out]))
       obtain ⟨mj, hmj⟩ : ∃ mj, m - j = mj := ⟨_, rfl⟩
       have hdl : (hs.drop j).length = mj := by rw [List.length_drop, HHM.out]; exact hmj
       rw [hmj] at hmc ⊢
       have HMJ := Lib.hid hmj
       have HDL := Lib.hid hdl
       clear hmj HS6 HGE6 hbr hbr2 HI5 HCS HO5 HK8 HW7 d11 l11 l8
       have l8 := sl_req (w := w7) (p := ⟨g8, 0, none⟩) ((k87.cell 0).trans e50')
       cases hdj : hs.drop j with
       | nil =>
        obtain rfl : mj = 0 := by rw [← hdl, hdj]; rfl
        have HPN : Hid (PreI l hs (k + 1) j A) := Lib.hid (by
         rw [HAW.out]
         exact HPI.out.none (riseH_parts HRISE.out).2 (by rw [HLN.out]; exact hlt) HNE.out (fun x r e => by rw [hdj] at e; cases e))
        have hb8 : Below w7.heap.size w7 w7.drew := (Below.refl _ _).drew
        have HB8 := Lib.hid hb8
        refine wp_region_held_drew (S := fun X => Below w7.heap.size w7 X) (by kernel_rfl) ?_ (fun hHeld0 => ?_)
        · exact HB8.out
        iterate 4 (apply tkF [0, 1, 2, 3] rfl rfl (by kernel_rfl) (fun _ _ _ h => h) (by rfl); (case hy => (intro w hSw; (try dsimp only at hSw); go_simp; try with_reducible rfl)); (case hS => assumption); (try simp only [Act.put, List.setIfInBounds_toArray, List.set_cons_zero, List.set_cons_succ]))
        iterate 8 (refine skF [4, 5, 6, 7, 8, 9, 10, 11] rfl rfl (by kernel_rfl) (fun _ _ _ h => h) (by rfl) (by assumption) ?_; (try simp only [Act.put, List.setIfInBounds_toArray, List.set_cons_zero, List.set_cons_succ]))
        (apply tkF [12] rfl rfl (by kernel_rfl) (fun _ _ _ h => h) (by rfl); (case hy => (intro w hSw; (try dsimp only at hSw); go_simp; try with_reducible rfl)); (case hS => assumption); (try simp only [Act.put, List.setIfInBounds_toArray, List.set_cons_zero, List.set_cons_succ]))
        refine wpAnyH_done (by kernel_rfl) ?_ _
        have k88 := k87.below hb8 k87.lt
        have hS8 := hS7.below hb8
        have hG8 := grown_trans hG7 (only_of_below hb8 (some g8))
        clear k87 hS7 hG7 hb8 l8
        generalize w7.drew = w8 at *
        go_wp2_with fail
        go_roundw
        case rel => exact ⟨k + 1, j, A, cs5, _, c, by omega, hj, by go_num, by rw [HMJ.out], HRQ, by rw [HMJ.out]; exact hmc, HPN, k88, hS8, hG8⟩
        case measure => simp [intOf]; omega
       | cons x rest =>
        obtain ⟨p, rfl⟩ : ∃ p, mj = p + 1 := ⟨mj - 1, by rw [hdj, List.length_cons] at hdl; omega⟩
        have hx0 := HRQ.out
        rw [hdj] at hx0
        obtain ⟨gq, oq, hq, hql, _, cz, ct, _⟩ := hd_at hx0 (i := 0) (by simp)
        subst hq
        obtain ⟨xq, xz, xt, xr, xm⟩ := x
        change w.cell? ⟨gq, oq + 1, none⟩ = some (.int .i64 xz) at cz
        change w.cell? ⟨gq, oq + 2, none⟩ = some (.int .i64 xt) at ct
        have HZT : Hid (∀ X, w2.grownBy X (some g8) → (loadVar 3 ⟨gq, oq + 1, none⟩).run Tryz.prog X = .ok (.int .i64 xz) X ∧ (loadVar 3 ⟨gq, oq + 2, none⟩).run Tryz.prog X = .ok (.int .i64 xt) X) := Lib.hid fun X hX => by
         have hc := fun o => (HBW.out X hX).cell (p := ⟨gq, o, none⟩) hql
         exact ⟨num_load ((hc _).trans cz), num_load ((hc _).trans ct)⟩
        have HDJ := Lib.hid hdj
        have HX0 := Lib.hid hx0
        have lz := (HZT.out w7 hG7).1
        clear hdj hx0 cz ct
        by_cases hz : xz = (k : Int) + 1
        · subst hz
          have hzb : ((k : Int) + 1 == (k : Int) + 1) = true := by simp
          have hb8 : Below w7.heap.size w7 w7.drew := (Below.refl _ _).drew
          have HLL : Hid ((fun X => (loadVar 3 ⟨gq, oq + 1, none⟩).run Tryz.prog X = .ok (.int .i64 ((k : Int) + 1)) X ∧ (loadVar 32 ⟨g8, 0, none⟩).run Tryz.prog X = .ok (.slice o5 (k + 1) c5) X) w7.drew) := Lib.hid ⟨(HZT.out _ (grown_trans hG7 (only_drew (grown_refl _ _)))).1, sl_req (w := w7.drew) (p := ⟨g8, 0, none⟩) (((k87.below hb8 k87.lt).cell 0).trans e50')⟩
          refine wp_region_held_drew (S := fun X => (loadVar 3 ⟨gq, oq + 1, none⟩).run Tryz.prog X = .ok (.int .i64 ((k : Int) + 1)) X ∧ (loadVar 32 ⟨g8, 0, none⟩).run Tryz.prog X = .ok (.slice o5 (k + 1) c5) X) (by kernel_rfl) ?_ (fun hHeld0 => ?_)
          · exact HLL.out
          iterate 13 (apply tkF [0, 1, 2, 3, 4, 5, 6, 7, 8, 9, 10, 11, 12] rfl rfl (by kernel_rfl) (fun _ _ _ h => h) (by rfl); (case hy => (intro w hSw; (try dsimp only at hSw); go_simp; try with_reducible rfl)); (case hS => assumption); (try simp only [Act.put, List.setIfInBounds_toArray, List.set_cons_zero, List.set_cons_succ]))
          refine wpAnyH_done (by kernel_rfl) ?_ _
          have k88 := k87.below hb8 k87.lt
          have hS8 := hS7.below hb8
          have hG8 := grown_trans hG7 (only_of_below hb8 (some g8))
          clear k87 hS7 hG7 hb8 l8 lz
          generalize w7.drew = w8 at *
          have HPN : Hid (PreI l hs (k + 1) (j + 1) (cutS A xt)) := Lib.hid (by
           rw [HAW.out]
           exact HPI.out.one (riseH_parts HRISE.out).2 (by rw [HLN.out]; exact hlt) HNE.out HDJ.out (by show (k : Int) + 1 = _; push_cast; rfl))
          have hxb : -9223372036854775808 ≤ xt ∧ xt ≤ 9223372036854775807 := by
           have := (riseH_parts HRISE.out).1 _ (List.mem_of_mem_drop (by rw [HDJ.out]; exact List.mem_cons_self))
           have h1 : 0 ≤ xt ∧ xt ≤ 2147483647 := this.2
           omega
          have HCC : Hid (∀ X, StC X (geP w2.heap.size) cs5 A → Calls Tryz.prog 26 #[.agg cs5, .agg tabV, .int .i64 xt] X fun e w' => ∃ cs', e = .returned (.tuple #[.agg cs', .bool (isS A xt)]) ∧ StC w' (geP X.heap.size) cs' (cutS A xt) ∧ Below X.heap.size X w') := Lib.hid fun X hX => HCu.out _ cs5 A xt X HA2.out hxb hX
          have HKP : Hid (∀ X, w2.grownBy X (some g8) → (fun X => (loadVar 30 ⟨w.heap.size, 0, none⟩).run Tryz.prog X = .ok (.agg tabV) X ∧ (loadVar 3 ⟨gq, oq + 2, none⟩).run Tryz.prog X = .ok (.int .i64 xt) X) X) := Lib.hid fun X hX => ⟨HKT.out X hX, (HZT.out X hX).2⟩
          generalize isS A xt = iA at *
          go_wp2_with fail
          refine wp_region_held_drew (S := fun X => (loadVar 30 ⟨w.heap.size, 0, none⟩).run Tryz.prog X = .ok (.agg tabV) X ∧ (loadVar 3 ⟨gq, oq + 2, none⟩).run Tryz.prog X = .ok (.int .i64 xt) X) (by kernel_rfl) ?_ (fun hHeld0 => ?_)
          · exact HKP.out _ (grown_trans hG8 (only_drew (grown_refl _ _)))
          have hb9 : Below w8.heap.size w8 w8.drew := (Below.refl _ _).drew
          have k89 := k88.below hb9 k88.lt
          have hS9 := hS8.below hb9
          have hG9 := grown_trans hG8 (only_of_below hb9 (some g8))
          have dS := st_load hS9.size k89
          clear k88 hS8 hG8 hb9
          generalize w8.drew = y0 at *
          iterate 5 (apply tkF [1, 2, 3, 4, 5] rfl rfl (by kernel_rfl) (fun _ _ _ h => h) (by rfl); (case hy => (intro w hSw; (try dsimp only at hSw); go_simp; try with_reducible rfl)); (case hS => assumption); (try simp only [Act.put, List.setIfInBounds_toArray, List.set_cons_zero, List.set_cons_succ]))
          refine doH (i := 0) rfl (by kernel_rfl) (by rfl) (fun K hK => ?_)
          go_simp
          refine hK.out _ _ (HKP.out _ hG9) (fun hHeld => ?_)
          clear hK K hHeld0 dS
          (try simp only [Act.put, List.setIfInBounds_toArray, List.set_cons_zero, List.set_cons_succ])
          refine doH (i := 6) rfl (by kernel_rfl) (by rfl) (fun K hK => ?_)
          go_simp
          go_at_call 26
          refine (HCC.out y0 hS9).mono ?_
          rintro e y1 ⟨cs9, rfl, hS10, hb10⟩
          have k810 := k89.below hb10 k89.lt
          have hG10 := grown_trans hG9 (only_of_below hb10 (some g8))
          have hle10 : w2.heap.size ≤ y0.heap.size := hG9.size
          have hcs9 := hS9.size
          clear k89 hS9 hG9 hb10
          go_wp2_with fail
          refine hK.out _ _ (HKP.out _ hG10) (fun hHeld => ?_)
          clear hK K
          (try simp only [Act.put, List.setIfInBounds_toArray, List.set_cons_zero, List.set_cons_succ])
          iterate 3 (apply tkF [7, 8, 9] rfl rfl (by kernel_rfl) (fun _ _ _ h => h) (by rfl); (case hy => (intro w hSw; (try dsimp only at hSw); go_simp; try with_reducible rfl)); (case hS => assumption); (try simp only [Act.put, List.setIfInBounds_toArray, List.set_cons_zero, List.set_cons_succ]))
          have hS11 : StC (y1.setRow g8 cs9) (geP w2.heap.size) cs9 (cutS A xt) := (hS10.same (by simp) (fun q _ hq => setRow_other _ _ _ _ (by unfold geP at hq; omega))).imp (fun q _ hq => by unfold geP at hq ⊢; omega)
          have hG11 := only_setRow hG10 cs9
          have k811 := blk_setRow k810 cs9
          refine doH (i := 10) rfl (by kernel_rfl) (by rfl) (fun K hK => ?_)
          refine wp_store_row 41 _ _ rfl g8 cs9 rfl rfl 41 cs5 k810 (by rw [hS10.size]; exact infoS) (by rw [hcs9, hS10.size]) hS10.one ?_
          refine hK.out _ _ (HKP.out _ hG11) (fun hHeld => ?_)
          clear hK K k810 hS10 hG10
          (try simp only [Act.put])
          refine wpAnyH_done (by kernel_rfl) ?_ _
          generalize y1.setRow g8 cs9 = y2 at *
          obtain ⟨o9, hsl, ho9⟩ := heads_from gq oq (p + 1) c (by omega) hmc y2
          have HO9 := Lib.hid ho9
          clear ho9 HKP HCC
          go_wp2_with fail
          go_roundw
          case rel => exact ⟨k + 1, j + 1, cutS A xt, cs9, o9, c - 1, by omega, by have := HMJ.out; omega, by go_num, by rw [show m - (j + 1) = p by have := HMJ.out; omega], Lib.hid (by
           rw [← List.drop_drop, HDJ.out]
           show RowG hdK w o9 rest
           by_cases h1 : 1 < p + 1
           · rw [HO9.out h1]; exact row_tail HX0.out
           · have : rest = [] := List.length_eq_zero_iff.1 (by have := HDL.out; rw [HDJ.out, List.length_cons] at this; omega)
             rw [this]; exact RowG.nil w _), by have := HMJ.out; omega, HPN, k811, hS11, hG11⟩
          case measure => simp [intOf]; omega
        · have hzb : (xz == (k : Int) + 1) = false := by rw [beq_eq_false_iff_ne]; exact hz
          have HPN : Hid (PreI l hs (k + 1) j A) := Lib.hid (by
           rw [HAW.out]
           refine HPI.out.none (riseH_parts HRISE.out).2 (by rw [HLN.out]; exact hlt) HNE.out (fun x r e => ?_)
           rw [HDJ.out] at e
           injection e with e _
           rw [← e]
           show xz ≠ _
           push_cast
           exact hz)
          clear hz
          have hb8 : Below w7.heap.size w7 w7.drew := (Below.refl _ _).drew
          have HLL : Hid ((fun X => (loadVar 3 ⟨gq, oq + 1, none⟩).run Tryz.prog X = .ok (.int .i64 xz) X ∧ (loadVar 32 ⟨g8, 0, none⟩).run Tryz.prog X = .ok (.slice o5 (k + 1) c5) X) w7.drew) := Lib.hid ⟨(HZT.out _ (grown_trans hG7 (only_drew (grown_refl _ _)))).1, sl_req (w := w7.drew) (p := ⟨g8, 0, none⟩) (((k87.below hb8 k87.lt).cell 0).trans e50')⟩
          refine wp_region_held_drew (S := fun X => (loadVar 3 ⟨gq, oq + 1, none⟩).run Tryz.prog X = .ok (.int .i64 xz) X ∧ (loadVar 32 ⟨g8, 0, none⟩).run Tryz.prog X = .ok (.slice o5 (k + 1) c5) X) (by kernel_rfl) ?_ (fun hHeld0 => ?_)
          · exact HLL.out
          iterate 13 (apply tkF [0, 1, 2, 3, 4, 5, 6, 7, 8, 9, 10, 11, 12] rfl rfl (by kernel_rfl) (fun _ _ _ h => h) (by rfl); (case hy => (intro w hSw; (try dsimp only at hSw); go_simp; try with_reducible rfl)); (case hS => assumption); (try simp only [Act.put, List.setIfInBounds_toArray, List.set_cons_zero, List.set_cons_succ]))
          refine wpAnyH_done (by kernel_rfl) ?_ _
          have k88 := k87.below hb8 k87.lt
          have hS8 := hS7.below hb8
          have hG8 := grown_trans hG7 (only_of_below hb8 (some g8))
          clear k87 hS7 hG7 hb8 l8 lz
          generalize w7.drew = w8 at *
          go_wp2_with fail
          go_roundw
          case rel => exact ⟨k + 1, j, A, cs5, _, c, by omega, hj, by go_num, by rw [HMJ.out], HRQ, by rw [HMJ.out]; exact hmc, HPN, k88, hS8, hG8⟩
          case measure => simp [intOf]; omega
   · obtain rfl : n = k := by omega
     have hltN : ¬ (n : Int) < (n : Int) := by omega
     have HM : Hid (mkE l hs = some W) := Lib.hid (by rw [HMK.out]; exact HPI.out.st)
     have HIW := Lib.hid (HPI.out.inv (by rw [HLN.out]; exact hk)).1
     have k66 := HK6.out wr hG
     have hB6 := HBW.out wr hG
     have hS9 : StC (wr.setRow (w.heap.size + 1) cs) (geP w.heap.size) cs W := (hS.same (by simp) (fun q _ hq => setRow_other _ _ _ _ (by unfold geP at hq; omega))).imp (fun q _ hq => by unfold geP at hq ⊢; omega)
     have HS9 := Lib.hid hS9
     have HIS : Hid ((Tryz.prog.info? 41).map (·.size) = some (cs : Array Value).size) := Lib.hid (by rw [hcs22]; exact infoS)
     have HOS := Lib.hid hS.one
     have HCS : Hid ((zeroSt : Array Value).size = cs.size) := Lib.hid (by rw [hcs22]; rfl)
     clear hS9 hcs22 hS k8 hlt
     go_wp2_with (refine wpList_store_row rfl 41 _ _ rfl (w.heap.size + 1) cs rfl rfl 41 zeroSt k66 HIS.out HCS.out HOS.out ?_)
     refine bodyPost_ret (results_row_tmp rfl _ _ (w.heap.size + 1) 41 cs _ rfl (setRow_heap wr _ zeroSt cs 41 (0, 0) k66) Tryz.underlying41 rfl HIS.out) rfl ?_
     rw [HRP.out]
     exact ⟨.inr ⟨W, cs, HM.out, HIW.out, rfl, HS9.out⟩, below_setRow hB6 (by omega) _⟩
end
end Go.Proofs.YtnbboabaihddbaaGreat

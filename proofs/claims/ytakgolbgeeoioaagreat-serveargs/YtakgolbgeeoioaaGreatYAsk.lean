/-
 Ask: the reference's of layer 11.
-/
import Derived.Test.YtakgolbgeeoioaaGreatYMathYPlayLoads
import Derived.Test.YtakgolbgeeoioaaGreatMRefRtHStepQ
import Derived.Deep.CutRange
import Derived.BigQuiet
namespace Go.Proofs.YtakgolbgeeoioaaGreat
open Go.RowKit

/-- what Ask answers -/
def RAsk (oa ob : Option Addr) (vc : Value) (tk : List Req) (rp : List Rep) (h : Nat) (r : Req) (w : World) (e : Ending) (w' : World) : Prop := ∃ va vb, e = .returned (.tuple #[.agg #[va, vb, vc], .agg (askW tk rp h r).2.2.enc.toArray]) ∧ SlO reqK w' oa tk w.heap.size va (askW tk rp h r).1 ∧ SlO repK w' ob rp w.heap.size vb (askW tk rp h r).2.1 ∧ Below w.heap.size w w'
section
attribute [-go_sem] loadVar
set_option maxRecDepth 100000 in
set_option maxHeartbeats 4000000 in
theorem raskW_any (oa ob oc : Option Addr) (ca M cb P cc : Nat) (tk : List Req) (rp : List Rep) (rc rq : Int) (rl rk rv : ByteArray) (hN : tk.length = M) (hM : rp.length = M) (hN2 : M ≤ 1000) (hP2 : P ≤ 1000) (hNc : M ≤ ca) (hMc : M ≤ cb) (hoa : oa = none → ca = 0) (hob : ob = none → cb = 0) (hr : smallB ⟨rc, rq, rl, rk, rv⟩ = true) (w : World) (hA : RowG reqK w oa tk) (hB : RowG repK w ob rp) :
 Calls Tryz.prog 23 #[.agg #[.slice oa M ca, .slice ob M cb, .slice oc P cc], .agg #[.int .i64 rc, .int .i64 rq, .string rl, .string rk, .string rv]] w (RAsk oa ob (.slice oc P cc) tk rp P ⟨rc, rq, rl, rk, rv⟩ w) := by
 have HRA := Lib.hid (show ∀ e w', RAsk oa ob (.slice oc P cc) tk rp P ⟨rc, rq, rl, rk, rv⟩ w e w' = ∃ va vb, e = .returned (.tuple #[.agg #[va, vb, .slice oc P cc], .agg (askW tk rp P ⟨rc, rq, rl, rk, rv⟩).2.2.enc.toArray]) ∧ SlO reqK w' oa tk w.heap.size va (askW tk rp P ⟨rc, rq, rl, rk, rv⟩).1 ∧ SlO repK w' ob rp w.heap.size vb (askW tk rp P ⟨rc, rq, rl, rk, rv⟩).2.1 ∧ Below w.heap.size w w' from fun _ _ => rfl)
 have HSZ := Lib.hid (of_decide_eq_true hr)
 have HRI : Hid (∀ W, Calls Tryz.prog 55 #[.agg #[.int .i64 rc, .int .i64 rq, .string rl, .string rk, .string rv]] W fun e w' => e = .returned (.bool (rightQ ⟨rc, rq, rl, rk, rv⟩)) ∧ Below W.heap.size W w') := Lib.hid fun W => rright_any rc rq rl rk rv (by have := HSZ.out.1; have h : rl.size ≤ 250 := this; omega) (by have := HSZ.out.2.1; have h : rk.size ≤ 100 := this; omega) (by have := HSZ.out.2.2; have h : rv.size ≤ 150 := this; omega) W
 have HL0 : Hid (lstN rc tk 0 = -1 ∧ cntN rc tk 0 = 0) := Lib.hid ⟨rfl, rfl⟩
 have HLS : Hid (∀ k, k < M → ∃ x : Req, lstN rc tk (k + 1) = (if x.c = rc then (k : Int) else lstN rc tk k) ∧ cntN rc tk (k + 1) = (if x.c = rc then cntN rc tk k + 1 else cntN rc tk k) ∧ tk.getD k default = x ∧ ∃ g o, oa = some ⟨g, o, none⟩ ∧ ∀ W, Below w.heap.size w W → W.cell? ⟨g, o + k * 5, none⟩ = some (.int .i64 x.c) ∧ W.cell? ⟨g, o + k * 5 + 1, none⟩ = some (.int .i64 x.q)) := Lib.hid fun k hk => by
  obtain ⟨g, o, h1, h2, c0, c1, c2, c3, c4⟩ := req_at hA (i := k) (by omega)
  have hx : tk.getD k default = tk[k]'(by omega) := by rw [List.getD_eq_getElem?_getD, List.getElem?_eq_getElem (by omega)]; rfl
  refine ⟨tk[k]'(by omega), by show (if (tk.getD k default).c = rc then _ else _) = _; rw [hx], by show (if (tk.getD k default).c = rc then _ else _) = _; rw [hx], hx, g, o, h1, fun W hW => ?_⟩
  have hc := fun j => hW.cell (p := ⟨g, j, none⟩) h2
  exact ⟨(hc _).trans c0, (hc _).trans c1⟩
 have HLB := Lib.hid (fun j => lstN_lt rc tk j)
 have HCB := Lib.hid (fun j => cntN_le rc tk j)
 have HASK0 : Hid (rightQ ⟨rc, rq, rl, rk, rv⟩ = false → askW tk rp P ⟨rc, rq, rl, rk, rv⟩ = (tk, rp, ⟨1, 0, 0⟩)) := Lib.hid fun h => by unfold askW; rw [if_pos h]
 have HASK1 : Hid (rightQ ⟨rc, rq, rl, rk, rv⟩ = true → askW tk rp P ⟨rc, rq, rl, rk, rv⟩ = if 0 ≤ lstN rc tk M ∧ (tk.getD (lstN rc tk M).toNat default).q = rq then (tk, rp, rp.getD (lstN rc tk M).toNat default)
  else if 0 ≤ lstN rc tk M ∧ rq < (tk.getD (lstN rc tk M).toNat default).q then (tk, rp, ⟨7, 0, 0⟩)
  else if cntN rc tk M = 20 then (tk, rp, ⟨6, 0, 0⟩)
  else if (M : Int) = 64 then (tk, rp, ⟨10, 0, 0⟩)
  else (tk ++ [⟨rc, rq, rl, rk, rv⟩], rp ++ [⟨0, M, (P : Int) + 1⟩], ⟨0, M, (P : Int) + 1⟩)) := Lib.hid fun h => by
  unfold askW
  rw [if_neg (by rw [h]; decide)]
  rw [hN]
  simp only [show ((M : Int) = 64) = (M = 64) from propext ⟨fun h => by omega, fun h => by omega⟩]
 have hb0 : Below w.heap.size w ((((w.alloc (.cells #[.slice oa M ca, .slice ob M cb, .slice oc P cc] 43)).alloc (.cells #[.int .i64 rc, .int .i64 rq, .string rl, .string rk, .string rv] 61)).alloc (.cells #[.slice none 0 0, .slice none 0 0, .slice none 0 0] 43)).alloc (.cells #[.int .i64 0, .int .i64 0, .int .i64 0] 34)) := ((((Below.refl _ w).alloc (Nat.le_refl _) _).alloc (by simp) _).alloc (by simp; omega) _).alloc (by simp; omega) _
 have k0 : Blk ((((w.alloc (.cells #[.slice oa M ca, .slice ob M cb, .slice oc P cc] 43)).alloc (.cells #[.int .i64 rc, .int .i64 rq, .string rl, .string rk, .string rv] 61)).alloc (.cells #[.slice none 0 0, .slice none 0 0, .slice none 0 0] 43)).alloc (.cells #[.int .i64 0, .int .i64 0, .int .i64 0] 34)) w.heap.size 43 #[.slice oa M ca, .slice ob M cb, .slice oc P cc] := (((Blk.new _ _ _).alloc _).alloc _).alloc _
 have k1 : Blk ((((w.alloc (.cells #[.slice oa M ca, .slice ob M cb, .slice oc P cc] 43)).alloc (.cells #[.int .i64 rc, .int .i64 rq, .string rl, .string rk, .string rv] 61)).alloc (.cells #[.slice none 0 0, .slice none 0 0, .slice none 0 0] 43)).alloc (.cells #[.int .i64 0, .int .i64 0, .int .i64 0] 34)) (w.heap.size + 1) 61 #[.int .i64 rc, .int .i64 rq, .string rl, .string rk, .string rv] := ((Blk.new_at (by simp)).alloc _).alloc _
 have k2 : Blk ((((w.alloc (.cells #[.slice oa M ca, .slice ob M cb, .slice oc P cc] 43)).alloc (.cells #[.int .i64 rc, .int .i64 rq, .string rl, .string rk, .string rv] 61)).alloc (.cells #[.slice none 0 0, .slice none 0 0, .slice none 0 0] 43)).alloc (.cells #[.int .i64 0, .int .i64 0, .int .i64 0] 34)) (w.heap.size + 2) 43 #[.slice none 0 0, .slice none 0 0, .slice none 0 0] := (Blk.new_at (by simp)).alloc _
 have k3 : Blk ((((w.alloc (.cells #[.slice oa M ca, .slice ob M cb, .slice oc P cc] 43)).alloc (.cells #[.int .i64 rc, .int .i64 rq, .string rl, .string rk, .string rv] 61)).alloc (.cells #[.slice none 0 0, .slice none 0 0, .slice none 0 0] 43)).alloc (.cells #[.int .i64 0, .int .i64 0, .int .i64 0] 34)) (w.heap.size + 3) 34 #[.int .i64 0, .int .i64 0, .int .i64 0] := Blk.new_at (by simp)
 obtain ⟨w0, hw0⟩ : ∃ w0, ((((w.alloc (.cells #[.slice oa M ca, .slice ob M cb, .slice oc P cc] 43)).alloc (.cells #[.int .i64 rc, .int .i64 rq, .string rl, .string rk, .string rv] 61)).alloc (.cells #[.slice none 0 0, .slice none 0 0, .slice none 0 0] 43)).alloc (.cells #[.int .i64 0, .int .i64 0, .int .i64 0] 34)) = w0 := ⟨_, rfl⟩
 rw [hw0] at hb0 k0 k1 k2 k3
 have HW0 := Lib.hid hw0
 have HK0 := Lib.hid k0
 have HK1 := Lib.hid k1
 have HK2 := Lib.hid k2
 have HK3 := Lib.hid k3
 have HB0 := Lib.hid hb0
 have HA := Lib.hid hA
 have HB := Lib.hid hB
 have HN := Lib.hid hN
 have HM := Lib.hid hM
 have d1 := req_load5 HK1.out
 clear hw0 k0 k1 k2 k3 hb0 hA hB hN hM hr
 generalize RAsk oa ob (.slice oc P cc) tk rp P ⟨rc, rq, rl, rk, rv⟩ w = PO at *
 generalize askW tk rp P ⟨rc, rq, rl, rk, rv⟩ = AW at *
 generalize rightQ ⟨rc, rq, rl, rk, rv⟩ = RQ at *
 go_enter Tryz.func23, Tryz.ntmps23
 go_wp2_with (rw [HW0.out])
 refine (HRI.out _).mono ?_
 rintro e w1 ⟨rfl, hb1⟩
 have HB1 := Lib.hid (HB0.out.trans (hb1.mono HB0.out.size))
 have HK01 := Lib.hid (HK0.out.below hb1 HK0.out.lt)
 have HK11 := Lib.hid (HK1.out.below hb1 HK1.out.lt)
 have HK21 := Lib.hid (HK2.out.below hb1 HK2.out.lt)
 have HK31 := Lib.hid (HK3.out.below hb1 HK3.out.lt)
 clear d1 hb1 HRI HK0 HK1 HK2 HK3 HB0 HW0
 cases RQ with
 | false =>
  have d0 := wld_load HK01.out
  have HK0w := HK01
  have HK1w := HK11
  have HK2w := HK21
  have HK3w := HK31
  have HBw := HB1
  have g0 : w1.cell? ⟨w.heap.size + 2, 0, none⟩ = some (.slice none 0 0) := HK2w.out.cell 0
  have f0 := HK2w.out.frozen 0
  have g1 : w1.cell? ⟨w.heap.size + 2, 1, none⟩ = some (.slice none 0 0) := HK2w.out.cell 1
  have f1 := HK2w.out.frozen 1
  have g2 : w1.cell? ⟨w.heap.size + 2, 2, none⟩ = some (.slice none 0 0) := HK2w.out.cell 2
  have f2 := HK2w.out.frozen 2
  have q0 : w1.cell? ⟨w.heap.size + 3, 0, none⟩ = some (.int .i64 0) := HK3w.out.cell 0
  have p0 := HK3w.out.frozen 0
  have q1 : w1.cell? ⟨w.heap.size + 3, 1, none⟩ = some (.int .i64 0) := HK3w.out.cell 1
  have p1 := HK3w.out.frozen 1
  have q2 : w1.cell? ⟨w.heap.size + 3, 2, none⟩ = some (.int .i64 0) := HK3w.out.cell 2
  have p2 := HK3w.out.frozen 2
  go_wp2_with fail
  have n4 := (HK2w.out.set3 (.slice oa M ca) (.slice ob M cb) (.slice oc P cc)).far3 (b := w.heap.size + 3) (by omega) (.int .i64 1) (.int .i64 0) (.int .i64 0)
  have n5 := (HK3w.out.far3 (b := w.heap.size + 2) (by omega) (.slice oa M ca) (.slice ob M cb) (.slice oc P cc)).set3 (.int .i64 1) (.int .i64 0) (.int .i64 0)
  have hB9 := Below.set3 (b := w.heap.size + 3) (Below.set3 (b := w.heap.size + 2) HBw.out (by omega) (.slice oa M ca) (.slice ob M cb) (.slice oc P cc)) (by omega) (.int .i64 1) (.int .i64 0) (.int .i64 0)
  refine bodyPost_ret (results_row_row rfl _ _ (w.heap.size + 2) (w.heap.size + 3) 43 34 #[.slice oa M ca, .slice ob M cb, .slice oc P cc] #[.int .i64 1, .int .i64 0, .int .i64 0] _ _ rfl n4 rfl n5 Tryz.underlying43 rfl (by kernel_rfl) Tryz.underlying34 rfl (by kernel_rfl)) rfl ?_
  rw [HRA.out, HASK0.out (by first | trivial | rfl)]
  exact ⟨.slice oa M ca, .slice ob M cb, rfl, ⟨oa, ca, by rw [HN.out], HA.out.below hB9, by rw [HN.out]; exact hNc, hoa, .inl ⟨rfl, rfl⟩⟩, ⟨ob, cb, by rw [HM.out], HB.out.below hB9, by rw [HM.out]; exact hMc, hob, .inl ⟨rfl, rfl⟩⟩, hB9⟩
 | true =>
  have HASK := Lib.hid (HASK1.out (by first | trivial | rfl))
  clear HASK0 HASK1
  go_wp2
  go_loopw [6, 7, 8] (fun a b i wr => ∃ k : Nat, k ≤ M ∧ i = .int .i64 k ∧ a = .int .i64 (cntN rc tk k) ∧ b = .int .i64 (lstN rc tk k) ∧ Below w1.heap.size w1 wr) (fun _ _ i _ => M - (intOf i).toNat)
  case atStart => exact ⟨0, by omega, rfl, by rw [HL0.out.2], by rw [HL0.out.1], Below.refl _ _⟩
  case round =>
   obtain ⟨k, hk, rfl, rfl, rfl, hbq⟩ := hrel
   have HK0w := Lib.hid (HK01.out.below hbq HK01.out.lt)
   have HK1w := Lib.hid (HK11.out.below hbq HK11.out.lt)
   have HK2w := Lib.hid (HK21.out.below hbq HK21.out.lt)
   have HK3w := Lib.hid (HK31.out.below hbq HK31.out.lt)
   have HBw := Lib.hid (HB1.out.trans ((hbq).mono HB1.out.size))
   have HBQ := Lib.hid hbq
   clear hbq
   have d0 := sl_req (w := wr) (p := ⟨w.heap.size, 0, none⟩) (HK0w.out.cell 0)
   change (loadVar 31 _).run Tryz.prog wr = .ok (.slice oa M ca) wr at d0
   by_cases hlt : k < M
   · have hlt' : (k : Int) < (M : Int) := by omega
     obtain ⟨x, hx1, hx2, _, g, o, rfl, hcs⟩ := HLS.out k hlt
     have HX1 := Lib.hid hx1
     have HX2 := Lib.hid hx2
     have hcb := HCB.out k
     have hlb := HLB.out k
     have HKP : Hid (∀ W, Below wr.heap.size wr W → (loadVar 31 ⟨w.heap.size, 0, none⟩).run Tryz.prog W = .ok (.slice (some ⟨g, o, none⟩) M ca) W ∧ (loadVar 3 ⟨g, o + k * 5, none⟩).run Tryz.prog W = .ok (.int .i64 x.c) W ∧ (loadVar 3 ⟨w.heap.size + 1, 0, none⟩).run Tryz.prog W = .ok (.int .i64 rc) W) := Lib.hid fun W hW =>
      ⟨sl_req ((HK0w.out.below hW HK0w.out.lt).cell 0), num_load (hcs W (HBw.out.trans (hW.mono HBw.out.size))).1, num_load ((HK1w.out.below hW HK1w.out.lt).cell 0)⟩
     obtain ⟨xc, hxc⟩ : ∃ xc, x.c = xc := ⟨_, rfl⟩
     rw [hxc] at HKP HX1 HX2
     clear hx1 hx2 hcs hxc
     generalize cntN rc tk k = cn at *
     generalize lstN rc tk k = ln at *
     go_wp2
     refine wp_region_held_drew (S := fun W => (loadVar 31 ⟨w.heap.size, 0, none⟩).run Tryz.prog W = .ok (.slice (some ⟨g, o, none⟩) M ca) W ∧ (loadVar 3 ⟨g, o + k * 5, none⟩).run Tryz.prog W = .ok (.int .i64 xc) W ∧ (loadVar 3 ⟨w.heap.size + 1, 0, none⟩).run Tryz.prog W = .ok (.int .i64 rc) W) (by kernel_rfl) ?_ (fun hHeld0 => ?_)
     · exact HKP.out _ (Below.refl _ _).drew
     iterate 9 (apply tkF [0, 1, 2, 3, 4, 5, 6, 7, 8] rfl rfl (by kernel_rfl) (fun _ _ _ h => h) (by rfl); (case hy => (intro w hSw; (try dsimp only at hSw); go_simp; try with_reducible rfl)); (case hS => assumption); (try simp only [Act.put, List.setIfInBounds_toArray, List.set_cons_zero, List.set_cons_succ]))
     refine wpAnyH_done (by kernel_rfl) ?_ _
     have hb9 : Below w1.heap.size w1 wr.drew := HBQ.out.drew
     generalize wr.drew = w9 at *
     by_cases he : xc = rc
     · have he' : (xc == rc) = true := by rw [beq_iff_eq]; exact he
       go_wp2
       go_roundw
       case rel => exact ⟨k + 1, by omega, by go_num, by rw [HX2.out, if_pos he], by rw [HX1.out, if_pos he], hb9⟩
       case measure => simp [intOf]; omega
     · have he' : (xc == rc) = false := by rw [beq_eq_false_iff_ne]; exact he
       go_wp2
       go_roundw
       case rel => exact ⟨k + 1, by omega, by go_num, by rw [HX2.out, if_neg he], by rw [HX1.out, if_neg he], hb9⟩
       case measure => simp [intOf]; omega
   · obtain rfl : M = k := by omega
     have hlt' : ¬ (M : Int) < (M : Int) := by omega
     have hlb := HLB.out M
     have hcb := HCB.out M
     have HLJ : Hid (∀ j : Nat, lstN rc tk M = j → ∃ x : Req, tk.getD j default = x ∧ ∃ y : Rep, rp.getD j default = y ∧ ∃ g o gr oR, oa = some ⟨g, o, none⟩ ∧ ob = some ⟨gr, oR, none⟩ ∧ j < M ∧ ∀ W, Below w.heap.size w W → (loadVar 3 ⟨g, o + j * 5 + 1, none⟩).run Tryz.prog W = .ok (.int .i64 x.q) W ∧ (loadVar 34 ⟨gr, oR + j * 3, none⟩).run Tryz.prog W = .ok (.agg #[.int .i64 y.e, .int .i64 y.i, .int .i64 y.h]) W) := Lib.hid fun j hj => by
      have hjM : j < M := by omega
      obtain ⟨x, _, _, hx, g, o, h1, hcs⟩ := HLS.out j hjM
      obtain ⟨gr, oR, h2, h3, _⟩ := rep_at HB.out (i := j) (by rw [HM.out]; exact hjM)
      have hy : rp.getD j default = rp[j]'(by rw [HM.out]; exact hjM) := by rw [List.getD_eq_getElem?_getD, List.getElem?_eq_getElem (by rw [HM.out]; exact hjM)]; rfl
      refine ⟨x, hx, rp[j]'(by rw [HM.out]; exact hjM), hy, g, o, gr, oR, h1, h2, hjM, fun W hW => ⟨num_load (hcs W hW).2, ?_⟩⟩
      have hb := HB.out.below hW
      rw [h2] at hb
      exact RowG.load repOk hb (List.getElem?_eq_getElem (by rw [HM.out]; exact hjM))
     obtain ⟨ln, hln⟩ : ∃ ln, lstN rc tk M = ln := ⟨_, rfl⟩
     obtain ⟨cn, hcn⟩ : ∃ cn, cntN rc tk M = cn := ⟨_, rfl⟩
     rw [hln] at hlb HLJ HASK
     rw [hcn] at hcb HASK
     rw [hln, hcn]
     clear hln hcn HLS HL0 HLB HCB hlt
     by_cases hl : 0 ≤ ln
     · obtain ⟨j, rfl⟩ : ∃ j : Nat, ln = j := ⟨ln.toNat, by omega⟩
       obtain ⟨x, hx, y, hy, g, o, gr, oR, rfl, rfl, hjM, hcs⟩ := HLJ.out j rfl
       have hjM' : (j : Int) < (M : Int) := by omega
       have hj0 : (0 : Int) ≤ (j : Int) := by omega
       rw [Int.toNat_natCast, hx, hy] at HASK
       clear hx hy HLJ
       obtain ⟨rx, xq, lx, kx, vx⟩ := x
       obtain ⟨ye, yi, yh⟩ := y
       have HCS := Lib.hid hcs
       clear hcs
       change Hid (∀ W, Below w.heap.size w W → (loadVar 3 ⟨g, o + j * 5 + 1, none⟩).run Tryz.prog W = .ok (.int .i64 xq) W ∧ (loadVar 34 ⟨gr, oR + j * 3, none⟩).run Tryz.prog W = .ok (.agg #[.int .i64 ye, .int .i64 yi, .int .i64 yh]) W) at HCS
       have HKB : Hid (∀ W, Below w1.heap.size w1 W → (loadVar 31 ⟨w.heap.size, 0, none⟩).run Tryz.prog W = .ok (.slice (some ⟨g, o, none⟩) M ca) W ∧ (loadVar 3 ⟨g, o + j * 5 + 1, none⟩).run Tryz.prog W = .ok (.int .i64 xq) W ∧ (loadVar 3 ⟨w.heap.size + 1, 1, none⟩).run Tryz.prog W = .ok (.int .i64 rq) W) := Lib.hid fun W hW => ⟨sl_req ((HK01.out.below hW HK01.out.lt).cell 0), (HCS.out W (HB1.out.trans (hW.mono HB1.out.size))).1, num_load ((HK11.out.below hW HK11.out.lt).cell 1)⟩
       by_cases hq1 : xq = rq
       · have hq1' : (xq == rq) = true := by rw [beq_iff_eq]; exact hq1
         rw [if_pos ⟨by omega, hq1⟩] at HASK
         go_wp2
         refine wp_region_held_drew (S := fun W => (loadVar 31 ⟨w.heap.size, 0, none⟩).run Tryz.prog W = .ok (.slice (some ⟨g, o, none⟩) M ca) W ∧ (loadVar 3 ⟨g, o + j * 5 + 1, none⟩).run Tryz.prog W = .ok (.int .i64 xq) W ∧ (loadVar 3 ⟨w.heap.size + 1, 1, none⟩).run Tryz.prog W = .ok (.int .i64 rq) W) (by kernel_rfl) ?_ (fun hHeld0 => ?_)
         · exact HKB.out _ HBQ.out.drew
         iterate 13 (apply tkF [0, 1, 2, 3, 4, 5, 6, 7, 8, 9, 10, 11, 12] rfl rfl (by kernel_rfl) (fun _ _ _ h => h) (by rfl); (case hy => (intro w hSw; (try dsimp only at hSw); go_simp; try with_reducible rfl)); (case hS => assumption); (try simp only [Act.put, List.setIfInBounds_toArray, List.set_cons_zero, List.set_cons_succ]))
         refine wpAnyH_done (by kernel_rfl) ?_ _
         have hb2 : Below w1.heap.size w1 wr.drew := HBQ.out.drew
         generalize wr.drew = w2 at *
         clear HK0w HK1w HK2w HK3w HBw HBQ d0
         go_wp2
         have hb3 : Below w1.heap.size w1 w2.drew := hb2.drew
         have HK0w := Lib.hid (HK01.out.below hb3 HK01.out.lt)
         have HK1w := Lib.hid (HK11.out.below hb3 HK11.out.lt)
         have HK2w := Lib.hid (HK21.out.below hb3 HK21.out.lt)
         have HK3w := Lib.hid (HK31.out.below hb3 HK31.out.lt)
         have HBw := Lib.hid (HB1.out.trans ((hb3).mono HB1.out.size))
         clear hb3 hb2
         have HKS : Hid (∀ W, Blk W w.heap.size 43 #[.slice (some ⟨g, o, none⟩) M ca, .slice (some ⟨gr, oR, none⟩) M cb, .slice oc P cc] → Below w.heap.size w W → (loadVar 43 ⟨w.heap.size, 0, none⟩).run Tryz.prog W = .ok (.agg #[.slice (some ⟨g, o, none⟩) M ca, .slice (some ⟨gr, oR, none⟩) M cb, .slice oc P cc]) W ∧ (loadVar 41 ⟨w.heap.size, 1, none⟩).run Tryz.prog W = .ok (.slice (some ⟨gr, oR, none⟩) M cb) W ∧ (loadVar 34 ⟨gr, oR + j * 3, none⟩).run Tryz.prog W = .ok (.agg #[.int .i64 ye, .int .i64 yi, .int .i64 yh]) W) := Lib.hid fun W h1 h2 => ⟨wld_load h1, sl_rep (h1.cell 1), (HCS.out W h2).2⟩
         refine wp_region_held_drew (S := fun W => (loadVar 43 ⟨w.heap.size, 0, none⟩).run Tryz.prog W = .ok (.agg #[.slice (some ⟨g, o, none⟩) M ca, .slice (some ⟨gr, oR, none⟩) M cb, .slice oc P cc]) W ∧ (loadVar 41 ⟨w.heap.size, 1, none⟩).run Tryz.prog W = .ok (.slice (some ⟨gr, oR, none⟩) M cb) W ∧ (loadVar 34 ⟨gr, oR + j * 3, none⟩).run Tryz.prog W = .ok (.agg #[.int .i64 ye, .int .i64 yi, .int .i64 yh]) W) (by kernel_rfl) ?_ (fun hHeld0 => ?_)
         · exact HKS.out _ HK0w.out HBw.out
         generalize w2.drew = we at *
         iterate 6 (apply tkF [0, 1, 2, 3, 4, 5] rfl rfl (by kernel_rfl) (fun _ _ _ h => h) (by rfl); (case hy => (intro w hSw; (try dsimp only at hSw); go_simp; try with_reducible rfl)); (case hS => assumption); (try simp only [Act.put, List.setIfInBounds_toArray, List.set_cons_zero, List.set_cons_succ]))
         have g0 : we.cell? ⟨w.heap.size + 2, 0, none⟩ = some (.slice none 0 0) := HK2w.out.cell 0
         have f0 := HK2w.out.frozen 0
         have g1 : we.cell? ⟨w.heap.size + 2, 1, none⟩ = some (.slice none 0 0) := HK2w.out.cell 1
         have f1 := HK2w.out.frozen 1
         have g2 : we.cell? ⟨w.heap.size + 2, 2, none⟩ = some (.slice none 0 0) := HK2w.out.cell 2
         have f2 := HK2w.out.frozen 2
         have q0 : we.cell? ⟨w.heap.size + 3, 0, none⟩ = some (.int .i64 0) := HK3w.out.cell 0
         have p0 := HK3w.out.frozen 0
         have q1 : we.cell? ⟨w.heap.size + 3, 1, none⟩ = some (.int .i64 0) := HK3w.out.cell 1
         have p1 := HK3w.out.frozen 1
         have q2 : we.cell? ⟨w.heap.size + 3, 2, none⟩ = some (.int .i64 0) := HK3w.out.cell 2
         have p2 := HK3w.out.frozen 2
         refine doH (i := 6) rfl (by kernel_rfl) (by rfl) (fun K hK => ?_)
         go_simp
         refine hK.out _ _ (HKS.out _ (HK0w.out.far3 (b := w.heap.size + 2) (by omega) (.slice (some ⟨g, o, none⟩) M ca) (.slice (some ⟨gr, oR, none⟩) M cb) (.slice oc P cc)) (Below.set3 (b := w.heap.size + 2) HBw.out (by omega) (.slice (some ⟨g, o, none⟩) M ca) (.slice (some ⟨gr, oR, none⟩) M cb) (.slice oc P cc))) (fun hHeld2 => ?_)
         clear hK K hHeld0
         (try simp only [Act.put, List.setIfInBounds_toArray, List.set_cons_zero, List.set_cons_succ])
         refine doH (i := 7) rfl (by kernel_rfl) (by rfl) (fun K hK => ?_)
         go_simp
         refine hK.out _ _ (HKS.out _ ((HK0w.out.far3 (b := w.heap.size + 2) (by omega) (.slice (some ⟨g, o, none⟩) M ca) (.slice (some ⟨gr, oR, none⟩) M cb) (.slice oc P cc)).far3 (b := w.heap.size + 3) (by omega) (.int .i64 ye) (.int .i64 yi) (.int .i64 yh)) (Below.set3 (b := w.heap.size + 3) (Below.set3 (b := w.heap.size + 2) HBw.out (by omega) (.slice (some ⟨g, o, none⟩) M ca) (.slice (some ⟨gr, oR, none⟩) M cb) (.slice oc P cc)) (by omega) (.int .i64 ye) (.int .i64 yi) (.int .i64 yh))) (fun hHeld3 => ?_)
         clear hK K hHeld2
         (try simp only [Act.put, List.setIfInBounds_toArray, List.set_cons_zero, List.set_cons_succ])
         refine wpAnyH_done (by kernel_rfl) ?_ _
         go_wp2_with fail
         have n4 := (HK2w.out.set3 (.slice (some ⟨g, o, none⟩) M ca) (.slice (some ⟨gr, oR, none⟩) M cb) (.slice oc P cc)).far3 (b := w.heap.size + 3) (by omega) (.int .i64 ye) (.int .i64 yi) (.int .i64 yh)
         have n5 := (HK3w.out.far3 (b := w.heap.size + 2) (by omega) (.slice (some ⟨g, o, none⟩) M ca) (.slice (some ⟨gr, oR, none⟩) M cb) (.slice oc P cc)).set3 (.int .i64 ye) (.int .i64 yi) (.int .i64 yh)
         have hB9 := Below.set3 (b := w.heap.size + 3) (Below.set3 (b := w.heap.size + 2) HBw.out (by omega) (.slice (some ⟨g, o, none⟩) M ca) (.slice (some ⟨gr, oR, none⟩) M cb) (.slice oc P cc)) (by omega) (.int .i64 ye) (.int .i64 yi) (.int .i64 yh)
         refine bodyPost_ret (results_row_row rfl _ _ (w.heap.size + 2) (w.heap.size + 3) 43 34 #[.slice (some ⟨g, o, none⟩) M ca, .slice (some ⟨gr, oR, none⟩) M cb, .slice oc P cc] #[.int .i64 ye, .int .i64 yi, .int .i64 yh] _ _ rfl n4 rfl n5 Tryz.underlying43 rfl (by kernel_rfl) Tryz.underlying34 rfl (by kernel_rfl)) rfl ?_
         rw [HRA.out, HASK.out]
         exact ⟨.slice (some ⟨g, o, none⟩) M ca, .slice (some ⟨gr, oR, none⟩) M cb, rfl, ⟨some ⟨g, o, none⟩, ca, by rw [HN.out], HA.out.below hB9, by rw [HN.out]; exact hNc, hoa, .inl ⟨rfl, rfl⟩⟩, ⟨some ⟨gr, oR, none⟩, cb, by rw [HM.out], HB.out.below hB9, by rw [HM.out]; exact hMc, hob, .inl ⟨rfl, rfl⟩⟩, hB9⟩
       · have hq1' : (xq == rq) = false := by rw [beq_eq_false_iff_ne]; exact hq1
         rw [if_neg (fun h => hq1 h.2)] at HASK
         go_wp2
         refine wp_region_held_drew (S := fun W => (loadVar 31 ⟨w.heap.size, 0, none⟩).run Tryz.prog W = .ok (.slice (some ⟨g, o, none⟩) M ca) W ∧ (loadVar 3 ⟨g, o + j * 5 + 1, none⟩).run Tryz.prog W = .ok (.int .i64 xq) W ∧ (loadVar 3 ⟨w.heap.size + 1, 1, none⟩).run Tryz.prog W = .ok (.int .i64 rq) W) (by kernel_rfl) ?_ (fun hHeld0 => ?_)
         · exact HKB.out _ HBQ.out.drew
         iterate 13 (apply tkF [0, 1, 2, 3, 4, 5, 6, 7, 8, 9, 10, 11, 12] rfl rfl (by kernel_rfl) (fun _ _ _ h => h) (by rfl); (case hy => (intro w hSw; (try dsimp only at hSw); go_simp; try with_reducible rfl)); (case hS => assumption); (try simp only [Act.put, List.setIfInBounds_toArray, List.set_cons_zero, List.set_cons_succ]))
         refine wpAnyH_done (by kernel_rfl) ?_ _
         have hb2 : Below w1.heap.size w1 wr.drew := HBQ.out.drew
         generalize wr.drew = w2 at *
         by_cases hq2 : rq < xq
         · rw [if_pos ⟨by omega, hq2⟩] at HASK
           go_wp2
           refine wp_region_held_drew (S := fun W => (loadVar 31 ⟨w.heap.size, 0, none⟩).run Tryz.prog W = .ok (.slice (some ⟨g, o, none⟩) M ca) W ∧ (loadVar 3 ⟨g, o + j * 5 + 1, none⟩).run Tryz.prog W = .ok (.int .i64 xq) W ∧ (loadVar 3 ⟨w.heap.size + 1, 1, none⟩).run Tryz.prog W = .ok (.int .i64 rq) W) (by kernel_rfl) ?_ (fun hHeld0 => ?_)
           · exact HKB.out _ hb2.drew
           iterate 13 (apply tkF [0, 1, 2, 3, 4, 5, 6, 7, 8, 9, 10, 11, 12] rfl rfl (by kernel_rfl) (fun _ _ _ h => h) (by rfl); (case hy => (intro w hSw; (try dsimp only at hSw); go_simp; try with_reducible rfl)); (case hS => assumption); (try simp only [Act.put, List.setIfInBounds_toArray, List.set_cons_zero, List.set_cons_succ]))
           refine wpAnyH_done (by kernel_rfl) ?_ _
           have hb3 : Below w1.heap.size w1 w2.drew := hb2.drew
           generalize w2.drew = w3 at *
           clear HK0w HK1w HK2w HK3w HBw HBQ hb2 d0
           have HK0w := Lib.hid (HK01.out.below hb3 HK01.out.lt)
           have HK1w := Lib.hid (HK11.out.below hb3 HK11.out.lt)
           have HK2w := Lib.hid (HK21.out.below hb3 HK21.out.lt)
           have HK3w := Lib.hid (HK31.out.below hb3 HK31.out.lt)
           have HBw := Lib.hid (HB1.out.trans ((hb3).mono HB1.out.size))
           clear hb3
           have d0 := wld_load HK0w.out
           have g0 : w3.cell? ⟨w.heap.size + 2, 0, none⟩ = some (.slice none 0 0) := HK2w.out.cell 0
           have f0 := HK2w.out.frozen 0
           have g1 : w3.cell? ⟨w.heap.size + 2, 1, none⟩ = some (.slice none 0 0) := HK2w.out.cell 1
           have f1 := HK2w.out.frozen 1
           have g2 : w3.cell? ⟨w.heap.size + 2, 2, none⟩ = some (.slice none 0 0) := HK2w.out.cell 2
           have f2 := HK2w.out.frozen 2
           have q0 : w3.cell? ⟨w.heap.size + 3, 0, none⟩ = some (.int .i64 0) := HK3w.out.cell 0
           have p0 := HK3w.out.frozen 0
           have q1 : w3.cell? ⟨w.heap.size + 3, 1, none⟩ = some (.int .i64 0) := HK3w.out.cell 1
           have p1 := HK3w.out.frozen 1
           have q2 : w3.cell? ⟨w.heap.size + 3, 2, none⟩ = some (.int .i64 0) := HK3w.out.cell 2
           have p2 := HK3w.out.frozen 2
           go_wp2_with fail
           have n4 := (HK2w.out.set3 (.slice (some ⟨g, o, none⟩) M ca) (.slice (some ⟨gr, oR, none⟩) M cb) (.slice oc P cc)).far3 (b := w.heap.size + 3) (by omega) (.int .i64 7) (.int .i64 0) (.int .i64 0)
           have n5 := (HK3w.out.far3 (b := w.heap.size + 2) (by omega) (.slice (some ⟨g, o, none⟩) M ca) (.slice (some ⟨gr, oR, none⟩) M cb) (.slice oc P cc)).set3 (.int .i64 7) (.int .i64 0) (.int .i64 0)
           have hB9 := Below.set3 (b := w.heap.size + 3) (Below.set3 (b := w.heap.size + 2) HBw.out (by omega) (.slice (some ⟨g, o, none⟩) M ca) (.slice (some ⟨gr, oR, none⟩) M cb) (.slice oc P cc)) (by omega) (.int .i64 7) (.int .i64 0) (.int .i64 0)
           refine bodyPost_ret (results_row_row rfl _ _ (w.heap.size + 2) (w.heap.size + 3) 43 34 #[.slice (some ⟨g, o, none⟩) M ca, .slice (some ⟨gr, oR, none⟩) M cb, .slice oc P cc] #[.int .i64 7, .int .i64 0, .int .i64 0] _ _ rfl n4 rfl n5 Tryz.underlying43 rfl (by kernel_rfl) Tryz.underlying34 rfl (by kernel_rfl)) rfl ?_
           rw [HRA.out, HASK.out]
           exact ⟨.slice (some ⟨g, o, none⟩) M ca, .slice (some ⟨gr, oR, none⟩) M cb, rfl, ⟨some ⟨g, o, none⟩, ca, by rw [HN.out], HA.out.below hB9, by rw [HN.out]; exact hNc, hoa, .inl ⟨rfl, rfl⟩⟩, ⟨some ⟨gr, oR, none⟩, cb, by rw [HM.out], HB.out.below hB9, by rw [HM.out]; exact hMc, hob, .inl ⟨rfl, rfl⟩⟩, hB9⟩
         · rw [if_neg (fun h => hq2 h.2)] at HASK
           go_wp2
           refine wp_region_held_drew (S := fun W => (loadVar 31 ⟨w.heap.size, 0, none⟩).run Tryz.prog W = .ok (.slice (some ⟨g, o, none⟩) M ca) W ∧ (loadVar 3 ⟨g, o + j * 5 + 1, none⟩).run Tryz.prog W = .ok (.int .i64 xq) W ∧ (loadVar 3 ⟨w.heap.size + 1, 1, none⟩).run Tryz.prog W = .ok (.int .i64 rq) W) (by kernel_rfl) ?_ (fun hHeld0 => ?_)
           · exact HKB.out _ hb2.drew
           iterate 13 (apply tkF [0, 1, 2, 3, 4, 5, 6, 7, 8, 9, 10, 11, 12] rfl rfl (by kernel_rfl) (fun _ _ _ h => h) (by rfl); (case hy => (intro w hSw; (try dsimp only at hSw); go_simp; try with_reducible rfl)); (case hS => assumption); (try simp only [Act.put, List.setIfInBounds_toArray, List.set_cons_zero, List.set_cons_succ]))
           refine wpAnyH_done (by kernel_rfl) ?_ _
           have hb3 : Below w1.heap.size w1 w2.drew := hb2.drew
           generalize w2.drew = w3 at *
           clear HK0w HK1w HK2w HK3w HBw HBQ hb2 d0
           have HK0w := Lib.hid (HK01.out.below hb3 HK01.out.lt)
           have HK1w := Lib.hid (HK11.out.below hb3 HK11.out.lt)
           have HK2w := Lib.hid (HK21.out.below hb3 HK21.out.lt)
           have HK3w := Lib.hid (HK31.out.below hb3 HK31.out.lt)
           have HBw := Lib.hid (HB1.out.trans ((hb3).mono HB1.out.size))
           clear hb3
           by_cases h20 : cn = 20
           · have h20' : (cn == 20) = true := by rw [beq_iff_eq]; exact h20
             rw [if_pos h20] at HASK
             have d0 := wld_load HK0w.out
             have g0 : w3.cell? ⟨w.heap.size + 2, 0, none⟩ = some (.slice none 0 0) := HK2w.out.cell 0
             have f0 := HK2w.out.frozen 0
             have g1 : w3.cell? ⟨w.heap.size + 2, 1, none⟩ = some (.slice none 0 0) := HK2w.out.cell 1
             have f1 := HK2w.out.frozen 1
             have g2 : w3.cell? ⟨w.heap.size + 2, 2, none⟩ = some (.slice none 0 0) := HK2w.out.cell 2
             have f2 := HK2w.out.frozen 2
             have q0 : w3.cell? ⟨w.heap.size + 3, 0, none⟩ = some (.int .i64 0) := HK3w.out.cell 0
             have p0 := HK3w.out.frozen 0
             have q1 : w3.cell? ⟨w.heap.size + 3, 1, none⟩ = some (.int .i64 0) := HK3w.out.cell 1
             have p1 := HK3w.out.frozen 1
             have q2 : w3.cell? ⟨w.heap.size + 3, 2, none⟩ = some (.int .i64 0) := HK3w.out.cell 2
             have p2 := HK3w.out.frozen 2
             go_wp2_with fail
             have n4 := (HK2w.out.set3 (.slice (some ⟨g, o, none⟩) M ca) (.slice (some ⟨gr, oR, none⟩) M cb) (.slice oc P cc)).far3 (b := w.heap.size + 3) (by omega) (.int .i64 6) (.int .i64 0) (.int .i64 0)
             have n5 := (HK3w.out.far3 (b := w.heap.size + 2) (by omega) (.slice (some ⟨g, o, none⟩) M ca) (.slice (some ⟨gr, oR, none⟩) M cb) (.slice oc P cc)).set3 (.int .i64 6) (.int .i64 0) (.int .i64 0)
             have hB9 := Below.set3 (b := w.heap.size + 3) (Below.set3 (b := w.heap.size + 2) HBw.out (by omega) (.slice (some ⟨g, o, none⟩) M ca) (.slice (some ⟨gr, oR, none⟩) M cb) (.slice oc P cc)) (by omega) (.int .i64 6) (.int .i64 0) (.int .i64 0)
             refine bodyPost_ret (results_row_row rfl _ _ (w.heap.size + 2) (w.heap.size + 3) 43 34 #[.slice (some ⟨g, o, none⟩) M ca, .slice (some ⟨gr, oR, none⟩) M cb, .slice oc P cc] #[.int .i64 6, .int .i64 0, .int .i64 0] _ _ rfl n4 rfl n5 Tryz.underlying43 rfl (by kernel_rfl) Tryz.underlying34 rfl (by kernel_rfl)) rfl ?_
             rw [HRA.out, HASK.out]
             exact ⟨.slice (some ⟨g, o, none⟩) M ca, .slice (some ⟨gr, oR, none⟩) M cb, rfl, ⟨some ⟨g, o, none⟩, ca, by rw [HN.out], HA.out.below hB9, by rw [HN.out]; exact hNc, hoa, .inl ⟨rfl, rfl⟩⟩, ⟨some ⟨gr, oR, none⟩, cb, by rw [HM.out], HB.out.below hB9, by rw [HM.out]; exact hMc, hob, .inl ⟨rfl, rfl⟩⟩, hB9⟩
           · have h20' : (cn == 20) = false := by rw [beq_eq_false_iff_ne]; exact h20
             rw [if_neg h20] at HASK
             have dl := sl_req (w := w3) (p := ⟨w.heap.size, 0, none⟩) (HK0w.out.cell 0)
             change (loadVar 31 _).run Tryz.prog w3 = .ok (.slice (some ⟨g, o, none⟩) M ca) w3 at dl
             by_cases h64 : (M : Int) = 64
             · have h64' : ((M : Int) == 64) = true := by rw [beq_iff_eq]; exact h64
               rw [if_pos h64] at HASK
               have d0 := wld_load HK0w.out
               have g0 : w3.cell? ⟨w.heap.size + 2, 0, none⟩ = some (.slice none 0 0) := HK2w.out.cell 0
               have f0 := HK2w.out.frozen 0
               have g1 : w3.cell? ⟨w.heap.size + 2, 1, none⟩ = some (.slice none 0 0) := HK2w.out.cell 1
               have f1 := HK2w.out.frozen 1
               have g2 : w3.cell? ⟨w.heap.size + 2, 2, none⟩ = some (.slice none 0 0) := HK2w.out.cell 2
               have f2 := HK2w.out.frozen 2
               have q0 : w3.cell? ⟨w.heap.size + 3, 0, none⟩ = some (.int .i64 0) := HK3w.out.cell 0
               have p0 := HK3w.out.frozen 0
               have q1 : w3.cell? ⟨w.heap.size + 3, 1, none⟩ = some (.int .i64 0) := HK3w.out.cell 1
               have p1 := HK3w.out.frozen 1
               have q2 : w3.cell? ⟨w.heap.size + 3, 2, none⟩ = some (.int .i64 0) := HK3w.out.cell 2
               have p2 := HK3w.out.frozen 2
               go_wp2_with fail
               have n4 := (HK2w.out.set3 (.slice (some ⟨g, o, none⟩) M ca) (.slice (some ⟨gr, oR, none⟩) M cb) (.slice oc P cc)).far3 (b := w.heap.size + 3) (by omega) (.int .i64 10) (.int .i64 0) (.int .i64 0)
               have n5 := (HK3w.out.far3 (b := w.heap.size + 2) (by omega) (.slice (some ⟨g, o, none⟩) M ca) (.slice (some ⟨gr, oR, none⟩) M cb) (.slice oc P cc)).set3 (.int .i64 10) (.int .i64 0) (.int .i64 0)
               have hB9 := Below.set3 (b := w.heap.size + 3) (Below.set3 (b := w.heap.size + 2) HBw.out (by omega) (.slice (some ⟨g, o, none⟩) M ca) (.slice (some ⟨gr, oR, none⟩) M cb) (.slice oc P cc)) (by omega) (.int .i64 10) (.int .i64 0) (.int .i64 0)
               refine bodyPost_ret (results_row_row rfl _ _ (w.heap.size + 2) (w.heap.size + 3) 43 34 #[.slice (some ⟨g, o, none⟩) M ca, .slice (some ⟨gr, oR, none⟩) M cb, .slice oc P cc] #[.int .i64 10, .int .i64 0, .int .i64 0] _ _ rfl n4 rfl n5 Tryz.underlying43 rfl (by kernel_rfl) Tryz.underlying34 rfl (by kernel_rfl)) rfl ?_
               rw [HRA.out, HASK.out]
               exact ⟨.slice (some ⟨g, o, none⟩) M ca, .slice (some ⟨gr, oR, none⟩) M cb, rfl, ⟨some ⟨g, o, none⟩, ca, by rw [HN.out], HA.out.below hB9, by rw [HN.out]; exact hNc, hoa, .inl ⟨rfl, rfl⟩⟩, ⟨some ⟨gr, oR, none⟩, cb, by rw [HM.out], HB.out.below hB9, by rw [HM.out]; exact hMc, hob, .inl ⟨rfl, rfl⟩⟩, hB9⟩
             · have h64' : ((M : Int) == 64) = false := by rw [beq_eq_false_iff_ne]; exact h64
               rw [if_neg h64] at HASK
               have dh := sl_hd (w := w3) (p := ⟨w.heap.size, 2, none⟩) (HK0w.out.cell 2)
               change (loadVar 38 _).run Tryz.prog w3 = .ok (.slice oc P cc) w3 at dh
               have e5 : IntKind.i64.wrap ((P : Int) + 1) = (P : Int) + 1 := by rw [IntKind.wrap_i64]; omega
               go_wp2_with fail
               have hq0 : Blk (w3.alloc (.cells #[.int .i64 0, .int .i64 M, .int .i64 ((P : Int) + 1)] 34)) w3.heap.size 34 #[.int .i64 0, .int .i64 M, .int .i64 ((P : Int) + 1)] := Blk.new _ _ _
               have hbq := (Below.refl _ w3).alloc (Nat.le_refl _) (.cells #[.int .i64 0, .int .i64 M, .int .i64 ((P : Int) + 1)] 34)
               have HQa := Lib.hid hq0
               have HK0a := Lib.hid (HK0w.out.alloc (.cells #[.int .i64 0, .int .i64 M, .int .i64 ((P : Int) + 1)] 34))
               have HK1a := Lib.hid (HK1w.out.alloc (.cells #[.int .i64 0, .int .i64 M, .int .i64 ((P : Int) + 1)] 34))
               have HK2a := Lib.hid (HK2w.out.alloc (.cells #[.int .i64 0, .int .i64 M, .int .i64 ((P : Int) + 1)] 34))
               have HK3a := Lib.hid (HK3w.out.alloc (.cells #[.int .i64 0, .int .i64 M, .int .i64 ((P : Int) + 1)] 34))
               have HBa := Lib.hid (HBw.out.trans (hbq.mono HBw.out.size))
               have hqg : w.heap.size + 3 < w3.heap.size := HK3w.out.lt
               clear hq0 hbq
               generalize w3.alloc (.cells #[.int .i64 0, .int .i64 M, .int .i64 ((P : Int) + 1)] 34) = wa at *
               generalize w3.heap.size = gq at *
               clear HK0w HK1w HK2w HK3w HBw dl dh
               have HWc := HK0a
               have HXc := HK1a
               have HLN := Lib.hid HN.out
               have HOLD : Hid (∀ W, Below wa.heap.size wa W → RowG reqK W (some ⟨g, o, none⟩) tk) := Lib.hid fun W hW => HA.out.below (HBa.out.trans (hW.mono HBa.out.size))
               have HNIL : Hid (M = 0 → (some ⟨g, o, none⟩ : Option Addr) = none → ca = 0) := Lib.hid fun _ => hoa
               go_upto_region 19 with fail
               go_cut [] from 86 to 93 (fun wx => ∃ vd, OwnG reqK wx wa.heap.size vd (tk ++ [(⟨rc, rq, rl, rk, rv⟩ : Req)]) ∧ Blk wx w.heap.size 43 #[vd, .slice (some ⟨gr, oR, none⟩) M cb, .slice oc P cc] ∧ World.grownBy wa wx (some w.heap.size))
               case first =>
                refine wp_region_held_drew (S := fun W => (loadVar 61 ⟨w.heap.size + 1, 0, none⟩).run Tryz.prog W = .ok (.agg #[.int .i64 rc, .int .i64 rq, .string rl, .string rk, .string rv]) W) (by kernel_rfl) ?_ (fun hHeld0 => ?_)
                · exact req_load5 (HXc.out.below ((Below.refl _ _).drew) HXc.out.lt)
                have hE : Below wa.heap.size wa wa.drew := (Below.refl _ _).drew
                generalize wa.drew = y at *
                iterate 2 (apply tkF [1, 4] rfl rfl (by kernel_rfl) (fun _ _ _ h => h) (by rfl); (case hy => (intro w hSw; (try dsimp only at hSw); go_simp; try with_reducible rfl)); (case hS => assumption); (try simp only [Act.put, List.setIfInBounds_toArray, List.set_cons_zero, List.set_cons_succ]))
                iterate 5 (all_goals (first
                 | refine doHq3 [(0, false), (2, false), (5, false)] rfl (i := 0) (j := 2) (k := 5) rfl rfl rfl (by kernel_rfl) (by rfl) (by rfl) (by rfl) (fun K hK => ?_) (fun K hK => ?_) (fun K hK => ?_)
                 | refine doHq2 [(0, true), (2, false), (5, false)] rfl (i := 2) (j := 5) rfl rfl (by kernel_rfl) (by rfl) (by rfl) (fun K hK => ?_) (fun K hK => ?_)
                 | refine doHq2 [(2, true), (0, false), (5, false)] rfl (i := 0) (j := 5) rfl rfl (by kernel_rfl) (by rfl) (by rfl) (fun K hK => ?_) (fun K hK => ?_)
                 | refine doHq2 [(5, true), (0, false), (2, false)] rfl (i := 0) (j := 2) rfl rfl (by kernel_rfl) (by rfl) (by rfl) (fun K hK => ?_) (fun K hK => ?_)
                 | refine doHq2 [(0, true), (2, true), (3, false), (5, false)] rfl (i := 3) (j := 5) rfl rfl (by kernel_rfl) (by rfl) (by rfl) (fun K hK => ?_) (fun K hK => ?_)
                 | refine doHq [(0, true), (5, true), (2, false)] rfl (i := 2) rfl (by kernel_rfl) (by rfl) (fun K hK => ?_)
                 | refine doHq [(2, true), (5, true), (0, false)] rfl (i := 0) rfl (by kernel_rfl) (by rfl) (fun K hK => ?_)
                 | refine doHq [(3, true), (5, false)] rfl (i := 5) rfl (by kernel_rfl) (by rfl) (fun K hK => ?_)
                 | refine doHq [(0, true), (2, true), (5, true), (3, false)] rfl (i := 3) rfl (by kernel_rfl) (by rfl) (fun K hK => ?_)
                 | refine doHq [(3, true), (5, true), (6, false)] rfl (i := 6) rfl (by kernel_rfl) (by rfl) (fun K hK => ?_)); all_goals (first
                 | (show Oper.wp _ ⟨some 86, _, _, _, _, _⟩ _ _ _ _; go_simp; have hO := ownG_lit reqOk y wa.heap.size hE.size; have hyA := (Below.refl _ y).alloc (Nat.le_refl _) (.cells #[] 61); change OwnG _ (y.alloc (.cells #[] 61)) _ _ _ at hO; (try replace hR := hR.below hyA); (try have hb05 : y.heap.size ≠ b5 := (by omega)); (try replace hbl : b5 < (y.alloc (.cells #[] 61)).heap.size := (by simp; omega)); replace hE := hE.trans (hyA.mono hE.size); clear hyA; generalize y.heap.size = b0 at *; generalize y.alloc (.cells #[] 61) = y at *; refine hK.out _ _ (req_load5 (HXc.out.below hE HXc.out.lt)) (fun hHeld => ?_); clear hK K; (try simp only [Act.put, List.setIfInBounds_toArray, List.set_cons_zero, List.set_cons_succ]))
                 | (show Oper.wp _ ⟨some 88, _, _, _, _, _⟩ _ _ _ _; have hL := sl_req (w := y) (p := ⟨w.heap.size, 0, none⟩) ((HWc.out.below hE HWc.out.lt).cell 0); change (loadVar 31 _).run Tryz.prog y = .ok (.slice (some ⟨g, o, none⟩) M ca) y at hL; go_simp; clear hL; refine hK.out _ _ (req_load5 (HXc.out.below hE HXc.out.lt)) (fun hHeld => ?_); clear hK K; (try simp only [Act.put, List.setIfInBounds_toArray, List.set_cons_zero, List.set_cons_succ]))
                 | (show Oper.wp _ ⟨some 89, _, _, _, _, _⟩ _ _ _ _; obtain ⟨v3, y, hr3, hO3, hg3⟩ := append_g reqOk hO (some ⟨g, o, none⟩) M ca HLN.out (HOLD.out y hE) HNIL.out (by simp; omega) hE.size; replace hE := hE.grown hg3 hE.size (fun j hj => (World.ownsRow.lt hO j hj).1); (try replace hR := hR.grown hg3 (fun a e => by cases e; intro e2; injection e2 with e2; have e3 : b0 = b5 := e2; omega)); replace hO := hO3; clear hO3; rw [List.nil_append] at hO; refine Lib.wp_append_run _ _ _ 31 31 rfl _ _ rfl rfl _ _ hr3 ?_; clear hr3 hg3; refine hK.out _ _ (req_load5 (HXc.out.below hE HXc.out.lt)) (fun hHeld => ?_); clear hK K; (try simp only [Act.put, List.setIfInBounds_toArray, List.set_cons_zero, List.set_cons_succ]))
                 | (show Oper.wp _ ⟨some 91, _, _, _, _, _⟩ _ _ _ _; go_simp; have hR := rowG_new reqOk y (⟨rc, rq, rl, rk, rv⟩ : Req); have hyA := (Below.refl _ y).alloc (Nat.le_refl _) (.cells #[.int .i64 rc, .int .i64 rq, .string rl, .string rk, .string rv] 61); change RowG _ (y.alloc (.cells #[.int .i64 rc, .int .i64 rq, .string rl, .string rk, .string rv] 61)) _ _ at hR; (try have hb05 : b0 ≠ y.heap.size := (by have := (World.ownsRow.lt hO b0 rfl).2; omega)); (try replace hO := hO.below hyA); have hbl : y.heap.size < (y.alloc (.cells #[.int .i64 rc, .int .i64 rq, .string rl, .string rk, .string rv] 61)).heap.size := (by simp); replace hE := hE.trans (hyA.mono hE.size); clear hyA; generalize y.heap.size = b5 at *; generalize y.alloc (.cells #[.int .i64 rc, .int .i64 rq, .string rl, .string rk, .string rv] 61) = y at *; refine hK.out _ _ (req_load5 (HXc.out.below hE HXc.out.lt)) (fun hHeld => ?_); clear hK K; (try simp only [Act.put, List.setIfInBounds_toArray, List.set_cons_zero, List.set_cons_succ]))
                 | (show Oper.wp _ ⟨some 92, _, _, _, _, _⟩ _ _ _ _; obtain ⟨v6, y, hr6, hO6, hg6⟩ := append_g reqOk hO (some ⟨b5, 0, none⟩) 1 1 rfl hR (fun h => absurd h (by decide)) (by rw [HLN.out]; omega) hE.size; replace hE := hE.grown hg6 hE.size (fun j hj => (World.ownsRow.lt hO j hj).1); refine Lib.wp_append_run _ _ _ 31 31 rfl _ _ rfl rfl _ _ hr6 ?_; clear hr6 hg6 hO; obtain ⟨o6, n6, c6, hv6⟩ : ∃ o n c, v6 = .slice o n c := (by obtain ⟨o, c, h, _⟩ := hO6.form reqOk; exact ⟨_, _, _, h⟩); subst hv6; refine hK.out _ _ (req_load5 (HXc.out.below hE HXc.out.lt)) (fun hHeld => ?_); clear hK K; (try simp only [Act.put, List.setIfInBounds_toArray, List.set_cons_zero, List.set_cons_succ]))))
                all_goals
                 apply tkF [7] rfl rfl (by kernel_rfl) (fun _ _ _ h => h) (by rfl); (case hy => (intro w hSw; (try dsimp only at hSw); go_simp; try with_reducible rfl)); (case hS => assumption); (try simp only [Act.put, List.setIfInBounds_toArray, List.set_cons_zero, List.set_cons_succ])
                 refine doH (i := 8) rfl (by kernel_rfl) (by rfl) (fun K hK => ?_)
                 have hW := HWc.out.below hE HWc.out.lt
                 have c8 := hW.cell 0
                 have f8 := hW.frozen 0
                 change y.cell? _ = some (.slice (some ⟨g, o, none⟩) M ca) at c8
                 go_simp
                 have hW8 : Blk (y.setCell ⟨w.heap.size, 0, none⟩ (.slice o6 n6 c6)) w.heap.size 43 #[.slice o6 n6 c6, .slice (some ⟨gr, oR, none⟩) M cb, .slice oc P cc] := hW.set_ 0 (.slice o6 n6 c6)
                 have hG8 : World.grownBy wa (y.setCell ⟨w.heap.size, 0, none⟩ (.slice o6 n6 c6)) (some w.heap.size) := grown_trans (only_of_below hE (some w.heap.size)) (grownG_setCell y ⟨w.heap.size, 0, none⟩ (.slice o6 n6 c6))
                 have hO8 := hO6.grown (grownG_setCell y ⟨w.heap.size, 0, none⟩ (.slice o6 n6 c6)) (by cases hv : Value.ownBlock (.slice o6 n6 c6) with | none => exact .inl rfl | some q => refine .inr (fun e => ?_); have h1 := (World.ownsRow.lt hO6 q hv).1; have h2 := HWc.out.lt; injection e with e; have e3 : q = w.heap.size := e; omega)
                 refine hK.out _ _ (req_load5 ((HXc.out.below hE HXc.out.lt).far (p := ⟨w.heap.size, 0, none⟩) (by show w.heap.size + 1 ≠ w.heap.size; omega) (.slice o6 n6 c6))) (fun hHeld => ?_)
                 clear hK K
                 (try simp only [Act.put, List.setIfInBounds_toArray, List.set_cons_zero, List.set_cons_succ])
                 refine wpAnyH_done (by kernel_rfl) ?_ _
                 go_wp2_with fail
                 go_meet
                 exact ⟨.slice o6 n6 c6, hO8, hW8, hG8⟩
               case rest =>
                obtain ⟨va, hO, hW, hG⟩ := hcut
                obtain ⟨na, ra, cra, hva⟩ : ∃ o n c, va = .slice o n c := (by obtain ⟨o, c, h, _⟩ := hO.form reqOk; exact ⟨_, _, _, h⟩)
                subst hva
                have HOa := Lib.hid hO
                have HK0b := Lib.hid hW
                have HK2b := Lib.hid (HK2a.out.grown hG (fun e => by injection e; omega))
                have HK3b := Lib.hid (HK3a.out.grown hG (fun e => by injection e; omega))
                have HQb := Lib.hid (HQa.out.grown hG (fun e => by injection e; omega))
                have HBb := Lib.hid (HBa.out.grown hG HBa.out.size (fun j hj => by injection hj; omega))
                have hsz := hG.size
                have hlw := HK3a.out.lt
                clear hO hW hG HWc HXc HLN HOLD HNIL HK0a HK1a HK2a HK3a HQa HBa
                obtain ⟨ba, hba⟩ : ∃ ba, wa.heap.size = ba := ⟨_, rfl⟩
                rw [hba] at HOa hsz hlw
                clear hba
                generalize wc = wb at *
                have HWc := HK0b
                have HXc := HQb
                have HLN := Lib.hid HM.out
                have HOLD : Hid (∀ W, Below wb.heap.size wb W → RowG repK W (some ⟨gr, oR, none⟩) rp) := Lib.hid fun W hW => HB.out.below (HBb.out.trans (hW.mono HBb.out.size))
                have HNIL : Hid (M = 0 → (some ⟨gr, oR, none⟩ : Option Addr) = none → cb = 0) := Lib.hid fun _ => hob
                go_upto_region 20 with fail
                go_cut [] from 94 to 101 (fun wx => ∃ vd, OwnG repK wx wb.heap.size vd (rp ++ [(⟨0, M, (P : Int) + 1⟩ : Rep)]) ∧ Blk wx w.heap.size 43 #[.slice na ra cra, vd, .slice oc P cc] ∧ World.grownBy wb wx (some w.heap.size))
                case first =>
                 refine wp_region_held_drew (S := fun W => (loadVar 34 ⟨gq, 0, none⟩).run Tryz.prog W = .ok (.agg #[.int .i64 0, .int .i64 M, .int .i64 ((P : Int) + 1)]) W) (by kernel_rfl) ?_ (fun hHeld0 => ?_)
                 · exact rep_load3 (HXc.out.below ((Below.refl _ _).drew) HXc.out.lt)
                 have hE : Below wb.heap.size wb wb.drew := (Below.refl _ _).drew
                 generalize wb.drew = y at *
                 iterate 2 (apply tkF [1, 4] rfl rfl (by kernel_rfl) (fun _ _ _ h => h) (by rfl); (case hy => (intro w hSw; (try dsimp only at hSw); go_simp; try with_reducible rfl)); (case hS => assumption); (try simp only [Act.put, List.setIfInBounds_toArray, List.set_cons_zero, List.set_cons_succ]))
                 iterate 5 (all_goals (first
                  | refine doHq3 [(0, false), (2, false), (5, false)] rfl (i := 0) (j := 2) (k := 5) rfl rfl rfl (by kernel_rfl) (by rfl) (by rfl) (by rfl) (fun K hK => ?_) (fun K hK => ?_) (fun K hK => ?_)
                  | refine doHq2 [(0, true), (2, false), (5, false)] rfl (i := 2) (j := 5) rfl rfl (by kernel_rfl) (by rfl) (by rfl) (fun K hK => ?_) (fun K hK => ?_)
                  | refine doHq2 [(2, true), (0, false), (5, false)] rfl (i := 0) (j := 5) rfl rfl (by kernel_rfl) (by rfl) (by rfl) (fun K hK => ?_) (fun K hK => ?_)
                  | refine doHq2 [(5, true), (0, false), (2, false)] rfl (i := 0) (j := 2) rfl rfl (by kernel_rfl) (by rfl) (by rfl) (fun K hK => ?_) (fun K hK => ?_)
                  | refine doHq2 [(0, true), (2, true), (3, false), (5, false)] rfl (i := 3) (j := 5) rfl rfl (by kernel_rfl) (by rfl) (by rfl) (fun K hK => ?_) (fun K hK => ?_)
                  | refine doHq [(0, true), (5, true), (2, false)] rfl (i := 2) rfl (by kernel_rfl) (by rfl) (fun K hK => ?_)
                  | refine doHq [(2, true), (5, true), (0, false)] rfl (i := 0) rfl (by kernel_rfl) (by rfl) (fun K hK => ?_)
                  | refine doHq [(3, true), (5, false)] rfl (i := 5) rfl (by kernel_rfl) (by rfl) (fun K hK => ?_)
                  | refine doHq [(0, true), (2, true), (5, true), (3, false)] rfl (i := 3) rfl (by kernel_rfl) (by rfl) (fun K hK => ?_)
                  | refine doHq [(3, true), (5, true), (6, false)] rfl (i := 6) rfl (by kernel_rfl) (by rfl) (fun K hK => ?_)); all_goals (first
                  | (show Oper.wp _ ⟨some 94, _, _, _, _, _⟩ _ _ _ _; go_simp; have hO := ownG_lit repOk y wb.heap.size hE.size; have hyA := (Below.refl _ y).alloc (Nat.le_refl _) (.cells #[] 34); change OwnG _ (y.alloc (.cells #[] 34)) _ _ _ at hO; (try replace hR := hR.below hyA); (try have hb05 : y.heap.size ≠ b5 := (by omega)); (try replace hbl : b5 < (y.alloc (.cells #[] 34)).heap.size := (by simp; omega)); replace hE := hE.trans (hyA.mono hE.size); clear hyA; generalize y.heap.size = b0 at *; generalize y.alloc (.cells #[] 34) = y at *; refine hK.out _ _ (rep_load3 (HXc.out.below hE HXc.out.lt)) (fun hHeld => ?_); clear hK K; (try simp only [Act.put, List.setIfInBounds_toArray, List.set_cons_zero, List.set_cons_succ]))
                  | (show Oper.wp _ ⟨some 96, _, _, _, _, _⟩ _ _ _ _; have hL := sl_rep (w := y) (p := ⟨w.heap.size, 1, none⟩) ((HWc.out.below hE HWc.out.lt).cell 1); change (loadVar 41 _).run Tryz.prog y = .ok (.slice (some ⟨gr, oR, none⟩) M cb) y at hL; go_simp; clear hL; refine hK.out _ _ (rep_load3 (HXc.out.below hE HXc.out.lt)) (fun hHeld => ?_); clear hK K; (try simp only [Act.put, List.setIfInBounds_toArray, List.set_cons_zero, List.set_cons_succ]))
                  | (show Oper.wp _ ⟨some 97, _, _, _, _, _⟩ _ _ _ _; obtain ⟨v3, y, hr3, hO3, hg3⟩ := append_g repOk hO (some ⟨gr, oR, none⟩) M cb HLN.out (HOLD.out y hE) HNIL.out (by simp; omega) hE.size; replace hE := hE.grown hg3 hE.size (fun j hj => (World.ownsRow.lt hO j hj).1); (try replace hR := hR.grown hg3 (fun a e => by cases e; intro e2; injection e2 with e2; have e3 : b0 = b5 := e2; omega)); replace hO := hO3; clear hO3; rw [List.nil_append] at hO; refine Lib.wp_append_run _ _ _ 41 41 rfl _ _ rfl rfl _ _ hr3 ?_; clear hr3 hg3; refine hK.out _ _ (rep_load3 (HXc.out.below hE HXc.out.lt)) (fun hHeld => ?_); clear hK K; (try simp only [Act.put, List.setIfInBounds_toArray, List.set_cons_zero, List.set_cons_succ]))
                  | (show Oper.wp _ ⟨some 99, _, _, _, _, _⟩ _ _ _ _; go_simp; have hR := rowG_new repOk y (⟨0, M, (P : Int) + 1⟩ : Rep); have hyA := (Below.refl _ y).alloc (Nat.le_refl _) (.cells #[.int .i64 0, .int .i64 M, .int .i64 ((P : Int) + 1)] 34); change RowG _ (y.alloc (.cells #[.int .i64 0, .int .i64 M, .int .i64 ((P : Int) + 1)] 34)) _ _ at hR; (try have hb05 : b0 ≠ y.heap.size := (by have := (World.ownsRow.lt hO b0 rfl).2; omega)); (try replace hO := hO.below hyA); have hbl : y.heap.size < (y.alloc (.cells #[.int .i64 0, .int .i64 M, .int .i64 ((P : Int) + 1)] 34)).heap.size := (by simp); replace hE := hE.trans (hyA.mono hE.size); clear hyA; generalize y.heap.size = b5 at *; generalize y.alloc (.cells #[.int .i64 0, .int .i64 M, .int .i64 ((P : Int) + 1)] 34) = y at *; refine hK.out _ _ (rep_load3 (HXc.out.below hE HXc.out.lt)) (fun hHeld => ?_); clear hK K; (try simp only [Act.put, List.setIfInBounds_toArray, List.set_cons_zero, List.set_cons_succ]))
                  | (show Oper.wp _ ⟨some 100, _, _, _, _, _⟩ _ _ _ _; obtain ⟨v6, y, hr6, hO6, hg6⟩ := append_g repOk hO (some ⟨b5, 0, none⟩) 1 1 rfl hR (fun h => absurd h (by decide)) (by rw [HLN.out]; omega) hE.size; replace hE := hE.grown hg6 hE.size (fun j hj => (World.ownsRow.lt hO j hj).1); refine Lib.wp_append_run _ _ _ 41 41 rfl _ _ rfl rfl _ _ hr6 ?_; clear hr6 hg6 hO; obtain ⟨o6, n6, c6, hv6⟩ : ∃ o n c, v6 = .slice o n c := (by obtain ⟨o, c, h, _⟩ := hO6.form repOk; exact ⟨_, _, _, h⟩); subst hv6; refine hK.out _ _ (rep_load3 (HXc.out.below hE HXc.out.lt)) (fun hHeld => ?_); clear hK K; (try simp only [Act.put, List.setIfInBounds_toArray, List.set_cons_zero, List.set_cons_succ]))))
                 all_goals
                  apply tkF [7] rfl rfl (by kernel_rfl) (fun _ _ _ h => h) (by rfl); (case hy => (intro w hSw; (try dsimp only at hSw); go_simp; try with_reducible rfl)); (case hS => assumption); (try simp only [Act.put, List.setIfInBounds_toArray, List.set_cons_zero, List.set_cons_succ])
                  refine doH (i := 8) rfl (by kernel_rfl) (by rfl) (fun K hK => ?_)
                  have hW := HWc.out.below hE HWc.out.lt
                  have c8 := hW.cell 1
                  have f8 := hW.frozen 1
                  change y.cell? _ = some (.slice (some ⟨gr, oR, none⟩) M cb) at c8
                  go_simp
                  have hW8 : Blk (y.setCell ⟨w.heap.size, 1, none⟩ (.slice o6 n6 c6)) w.heap.size 43 #[.slice na ra cra, .slice o6 n6 c6, .slice oc P cc] := hW.set_ 1 (.slice o6 n6 c6)
                  have hG8 : World.grownBy wb (y.setCell ⟨w.heap.size, 1, none⟩ (.slice o6 n6 c6)) (some w.heap.size) := grown_trans (only_of_below hE (some w.heap.size)) (grownG_setCell y ⟨w.heap.size, 1, none⟩ (.slice o6 n6 c6))
                  have hO8 := hO6.grown (grownG_setCell y ⟨w.heap.size, 1, none⟩ (.slice o6 n6 c6)) (by cases hv : Value.ownBlock (.slice o6 n6 c6) with | none => exact .inl rfl | some q => refine .inr (fun e => ?_); have h1 := (World.ownsRow.lt hO6 q hv).1; have h2 := HWc.out.lt; injection e with e; have e3 : q = w.heap.size := e; omega)
                  refine hK.out _ _ (rep_load3 ((HXc.out.below hE HXc.out.lt).far (p := ⟨w.heap.size, 1, none⟩) (by show gq ≠ w.heap.size; omega) (.slice o6 n6 c6))) (fun hHeld => ?_)
                  clear hK K
                  (try simp only [Act.put, List.setIfInBounds_toArray, List.set_cons_zero, List.set_cons_succ])
                  refine wpAnyH_done (by kernel_rfl) ?_ _
                  go_wp2_with fail
                  go_meet
                  exact ⟨.slice o6 n6 c6, hO8, hW8, hG8⟩
                case rest =>
                 obtain ⟨vb, hO, hW, hG⟩ := hcut
                 obtain ⟨nb, rb, crb, hvb⟩ : ∃ o n c, vb = .slice o n c := (by obtain ⟨o, c, h, _⟩ := hO.form repOk; exact ⟨_, _, _, h⟩)
                 subst hvb
                 have hOa := HOa.out.grown hG (by cases hv : Value.ownBlock (.slice na ra cra) with | none => exact .inl rfl | some q => refine .inr (fun e => ?_); have h1 := (World.ownsRow.lt HOa.out q hv).1; injection e with e; have e3 : q = w.heap.size := e; omega)
                 have hK2e := HK2b.out.grown hG (fun e => by injection e; omega)
                 have hK3e := HK3b.out.grown hG (fun e => by injection e; omega)
                 have hQe := HQb.out.grown hG (fun e => by injection e; omega)
                 have hBe := HBb.out.grown hG HBb.out.size (fun j hj => by injection hj; omega)
                 have hsb := HK3b.out.lt
                 obtain ⟨ea, hRa, hca, hna, hga⟩ := hOa.parts reqOk
                 obtain ⟨eb, hRb, hcb2, hnb, hgb⟩ := hO.parts repOk
                 have HEA := Lib.hid ea
                 have HEB := Lib.hid eb
                 have HCA := Lib.hid hca
                 have HCB2 := Lib.hid hcb2
                 have HKS : Hid (∀ W, Blk W w.heap.size 43 #[.slice na ra cra, .slice nb rb crb, .slice oc P cc] → Blk W gq 34 #[.int .i64 0, .int .i64 M, .int .i64 ((P : Int) + 1)] → (loadVar 43 ⟨w.heap.size, 0, none⟩).run Tryz.prog W = .ok (.agg #[.slice na ra cra, .slice nb rb crb, .slice oc P cc]) W ∧ (loadVar 34 ⟨gq, 0, none⟩).run Tryz.prog W = .ok (.agg #[.int .i64 0, .int .i64 M, .int .i64 ((P : Int) + 1)]) W) := Lib.hid fun W h1 h2 => ⟨wld_load h1, rep_load3 h2⟩
                 have hna2 : ∀ a, na = some a → w.heap.size ≤ a.block ∧ a.block ≠ w.heap.size + 2 ∧ a.block ≠ w.heap.size + 3 := fun a h => by have := hga a h; omega
                 have hnb2 : ∀ a, nb = some a → w.heap.size ≤ a.block ∧ a.block ≠ w.heap.size + 2 ∧ a.block ≠ w.heap.size + 3 := fun a h => by have := hgb a h; omega
                 clear ea eb hca hcb2 hG hO hOa hga hgb HWc HXc HLN HOLD HNIL HOa HK0b HK2b HK3b HQb HBb
                 go_wp2_with fail
                 refine wp_region_held_drew (S := fun W => (loadVar 43 ⟨w.heap.size, 0, none⟩).run Tryz.prog W = .ok (.agg #[.slice na ra cra, .slice nb rb crb, .slice oc P cc]) W ∧ (loadVar 34 ⟨gq, 0, none⟩).run Tryz.prog W = .ok (.agg #[.int .i64 0, .int .i64 M, .int .i64 ((P : Int) + 1)]) W) (by kernel_rfl) ?_ (fun hHeld0 => ?_)
                 · exact HKS.out _ hW hQe
                 have hd0 : Below wc.heap.size wc wc.drew := (Below.refl _ _).drew
                 have HW9 := Lib.hid (hW.below hd0 hW.lt)
                 have HQ9 := Lib.hid (hQe.below hd0 hQe.lt)
                 have HK2w := Lib.hid (hK2e.below hd0 hK2e.lt)
                 have HK3w := Lib.hid (hK3e.below hd0 hK3e.lt)
                 have HBw := Lib.hid (hBe.trans (hd0.mono hBe.size))
                 have HRa := Lib.hid (hRa.below hd0)
                 have HRb := Lib.hid (hRb.below hd0)
                 clear hW hQe hK2e hK3e hBe hRa hRb hd0
                 generalize wc.drew = we at *
                 iterate 2 (apply tkF [0, 1] rfl rfl (by kernel_rfl) (fun _ _ _ h => h) (by rfl); (case hy => (intro w hSw; (try dsimp only at hSw); go_simp; try with_reducible rfl)); (case hS => assumption); (try simp only [Act.put, List.setIfInBounds_toArray, List.set_cons_zero, List.set_cons_succ]))
                 have g0 : we.cell? ⟨w.heap.size + 2, 0, none⟩ = some (.slice none 0 0) := HK2w.out.cell 0
                 have f0 := HK2w.out.frozen 0
                 have g1 : we.cell? ⟨w.heap.size + 2, 1, none⟩ = some (.slice none 0 0) := HK2w.out.cell 1
                 have f1 := HK2w.out.frozen 1
                 have g2 : we.cell? ⟨w.heap.size + 2, 2, none⟩ = some (.slice none 0 0) := HK2w.out.cell 2
                 have f2 := HK2w.out.frozen 2
                 have q0 : we.cell? ⟨w.heap.size + 3, 0, none⟩ = some (.int .i64 0) := HK3w.out.cell 0
                 have p0 := HK3w.out.frozen 0
                 have q1 : we.cell? ⟨w.heap.size + 3, 1, none⟩ = some (.int .i64 0) := HK3w.out.cell 1
                 have p1 := HK3w.out.frozen 1
                 have q2 : we.cell? ⟨w.heap.size + 3, 2, none⟩ = some (.int .i64 0) := HK3w.out.cell 2
                 have p2 := HK3w.out.frozen 2
                 refine doH (i := 2) rfl (by kernel_rfl) (by rfl) (fun K hK => ?_)
                 go_simp
                 refine hK.out _ _ (HKS.out _ (HW9.out.far3 (b := w.heap.size + 2) (by omega) (.slice na ra cra) (.slice nb rb crb) (.slice oc P cc)) (HQ9.out.far3 (b := w.heap.size + 2) (by omega) (.slice na ra cra) (.slice nb rb crb) (.slice oc P cc))) (fun hHeld2 => ?_)
                 clear hK K hHeld0
                 (try simp only [Act.put, List.setIfInBounds_toArray, List.set_cons_zero, List.set_cons_succ])
                 refine doH (i := 3) rfl (by kernel_rfl) (by rfl) (fun K hK => ?_)
                 go_simp
                 refine hK.out _ _ (HKS.out _ ((HW9.out.far3 (b := w.heap.size + 2) (by omega) (.slice na ra cra) (.slice nb rb crb) (.slice oc P cc)).far3 (b := w.heap.size + 3) (by omega) (.int .i64 0) (.int .i64 M) (.int .i64 ((P : Int) + 1))) ((HQ9.out.far3 (b := w.heap.size + 2) (by omega) (.slice na ra cra) (.slice nb rb crb) (.slice oc P cc)).far3 (b := w.heap.size + 3) (by omega) (.int .i64 0) (.int .i64 M) (.int .i64 ((P : Int) + 1)))) (fun hHeld3 => ?_)
                 clear hK K hHeld2
                 (try simp only [Act.put, List.setIfInBounds_toArray, List.set_cons_zero, List.set_cons_succ])
                 refine wpAnyH_done (by kernel_rfl) ?_ _
                 go_wp2_with fail
                 have n4 := (HK2w.out.set3 (.slice na ra cra) (.slice nb rb crb) (.slice oc P cc)).far3 (b := w.heap.size + 3) (by omega) (.int .i64 0) (.int .i64 M) (.int .i64 ((P : Int) + 1))
                 have n5 := (HK3w.out.far3 (b := w.heap.size + 2) (by omega) (.slice na ra cra) (.slice nb rb crb) (.slice oc P cc)).set3 (.int .i64 0) (.int .i64 M) (.int .i64 ((P : Int) + 1))
                 have hB9 := Below.set3 (b := w.heap.size + 3) (Below.set3 (b := w.heap.size + 2) HBw.out (by omega) (.slice na ra cra) (.slice nb rb crb) (.slice oc P cc)) (by omega) (.int .i64 0) (.int .i64 M) (.int .i64 ((P : Int) + 1))
                 refine bodyPost_ret (results_row_row rfl _ _ (w.heap.size + 2) (w.heap.size + 3) 43 34 #[.slice na ra cra, .slice nb rb crb, .slice oc P cc] #[.int .i64 0, .int .i64 M, .int .i64 ((P : Int) + 1)] _ _ rfl n4 rfl n5 Tryz.underlying43 rfl (by kernel_rfl) Tryz.underlying34 rfl (by kernel_rfl)) rfl ?_
                 rw [HRA.out, HASK.out]
                 exact ⟨.slice na ra cra, .slice nb rb crb, rfl, ⟨na, cra, by rw [HEA.out], (HRa.out.set3 (fun x h => (hna2 x h).2.1) (.slice na ra cra) (.slice nb rb crb) (.slice oc P cc)).set3 (fun x h => (hna2 x h).2.2) (.int .i64 0) (.int .i64 M) (.int .i64 ((P : Int) + 1)), HCA.out, hna, .inr fun x h => (hna2 x h).1⟩, ⟨nb, crb, by rw [HEB.out], (HRb.out.set3 (fun x h => (hnb2 x h).2.1) (.slice na ra cra) (.slice nb rb crb) (.slice oc P cc)).set3 (fun x h => (hnb2 x h).2.2) (.int .i64 0) (.int .i64 M) (.int .i64 ((P : Int) + 1)), HCB2.out, hnb, .inr fun x h => (hnb2 x h).1⟩, hB9⟩
     · have hl1 : ln = -1 := by omega
       subst hl1
       rw [if_neg (fun h => absurd h.1 (by decide)), if_neg (fun h => absurd h.1 (by decide))] at HASK
       go_wp2
       refine wp_region_held_drew (S := fun W => Below w1.heap.size w1 W) (by kernel_rfl) ?_ (fun hHeld0 => ?_)
       · exact HBQ.out.drew
       iterate 3 (apply tkF [0, 1, 2] rfl rfl (by kernel_rfl) (fun _ _ _ h => h) (by rfl); (case hy => (intro w hSw; (try dsimp only at hSw); go_simp; try with_reducible rfl)); (case hS => assumption); (try simp only [Act.put, List.setIfInBounds_toArray, List.set_cons_zero, List.set_cons_succ]))
       iterate 9 (refine skF [3, 4, 5, 6, 7, 8, 9, 10, 11] rfl rfl (by kernel_rfl) (fun _ _ _ h => h) (by rfl) (by assumption) ?_; (try simp only [Act.put, List.setIfInBounds_toArray, List.set_cons_zero, List.set_cons_succ]))
       (apply tkF [12] rfl rfl (by kernel_rfl) (fun _ _ _ h => h) (by rfl); (case hy => (intro w hSw; (try dsimp only at hSw); go_simp; try with_reducible rfl)); (case hS => assumption); (try simp only [Act.put, List.setIfInBounds_toArray, List.set_cons_zero, List.set_cons_succ]))
       refine wpAnyH_done (by kernel_rfl) ?_ _
       have hb2 : Below w1.heap.size w1 wr.drew := HBQ.out.drew
       generalize wr.drew = w2 at *
       go_wp2
       refine wp_region_held_drew (S := fun W => Below w1.heap.size w1 W) (by kernel_rfl) ?_ (fun hHeld0 => ?_)
       · exact hb2.drew
       iterate 3 (apply tkF [0, 1, 2] rfl rfl (by kernel_rfl) (fun _ _ _ h => h) (by rfl); (case hy => (intro w hSw; (try dsimp only at hSw); go_simp; try with_reducible rfl)); (case hS => assumption); (try simp only [Act.put, List.setIfInBounds_toArray, List.set_cons_zero, List.set_cons_succ]))
       iterate 9 (refine skF [3, 4, 5, 6, 7, 8, 9, 10, 11] rfl rfl (by kernel_rfl) (fun _ _ _ h => h) (by rfl) (by assumption) ?_; (try simp only [Act.put, List.setIfInBounds_toArray, List.set_cons_zero, List.set_cons_succ]))
       (apply tkF [12] rfl rfl (by kernel_rfl) (fun _ _ _ h => h) (by rfl); (case hy => (intro w hSw; (try dsimp only at hSw); go_simp; try with_reducible rfl)); (case hS => assumption); (try simp only [Act.put, List.setIfInBounds_toArray, List.set_cons_zero, List.set_cons_succ]))
       refine wpAnyH_done (by kernel_rfl) ?_ _
       have hb3 : Below w1.heap.size w1 w2.drew := hb2.drew
       generalize w2.drew = w3 at *
       clear HK0w HK1w HK2w HK3w HBw HBQ hb2 d0
       have HK0w := Lib.hid (HK01.out.below hb3 HK01.out.lt)
       have HK1w := Lib.hid (HK11.out.below hb3 HK11.out.lt)
       have HK2w := Lib.hid (HK21.out.below hb3 HK21.out.lt)
       have HK3w := Lib.hid (HK31.out.below hb3 HK31.out.lt)
       have HBw := Lib.hid (HB1.out.trans ((hb3).mono HB1.out.size))
       clear hb3
       by_cases h20 : cn = 20
       · have h20' : (cn == 20) = true := by rw [beq_iff_eq]; exact h20
         rw [if_pos h20] at HASK
         have d0 := wld_load HK0w.out
         have g0 : w3.cell? ⟨w.heap.size + 2, 0, none⟩ = some (.slice none 0 0) := HK2w.out.cell 0
         have f0 := HK2w.out.frozen 0
         have g1 : w3.cell? ⟨w.heap.size + 2, 1, none⟩ = some (.slice none 0 0) := HK2w.out.cell 1
         have f1 := HK2w.out.frozen 1
         have g2 : w3.cell? ⟨w.heap.size + 2, 2, none⟩ = some (.slice none 0 0) := HK2w.out.cell 2
         have f2 := HK2w.out.frozen 2
         have q0 : w3.cell? ⟨w.heap.size + 3, 0, none⟩ = some (.int .i64 0) := HK3w.out.cell 0
         have p0 := HK3w.out.frozen 0
         have q1 : w3.cell? ⟨w.heap.size + 3, 1, none⟩ = some (.int .i64 0) := HK3w.out.cell 1
         have p1 := HK3w.out.frozen 1
         have q2 : w3.cell? ⟨w.heap.size + 3, 2, none⟩ = some (.int .i64 0) := HK3w.out.cell 2
         have p2 := HK3w.out.frozen 2
         go_wp2_with fail
         have n4 := (HK2w.out.set3 (.slice oa M ca) (.slice ob M cb) (.slice oc P cc)).far3 (b := w.heap.size + 3) (by omega) (.int .i64 6) (.int .i64 0) (.int .i64 0)
         have n5 := (HK3w.out.far3 (b := w.heap.size + 2) (by omega) (.slice oa M ca) (.slice ob M cb) (.slice oc P cc)).set3 (.int .i64 6) (.int .i64 0) (.int .i64 0)
         have hB9 := Below.set3 (b := w.heap.size + 3) (Below.set3 (b := w.heap.size + 2) HBw.out (by omega) (.slice oa M ca) (.slice ob M cb) (.slice oc P cc)) (by omega) (.int .i64 6) (.int .i64 0) (.int .i64 0)
         refine bodyPost_ret (results_row_row rfl _ _ (w.heap.size + 2) (w.heap.size + 3) 43 34 #[.slice oa M ca, .slice ob M cb, .slice oc P cc] #[.int .i64 6, .int .i64 0, .int .i64 0] _ _ rfl n4 rfl n5 Tryz.underlying43 rfl (by kernel_rfl) Tryz.underlying34 rfl (by kernel_rfl)) rfl ?_
         rw [HRA.out, HASK.out]
         exact ⟨.slice oa M ca, .slice ob M cb, rfl, ⟨oa, ca, by rw [HN.out], HA.out.below hB9, by rw [HN.out]; exact hNc, hoa, .inl ⟨rfl, rfl⟩⟩, ⟨ob, cb, by rw [HM.out], HB.out.below hB9, by rw [HM.out]; exact hMc, hob, .inl ⟨rfl, rfl⟩⟩, hB9⟩
       · have h20' : (cn == 20) = false := by rw [beq_eq_false_iff_ne]; exact h20
         rw [if_neg h20] at HASK
         have dl := sl_req (w := w3) (p := ⟨w.heap.size, 0, none⟩) (HK0w.out.cell 0)
         change (loadVar 31 _).run Tryz.prog w3 = .ok (.slice oa M ca) w3 at dl
         by_cases h64 : (M : Int) = 64
         · have h64' : ((M : Int) == 64) = true := by rw [beq_iff_eq]; exact h64
           rw [if_pos h64] at HASK
           have d0 := wld_load HK0w.out
           have g0 : w3.cell? ⟨w.heap.size + 2, 0, none⟩ = some (.slice none 0 0) := HK2w.out.cell 0
           have f0 := HK2w.out.frozen 0
           have g1 : w3.cell? ⟨w.heap.size + 2, 1, none⟩ = some (.slice none 0 0) := HK2w.out.cell 1
           have f1 := HK2w.out.frozen 1
           have g2 : w3.cell? ⟨w.heap.size + 2, 2, none⟩ = some (.slice none 0 0) := HK2w.out.cell 2
           have f2 := HK2w.out.frozen 2
           have q0 : w3.cell? ⟨w.heap.size + 3, 0, none⟩ = some (.int .i64 0) := HK3w.out.cell 0
           have p0 := HK3w.out.frozen 0
           have q1 : w3.cell? ⟨w.heap.size + 3, 1, none⟩ = some (.int .i64 0) := HK3w.out.cell 1
           have p1 := HK3w.out.frozen 1
           have q2 : w3.cell? ⟨w.heap.size + 3, 2, none⟩ = some (.int .i64 0) := HK3w.out.cell 2
           have p2 := HK3w.out.frozen 2
           go_wp2_with fail
           have n4 := (HK2w.out.set3 (.slice oa M ca) (.slice ob M cb) (.slice oc P cc)).far3 (b := w.heap.size + 3) (by omega) (.int .i64 10) (.int .i64 0) (.int .i64 0)
           have n5 := (HK3w.out.far3 (b := w.heap.size + 2) (by omega) (.slice oa M ca) (.slice ob M cb) (.slice oc P cc)).set3 (.int .i64 10) (.int .i64 0) (.int .i64 0)
           have hB9 := Below.set3 (b := w.heap.size + 3) (Below.set3 (b := w.heap.size + 2) HBw.out (by omega) (.slice oa M ca) (.slice ob M cb) (.slice oc P cc)) (by omega) (.int .i64 10) (.int .i64 0) (.int .i64 0)
           refine bodyPost_ret (results_row_row rfl _ _ (w.heap.size + 2) (w.heap.size + 3) 43 34 #[.slice oa M ca, .slice ob M cb, .slice oc P cc] #[.int .i64 10, .int .i64 0, .int .i64 0] _ _ rfl n4 rfl n5 Tryz.underlying43 rfl (by kernel_rfl) Tryz.underlying34 rfl (by kernel_rfl)) rfl ?_
           rw [HRA.out, HASK.out]
           exact ⟨.slice oa M ca, .slice ob M cb, rfl, ⟨oa, ca, by rw [HN.out], HA.out.below hB9, by rw [HN.out]; exact hNc, hoa, .inl ⟨rfl, rfl⟩⟩, ⟨ob, cb, by rw [HM.out], HB.out.below hB9, by rw [HM.out]; exact hMc, hob, .inl ⟨rfl, rfl⟩⟩, hB9⟩
         · have h64' : ((M : Int) == 64) = false := by rw [beq_eq_false_iff_ne]; exact h64
           rw [if_neg h64] at HASK
           have dh := sl_hd (w := w3) (p := ⟨w.heap.size, 2, none⟩) (HK0w.out.cell 2)
           change (loadVar 38 _).run Tryz.prog w3 = .ok (.slice oc P cc) w3 at dh
           have e5 : IntKind.i64.wrap ((P : Int) + 1) = (P : Int) + 1 := by rw [IntKind.wrap_i64]; omega
           go_wp2_with fail
           have hq0 : Blk (w3.alloc (.cells #[.int .i64 0, .int .i64 M, .int .i64 ((P : Int) + 1)] 34)) w3.heap.size 34 #[.int .i64 0, .int .i64 M, .int .i64 ((P : Int) + 1)] := Blk.new _ _ _
           have hbq := (Below.refl _ w3).alloc (Nat.le_refl _) (.cells #[.int .i64 0, .int .i64 M, .int .i64 ((P : Int) + 1)] 34)
           have HQa := Lib.hid hq0
           have HK0a := Lib.hid (HK0w.out.alloc (.cells #[.int .i64 0, .int .i64 M, .int .i64 ((P : Int) + 1)] 34))
           have HK1a := Lib.hid (HK1w.out.alloc (.cells #[.int .i64 0, .int .i64 M, .int .i64 ((P : Int) + 1)] 34))
           have HK2a := Lib.hid (HK2w.out.alloc (.cells #[.int .i64 0, .int .i64 M, .int .i64 ((P : Int) + 1)] 34))
           have HK3a := Lib.hid (HK3w.out.alloc (.cells #[.int .i64 0, .int .i64 M, .int .i64 ((P : Int) + 1)] 34))
           have HBa := Lib.hid (HBw.out.trans (hbq.mono HBw.out.size))
           have hqg : w.heap.size + 3 < w3.heap.size := HK3w.out.lt
           clear hq0 hbq
           generalize w3.alloc (.cells #[.int .i64 0, .int .i64 M, .int .i64 ((P : Int) + 1)] 34) = wa at *
           generalize w3.heap.size = gq at *
           clear HK0w HK1w HK2w HK3w HBw dl dh
           have HWc := HK0a
           have HXc := HK1a
           have HLN := Lib.hid HN.out
           have HOLD : Hid (∀ W, Below wa.heap.size wa W → RowG reqK W oa tk) := Lib.hid fun W hW => HA.out.below (HBa.out.trans (hW.mono HBa.out.size))
           have HNIL : Hid (M = 0 → oa = none → ca = 0) := Lib.hid fun _ => hoa
           go_upto_region 19 with fail
           go_cut [] from 86 to 93 (fun wx => ∃ vd, OwnG reqK wx wa.heap.size vd (tk ++ [(⟨rc, rq, rl, rk, rv⟩ : Req)]) ∧ Blk wx w.heap.size 43 #[vd, .slice ob M cb, .slice oc P cc] ∧ World.grownBy wa wx (some w.heap.size))
           case first =>
            refine wp_region_held_drew (S := fun W => (loadVar 61 ⟨w.heap.size + 1, 0, none⟩).run Tryz.prog W = .ok (.agg #[.int .i64 rc, .int .i64 rq, .string rl, .string rk, .string rv]) W) (by kernel_rfl) ?_ (fun hHeld0 => ?_)
            · exact req_load5 (HXc.out.below ((Below.refl _ _).drew) HXc.out.lt)
            have hE : Below wa.heap.size wa wa.drew := (Below.refl _ _).drew
            generalize wa.drew = y at *
            iterate 2 (apply tkF [1, 4] rfl rfl (by kernel_rfl) (fun _ _ _ h => h) (by rfl); (case hy => (intro w hSw; (try dsimp only at hSw); go_simp; try with_reducible rfl)); (case hS => assumption); (try simp only [Act.put, List.setIfInBounds_toArray, List.set_cons_zero, List.set_cons_succ]))
            iterate 5 (all_goals (first
             | refine doHq3 [(0, false), (2, false), (5, false)] rfl (i := 0) (j := 2) (k := 5) rfl rfl rfl (by kernel_rfl) (by rfl) (by rfl) (by rfl) (fun K hK => ?_) (fun K hK => ?_) (fun K hK => ?_)
             | refine doHq2 [(0, true), (2, false), (5, false)] rfl (i := 2) (j := 5) rfl rfl (by kernel_rfl) (by rfl) (by rfl) (fun K hK => ?_) (fun K hK => ?_)
             | refine doHq2 [(2, true), (0, false), (5, false)] rfl (i := 0) (j := 5) rfl rfl (by kernel_rfl) (by rfl) (by rfl) (fun K hK => ?_) (fun K hK => ?_)
             | refine doHq2 [(5, true), (0, false), (2, false)] rfl (i := 0) (j := 2) rfl rfl (by kernel_rfl) (by rfl) (by rfl) (fun K hK => ?_) (fun K hK => ?_)
             | refine doHq2 [(0, true), (2, true), (3, false), (5, false)] rfl (i := 3) (j := 5) rfl rfl (by kernel_rfl) (by rfl) (by rfl) (fun K hK => ?_) (fun K hK => ?_)
             | refine doHq [(0, true), (5, true), (2, false)] rfl (i := 2) rfl (by kernel_rfl) (by rfl) (fun K hK => ?_)
             | refine doHq [(2, true), (5, true), (0, false)] rfl (i := 0) rfl (by kernel_rfl) (by rfl) (fun K hK => ?_)
             | refine doHq [(3, true), (5, false)] rfl (i := 5) rfl (by kernel_rfl) (by rfl) (fun K hK => ?_)
             | refine doHq [(0, true), (2, true), (5, true), (3, false)] rfl (i := 3) rfl (by kernel_rfl) (by rfl) (fun K hK => ?_)
             | refine doHq [(3, true), (5, true), (6, false)] rfl (i := 6) rfl (by kernel_rfl) (by rfl) (fun K hK => ?_)); all_goals (first
             | (show Oper.wp _ ⟨some 86, _, _, _, _, _⟩ _ _ _ _; go_simp; have hO := ownG_lit reqOk y wa.heap.size hE.size; have hyA := (Below.refl _ y).alloc (Nat.le_refl _) (.cells #[] 61); change OwnG _ (y.alloc (.cells #[] 61)) _ _ _ at hO; (try replace hR := hR.below hyA); (try have hb05 : y.heap.size ≠ b5 := (by omega)); (try replace hbl : b5 < (y.alloc (.cells #[] 61)).heap.size := (by simp; omega)); replace hE := hE.trans (hyA.mono hE.size); clear hyA; generalize y.heap.size = b0 at *; generalize y.alloc (.cells #[] 61) = y at *; refine hK.out _ _ (req_load5 (HXc.out.below hE HXc.out.lt)) (fun hHeld => ?_); clear hK K; (try simp only [Act.put, List.setIfInBounds_toArray, List.set_cons_zero, List.set_cons_succ]))
             | (show Oper.wp _ ⟨some 88, _, _, _, _, _⟩ _ _ _ _; have hL := sl_req (w := y) (p := ⟨w.heap.size, 0, none⟩) ((HWc.out.below hE HWc.out.lt).cell 0); change (loadVar 31 _).run Tryz.prog y = .ok (.slice oa M ca) y at hL; go_simp; clear hL; refine hK.out _ _ (req_load5 (HXc.out.below hE HXc.out.lt)) (fun hHeld => ?_); clear hK K; (try simp only [Act.put, List.setIfInBounds_toArray, List.set_cons_zero, List.set_cons_succ]))
             | (show Oper.wp _ ⟨some 89, _, _, _, _, _⟩ _ _ _ _; obtain ⟨v3, y, hr3, hO3, hg3⟩ := append_g reqOk hO oa M ca HLN.out (HOLD.out y hE) HNIL.out (by simp; omega) hE.size; replace hE := hE.grown hg3 hE.size (fun j hj => (World.ownsRow.lt hO j hj).1); (try replace hR := hR.grown hg3 (fun a e => by cases e; intro e2; injection e2 with e2; have e3 : b0 = b5 := e2; omega)); replace hO := hO3; clear hO3; rw [List.nil_append] at hO; refine Lib.wp_append_run _ _ _ 31 31 rfl _ _ rfl rfl _ _ hr3 ?_; clear hr3 hg3; refine hK.out _ _ (req_load5 (HXc.out.below hE HXc.out.lt)) (fun hHeld => ?_); clear hK K; (try simp only [Act.put, List.setIfInBounds_toArray, List.set_cons_zero, List.set_cons_succ]))
             | (show Oper.wp _ ⟨some 91, _, _, _, _, _⟩ _ _ _ _; go_simp; have hR := rowG_new reqOk y (⟨rc, rq, rl, rk, rv⟩ : Req); have hyA := (Below.refl _ y).alloc (Nat.le_refl _) (.cells #[.int .i64 rc, .int .i64 rq, .string rl, .string rk, .string rv] 61); change RowG _ (y.alloc (.cells #[.int .i64 rc, .int .i64 rq, .string rl, .string rk, .string rv] 61)) _ _ at hR; (try have hb05 : b0 ≠ y.heap.size := (by have := (World.ownsRow.lt hO b0 rfl).2; omega)); (try replace hO := hO.below hyA); have hbl : y.heap.size < (y.alloc (.cells #[.int .i64 rc, .int .i64 rq, .string rl, .string rk, .string rv] 61)).heap.size := (by simp); replace hE := hE.trans (hyA.mono hE.size); clear hyA; generalize y.heap.size = b5 at *; generalize y.alloc (.cells #[.int .i64 rc, .int .i64 rq, .string rl, .string rk, .string rv] 61) = y at *; refine hK.out _ _ (req_load5 (HXc.out.below hE HXc.out.lt)) (fun hHeld => ?_); clear hK K; (try simp only [Act.put, List.setIfInBounds_toArray, List.set_cons_zero, List.set_cons_succ]))
             | (show Oper.wp _ ⟨some 92, _, _, _, _, _⟩ _ _ _ _; obtain ⟨v6, y, hr6, hO6, hg6⟩ := append_g reqOk hO (some ⟨b5, 0, none⟩) 1 1 rfl hR (fun h => absurd h (by decide)) (by rw [HLN.out]; omega) hE.size; replace hE := hE.grown hg6 hE.size (fun j hj => (World.ownsRow.lt hO j hj).1); refine Lib.wp_append_run _ _ _ 31 31 rfl _ _ rfl rfl _ _ hr6 ?_; clear hr6 hg6 hO; obtain ⟨o6, n6, c6, hv6⟩ : ∃ o n c, v6 = .slice o n c := (by obtain ⟨o, c, h, _⟩ := hO6.form reqOk; exact ⟨_, _, _, h⟩); subst hv6; refine hK.out _ _ (req_load5 (HXc.out.below hE HXc.out.lt)) (fun hHeld => ?_); clear hK K; (try simp only [Act.put, List.setIfInBounds_toArray, List.set_cons_zero, List.set_cons_succ]))))
            all_goals
             apply tkF [7] rfl rfl (by kernel_rfl) (fun _ _ _ h => h) (by rfl); (case hy => (intro w hSw; (try dsimp only at hSw); go_simp; try with_reducible rfl)); (case hS => assumption); (try simp only [Act.put, List.setIfInBounds_toArray, List.set_cons_zero, List.set_cons_succ])
             refine doH (i := 8) rfl (by kernel_rfl) (by rfl) (fun K hK => ?_)
             have hW := HWc.out.below hE HWc.out.lt
             have c8 := hW.cell 0
             have f8 := hW.frozen 0
             change y.cell? _ = some (.slice oa M ca) at c8
             go_simp
             have hW8 : Blk (y.setCell ⟨w.heap.size, 0, none⟩ (.slice o6 n6 c6)) w.heap.size 43 #[.slice o6 n6 c6, .slice ob M cb, .slice oc P cc] := hW.set_ 0 (.slice o6 n6 c6)
             have hG8 : World.grownBy wa (y.setCell ⟨w.heap.size, 0, none⟩ (.slice o6 n6 c6)) (some w.heap.size) := grown_trans (only_of_below hE (some w.heap.size)) (grownG_setCell y ⟨w.heap.size, 0, none⟩ (.slice o6 n6 c6))
             have hO8 := hO6.grown (grownG_setCell y ⟨w.heap.size, 0, none⟩ (.slice o6 n6 c6)) (by cases hv : Value.ownBlock (.slice o6 n6 c6) with | none => exact .inl rfl | some q => refine .inr (fun e => ?_); have h1 := (World.ownsRow.lt hO6 q hv).1; have h2 := HWc.out.lt; injection e with e; have e3 : q = w.heap.size := e; omega)
             refine hK.out _ _ (req_load5 ((HXc.out.below hE HXc.out.lt).far (p := ⟨w.heap.size, 0, none⟩) (by show w.heap.size + 1 ≠ w.heap.size; omega) (.slice o6 n6 c6))) (fun hHeld => ?_)
             clear hK K
             (try simp only [Act.put, List.setIfInBounds_toArray, List.set_cons_zero, List.set_cons_succ])
             refine wpAnyH_done (by kernel_rfl) ?_ _
             go_wp2_with fail
             go_meet
             exact ⟨.slice o6 n6 c6, hO8, hW8, hG8⟩
           case rest =>
            obtain ⟨va, hO, hW, hG⟩ := hcut
            obtain ⟨na, ra, cra, hva⟩ : ∃ o n c, va = .slice o n c := (by obtain ⟨o, c, h, _⟩ := hO.form reqOk; exact ⟨_, _, _, h⟩)
            subst hva
            have HOa := Lib.hid hO
            have HK0b := Lib.hid hW
            have HK2b := Lib.hid (HK2a.out.grown hG (fun e => by injection e; omega))
            have HK3b := Lib.hid (HK3a.out.grown hG (fun e => by injection e; omega))
            have HQb := Lib.hid (HQa.out.grown hG (fun e => by injection e; omega))
            have HBb := Lib.hid (HBa.out.grown hG HBa.out.size (fun j hj => by injection hj; omega))
            have hsz := hG.size
            have hlw := HK3a.out.lt
            clear hO hW hG HWc HXc HLN HOLD HNIL HK0a HK1a HK2a HK3a HQa HBa
            obtain ⟨ba, hba⟩ : ∃ ba, wa.heap.size = ba := ⟨_, rfl⟩
            rw [hba] at HOa hsz hlw
            clear hba
            generalize wc = wb at *
            have HWc := HK0b
            have HXc := HQb
            have HLN := Lib.hid HM.out
            have HOLD : Hid (∀ W, Below wb.heap.size wb W → RowG repK W ob rp) := Lib.hid fun W hW => HB.out.below (HBb.out.trans (hW.mono HBb.out.size))
            have HNIL : Hid (M = 0 → ob = none → cb = 0) := Lib.hid fun _ => hob
            go_upto_region 20 with fail
            go_cut [] from 94 to 101 (fun wx => ∃ vd, OwnG repK wx wb.heap.size vd (rp ++ [(⟨0, M, (P : Int) + 1⟩ : Rep)]) ∧ Blk wx w.heap.size 43 #[.slice na ra cra, vd, .slice oc P cc] ∧ World.grownBy wb wx (some w.heap.size))
            case first =>
             refine wp_region_held_drew (S := fun W => (loadVar 34 ⟨gq, 0, none⟩).run Tryz.prog W = .ok (.agg #[.int .i64 0, .int .i64 M, .int .i64 ((P : Int) + 1)]) W) (by kernel_rfl) ?_ (fun hHeld0 => ?_)
             · exact rep_load3 (HXc.out.below ((Below.refl _ _).drew) HXc.out.lt)
             have hE : Below wb.heap.size wb wb.drew := (Below.refl _ _).drew
             generalize wb.drew = y at *
             iterate 2 (apply tkF [1, 4] rfl rfl (by kernel_rfl) (fun _ _ _ h => h) (by rfl); (case hy => (intro w hSw; (try dsimp only at hSw); go_simp; try with_reducible rfl)); (case hS => assumption); (try simp only [Act.put, List.setIfInBounds_toArray, List.set_cons_zero, List.set_cons_succ]))
             iterate 5 (all_goals (first
              | refine doHq3 [(0, false), (2, false), (5, false)] rfl (i := 0) (j := 2) (k := 5) rfl rfl rfl (by kernel_rfl) (by rfl) (by rfl) (by rfl) (fun K hK => ?_) (fun K hK => ?_) (fun K hK => ?_)
              | refine doHq2 [(0, true), (2, false), (5, false)] rfl (i := 2) (j := 5) rfl rfl (by kernel_rfl) (by rfl) (by rfl) (fun K hK => ?_) (fun K hK => ?_)
              | refine doHq2 [(2, true), (0, false), (5, false)] rfl (i := 0) (j := 5) rfl rfl (by kernel_rfl) (by rfl) (by rfl) (fun K hK => ?_) (fun K hK => ?_)
              | refine doHq2 [(5, true), (0, false), (2, false)] rfl (i := 0) (j := 2) rfl rfl (by kernel_rfl) (by rfl) (by rfl) (fun K hK => ?_) (fun K hK => ?_)
              | refine doHq2 [(0, true), (2, true), (3, false), (5, false)] rfl (i := 3) (j := 5) rfl rfl (by kernel_rfl) (by rfl) (by rfl) (fun K hK => ?_) (fun K hK => ?_)
              | refine doHq [(0, true), (5, true), (2, false)] rfl (i := 2) rfl (by kernel_rfl) (by rfl) (fun K hK => ?_)
              | refine doHq [(2, true), (5, true), (0, false)] rfl (i := 0) rfl (by kernel_rfl) (by rfl) (fun K hK => ?_)
              | refine doHq [(3, true), (5, false)] rfl (i := 5) rfl (by kernel_rfl) (by rfl) (fun K hK => ?_)
              | refine doHq [(0, true), (2, true), (5, true), (3, false)] rfl (i := 3) rfl (by kernel_rfl) (by rfl) (fun K hK => ?_)
              | refine doHq [(3, true), (5, true), (6, false)] rfl (i := 6) rfl (by kernel_rfl) (by rfl) (fun K hK => ?_)); all_goals (first
              | (show Oper.wp _ ⟨some 94, _, _, _, _, _⟩ _ _ _ _; go_simp; have hO := ownG_lit repOk y wb.heap.size hE.size; have hyA := (Below.refl _ y).alloc (Nat.le_refl _) (.cells #[] 34); change OwnG _ (y.alloc (.cells #[] 34)) _ _ _ at hO; (try replace hR := hR.below hyA); (try have hb05 : y.heap.size ≠ b5 := (by omega)); (try replace hbl : b5 < (y.alloc (.cells #[] 34)).heap.size := (by simp; omega)); replace hE := hE.trans (hyA.mono hE.size); clear hyA; generalize y.heap.size = b0 at *; generalize y.alloc (.cells #[] 34) = y at *; refine hK.out _ _ (rep_load3 (HXc.out.below hE HXc.out.lt)) (fun hHeld => ?_); clear hK K; (try simp only [Act.put, List.setIfInBounds_toArray, List.set_cons_zero, List.set_cons_succ]))
              | (show Oper.wp _ ⟨some 96, _, _, _, _, _⟩ _ _ _ _; have hL := sl_rep (w := y) (p := ⟨w.heap.size, 1, none⟩) ((HWc.out.below hE HWc.out.lt).cell 1); change (loadVar 41 _).run Tryz.prog y = .ok (.slice ob M cb) y at hL; go_simp; clear hL; refine hK.out _ _ (rep_load3 (HXc.out.below hE HXc.out.lt)) (fun hHeld => ?_); clear hK K; (try simp only [Act.put, List.setIfInBounds_toArray, List.set_cons_zero, List.set_cons_succ]))
              | (show Oper.wp _ ⟨some 97, _, _, _, _, _⟩ _ _ _ _; obtain ⟨v3, y, hr3, hO3, hg3⟩ := append_g repOk hO ob M cb HLN.out (HOLD.out y hE) HNIL.out (by simp; omega) hE.size; replace hE := hE.grown hg3 hE.size (fun j hj => (World.ownsRow.lt hO j hj).1); (try replace hR := hR.grown hg3 (fun a e => by cases e; intro e2; injection e2 with e2; have e3 : b0 = b5 := e2; omega)); replace hO := hO3; clear hO3; rw [List.nil_append] at hO; refine Lib.wp_append_run _ _ _ 41 41 rfl _ _ rfl rfl _ _ hr3 ?_; clear hr3 hg3; refine hK.out _ _ (rep_load3 (HXc.out.below hE HXc.out.lt)) (fun hHeld => ?_); clear hK K; (try simp only [Act.put, List.setIfInBounds_toArray, List.set_cons_zero, List.set_cons_succ]))
              | (show Oper.wp _ ⟨some 99, _, _, _, _, _⟩ _ _ _ _; go_simp; have hR := rowG_new repOk y (⟨0, M, (P : Int) + 1⟩ : Rep); have hyA := (Below.refl _ y).alloc (Nat.le_refl _) (.cells #[.int .i64 0, .int .i64 M, .int .i64 ((P : Int) + 1)] 34); change RowG _ (y.alloc (.cells #[.int .i64 0, .int .i64 M, .int .i64 ((P : Int) + 1)] 34)) _ _ at hR; (try have hb05 : b0 ≠ y.heap.size := (by have := (World.ownsRow.lt hO b0 rfl).2; omega)); (try replace hO := hO.below hyA); have hbl : y.heap.size < (y.alloc (.cells #[.int .i64 0, .int .i64 M, .int .i64 ((P : Int) + 1)] 34)).heap.size := (by simp); replace hE := hE.trans (hyA.mono hE.size); clear hyA; generalize y.heap.size = b5 at *; generalize y.alloc (.cells #[.int .i64 0, .int .i64 M, .int .i64 ((P : Int) + 1)] 34) = y at *; refine hK.out _ _ (rep_load3 (HXc.out.below hE HXc.out.lt)) (fun hHeld => ?_); clear hK K; (try simp only [Act.put, List.setIfInBounds_toArray, List.set_cons_zero, List.set_cons_succ]))
              | (show Oper.wp _ ⟨some 100, _, _, _, _, _⟩ _ _ _ _; obtain ⟨v6, y, hr6, hO6, hg6⟩ := append_g repOk hO (some ⟨b5, 0, none⟩) 1 1 rfl hR (fun h => absurd h (by decide)) (by rw [HLN.out]; omega) hE.size; replace hE := hE.grown hg6 hE.size (fun j hj => (World.ownsRow.lt hO j hj).1); refine Lib.wp_append_run _ _ _ 41 41 rfl _ _ rfl rfl _ _ hr6 ?_; clear hr6 hg6 hO; obtain ⟨o6, n6, c6, hv6⟩ : ∃ o n c, v6 = .slice o n c := (by obtain ⟨o, c, h, _⟩ := hO6.form repOk; exact ⟨_, _, _, h⟩); subst hv6; refine hK.out _ _ (rep_load3 (HXc.out.below hE HXc.out.lt)) (fun hHeld => ?_); clear hK K; (try simp only [Act.put, List.setIfInBounds_toArray, List.set_cons_zero, List.set_cons_succ]))))
             all_goals
              apply tkF [7] rfl rfl (by kernel_rfl) (fun _ _ _ h => h) (by rfl); (case hy => (intro w hSw; (try dsimp only at hSw); go_simp; try with_reducible rfl)); (case hS => assumption); (try simp only [Act.put, List.setIfInBounds_toArray, List.set_cons_zero, List.set_cons_succ])
              refine doH (i := 8) rfl (by kernel_rfl) (by rfl) (fun K hK => ?_)
              have hW := HWc.out.below hE HWc.out.lt
              have c8 := hW.cell 1
              have f8 := hW.frozen 1
              change y.cell? _ = some (.slice ob M cb) at c8
              go_simp
              have hW8 : Blk (y.setCell ⟨w.heap.size, 1, none⟩ (.slice o6 n6 c6)) w.heap.size 43 #[.slice na ra cra, .slice o6 n6 c6, .slice oc P cc] := hW.set_ 1 (.slice o6 n6 c6)
              have hG8 : World.grownBy wb (y.setCell ⟨w.heap.size, 1, none⟩ (.slice o6 n6 c6)) (some w.heap.size) := grown_trans (only_of_below hE (some w.heap.size)) (grownG_setCell y ⟨w.heap.size, 1, none⟩ (.slice o6 n6 c6))
              have hO8 := hO6.grown (grownG_setCell y ⟨w.heap.size, 1, none⟩ (.slice o6 n6 c6)) (by cases hv : Value.ownBlock (.slice o6 n6 c6) with | none => exact .inl rfl | some q => refine .inr (fun e => ?_); have h1 := (World.ownsRow.lt hO6 q hv).1; have h2 := HWc.out.lt; injection e with e; have e3 : q = w.heap.size := e; omega)
              refine hK.out _ _ (rep_load3 ((HXc.out.below hE HXc.out.lt).far (p := ⟨w.heap.size, 1, none⟩) (by show gq ≠ w.heap.size; omega) (.slice o6 n6 c6))) (fun hHeld => ?_)
              clear hK K
              (try simp only [Act.put, List.setIfInBounds_toArray, List.set_cons_zero, List.set_cons_succ])
              refine wpAnyH_done (by kernel_rfl) ?_ _
              go_wp2_with fail
              go_meet
              exact ⟨.slice o6 n6 c6, hO8, hW8, hG8⟩
            case rest =>
             obtain ⟨vb, hO, hW, hG⟩ := hcut
             obtain ⟨nb, rb, crb, hvb⟩ : ∃ o n c, vb = .slice o n c := (by obtain ⟨o, c, h, _⟩ := hO.form repOk; exact ⟨_, _, _, h⟩)
             subst hvb
             have hOa := HOa.out.grown hG (by cases hv : Value.ownBlock (.slice na ra cra) with | none => exact .inl rfl | some q => refine .inr (fun e => ?_); have h1 := (World.ownsRow.lt HOa.out q hv).1; injection e with e; have e3 : q = w.heap.size := e; omega)
             have hK2e := HK2b.out.grown hG (fun e => by injection e; omega)
             have hK3e := HK3b.out.grown hG (fun e => by injection e; omega)
             have hQe := HQb.out.grown hG (fun e => by injection e; omega)
             have hBe := HBb.out.grown hG HBb.out.size (fun j hj => by injection hj; omega)
             have hsb := HK3b.out.lt
             obtain ⟨ea, hRa, hca, hna, hga⟩ := hOa.parts reqOk
             obtain ⟨eb, hRb, hcb2, hnb, hgb⟩ := hO.parts repOk
             have HEA := Lib.hid ea
             have HEB := Lib.hid eb
             have HCA := Lib.hid hca
             have HCB2 := Lib.hid hcb2
             have HKS : Hid (∀ W, Blk W w.heap.size 43 #[.slice na ra cra, .slice nb rb crb, .slice oc P cc] → Blk W gq 34 #[.int .i64 0, .int .i64 M, .int .i64 ((P : Int) + 1)] → (loadVar 43 ⟨w.heap.size, 0, none⟩).run Tryz.prog W = .ok (.agg #[.slice na ra cra, .slice nb rb crb, .slice oc P cc]) W ∧ (loadVar 34 ⟨gq, 0, none⟩).run Tryz.prog W = .ok (.agg #[.int .i64 0, .int .i64 M, .int .i64 ((P : Int) + 1)]) W) := Lib.hid fun W h1 h2 => ⟨wld_load h1, rep_load3 h2⟩
             have hna2 : ∀ a, na = some a → w.heap.size ≤ a.block ∧ a.block ≠ w.heap.size + 2 ∧ a.block ≠ w.heap.size + 3 := fun a h => by have := hga a h; omega
             have hnb2 : ∀ a, nb = some a → w.heap.size ≤ a.block ∧ a.block ≠ w.heap.size + 2 ∧ a.block ≠ w.heap.size + 3 := fun a h => by have := hgb a h; omega
             clear ea eb hca hcb2 hG hO hOa hga hgb HWc HXc HLN HOLD HNIL HOa HK0b HK2b HK3b HQb HBb
             go_wp2_with fail
             refine wp_region_held_drew (S := fun W => (loadVar 43 ⟨w.heap.size, 0, none⟩).run Tryz.prog W = .ok (.agg #[.slice na ra cra, .slice nb rb crb, .slice oc P cc]) W ∧ (loadVar 34 ⟨gq, 0, none⟩).run Tryz.prog W = .ok (.agg #[.int .i64 0, .int .i64 M, .int .i64 ((P : Int) + 1)]) W) (by kernel_rfl) ?_ (fun hHeld0 => ?_)
             · exact HKS.out _ hW hQe
             have hd0 : Below wc.heap.size wc wc.drew := (Below.refl _ _).drew
             have HW9 := Lib.hid (hW.below hd0 hW.lt)
             have HQ9 := Lib.hid (hQe.below hd0 hQe.lt)
             have HK2w := Lib.hid (hK2e.below hd0 hK2e.lt)
             have HK3w := Lib.hid (hK3e.below hd0 hK3e.lt)
             have HBw := Lib.hid (hBe.trans (hd0.mono hBe.size))
             have HRa := Lib.hid (hRa.below hd0)
             have HRb := Lib.hid (hRb.below hd0)
             clear hW hQe hK2e hK3e hBe hRa hRb hd0
             generalize wc.drew = we at *
             iterate 2 (apply tkF [0, 1] rfl rfl (by kernel_rfl) (fun _ _ _ h => h) (by rfl); (case hy => (intro w hSw; (try dsimp only at hSw); go_simp; try with_reducible rfl)); (case hS => assumption); (try simp only [Act.put, List.setIfInBounds_toArray, List.set_cons_zero, List.set_cons_succ]))
             have g0 : we.cell? ⟨w.heap.size + 2, 0, none⟩ = some (.slice none 0 0) := HK2w.out.cell 0
             have f0 := HK2w.out.frozen 0
             have g1 : we.cell? ⟨w.heap.size + 2, 1, none⟩ = some (.slice none 0 0) := HK2w.out.cell 1
             have f1 := HK2w.out.frozen 1
             have g2 : we.cell? ⟨w.heap.size + 2, 2, none⟩ = some (.slice none 0 0) := HK2w.out.cell 2
             have f2 := HK2w.out.frozen 2
             have q0 : we.cell? ⟨w.heap.size + 3, 0, none⟩ = some (.int .i64 0) := HK3w.out.cell 0
             have p0 := HK3w.out.frozen 0
             have q1 : we.cell? ⟨w.heap.size + 3, 1, none⟩ = some (.int .i64 0) := HK3w.out.cell 1
             have p1 := HK3w.out.frozen 1
             have q2 : we.cell? ⟨w.heap.size + 3, 2, none⟩ = some (.int .i64 0) := HK3w.out.cell 2
             have p2 := HK3w.out.frozen 2
             refine doH (i := 2) rfl (by kernel_rfl) (by rfl) (fun K hK => ?_)
             go_simp
             refine hK.out _ _ (HKS.out _ (HW9.out.far3 (b := w.heap.size + 2) (by omega) (.slice na ra cra) (.slice nb rb crb) (.slice oc P cc)) (HQ9.out.far3 (b := w.heap.size + 2) (by omega) (.slice na ra cra) (.slice nb rb crb) (.slice oc P cc))) (fun hHeld2 => ?_)
             clear hK K hHeld0
             (try simp only [Act.put, List.setIfInBounds_toArray, List.set_cons_zero, List.set_cons_succ])
             refine doH (i := 3) rfl (by kernel_rfl) (by rfl) (fun K hK => ?_)
             go_simp
             refine hK.out _ _ (HKS.out _ ((HW9.out.far3 (b := w.heap.size + 2) (by omega) (.slice na ra cra) (.slice nb rb crb) (.slice oc P cc)).far3 (b := w.heap.size + 3) (by omega) (.int .i64 0) (.int .i64 M) (.int .i64 ((P : Int) + 1))) ((HQ9.out.far3 (b := w.heap.size + 2) (by omega) (.slice na ra cra) (.slice nb rb crb) (.slice oc P cc)).far3 (b := w.heap.size + 3) (by omega) (.int .i64 0) (.int .i64 M) (.int .i64 ((P : Int) + 1)))) (fun hHeld3 => ?_)
             clear hK K hHeld2
             (try simp only [Act.put, List.setIfInBounds_toArray, List.set_cons_zero, List.set_cons_succ])
             refine wpAnyH_done (by kernel_rfl) ?_ _
             go_wp2_with fail
             have n4 := (HK2w.out.set3 (.slice na ra cra) (.slice nb rb crb) (.slice oc P cc)).far3 (b := w.heap.size + 3) (by omega) (.int .i64 0) (.int .i64 M) (.int .i64 ((P : Int) + 1))
             have n5 := (HK3w.out.far3 (b := w.heap.size + 2) (by omega) (.slice na ra cra) (.slice nb rb crb) (.slice oc P cc)).set3 (.int .i64 0) (.int .i64 M) (.int .i64 ((P : Int) + 1))
             have hB9 := Below.set3 (b := w.heap.size + 3) (Below.set3 (b := w.heap.size + 2) HBw.out (by omega) (.slice na ra cra) (.slice nb rb crb) (.slice oc P cc)) (by omega) (.int .i64 0) (.int .i64 M) (.int .i64 ((P : Int) + 1))
             refine bodyPost_ret (results_row_row rfl _ _ (w.heap.size + 2) (w.heap.size + 3) 43 34 #[.slice na ra cra, .slice nb rb crb, .slice oc P cc] #[.int .i64 0, .int .i64 M, .int .i64 ((P : Int) + 1)] _ _ rfl n4 rfl n5 Tryz.underlying43 rfl (by kernel_rfl) Tryz.underlying34 rfl (by kernel_rfl)) rfl ?_
             rw [HRA.out, HASK.out]
             exact ⟨.slice na ra cra, .slice nb rb crb, rfl, ⟨na, cra, by rw [HEA.out], (HRa.out.set3 (fun x h => (hna2 x h).2.1) (.slice na ra cra) (.slice nb rb crb) (.slice oc P cc)).set3 (fun x h => (hna2 x h).2.2) (.int .i64 0) (.int .i64 M) (.int .i64 ((P : Int) + 1)), HCA.out, hna, .inr fun x h => (hna2 x h).1⟩, ⟨nb, crb, by rw [HEB.out], (HRb.out.set3 (fun x h => (hnb2 x h).2.1) (.slice na ra cra) (.slice nb rb crb) (.slice oc P cc)).set3 (fun x h => (hnb2 x h).2.2) (.int .i64 0) (.int .i64 M) (.int .i64 ((P : Int) + 1)), HCB2.out, hnb, .inr fun x h => (hnb2 x h).1⟩, hB9⟩
end
end Go.Proofs.YtakgolbgeeoioaaGreat

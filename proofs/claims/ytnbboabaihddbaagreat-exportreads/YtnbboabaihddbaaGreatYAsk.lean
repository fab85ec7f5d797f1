/-
 Ask: the reference's of layer 11.
-/
import Derived.Test.YtnbboabaihddbaaGreatYMathYSt
import Derived.Deep.CutRange
import Derived.BigQuiet
namespace Go.Proofs.YtnbboabaihddbaaGreat
open Go.RowKit

/-- what Ask answers -/
def RAsk (oa ob : Option Addr) (vc : Value) (tk : List Req) (rp : List Rep) (h : Nat) (r : Req) (w : World) (e : Ending) (w' : World) : Prop := ∃ va vb, e = .returned (.tuple #[.agg #[va, vb, vc], .agg (askW tk rp h r).2.2.enc.toArray]) ∧ SlO reqK w' oa tk w.heap.size va (askW tk rp h r).1 ∧ SlO repK w' ob rp w.heap.size vb (askW tk rp h r).2.1 ∧ Below w.heap.size w w'
section
attribute [-go_sem] loadVar
set_option maxRecDepth 100000 in
set_option maxHeartbeats 4000000 in
theorem raskW_any (oa ob oc : Option Addr) (ca M cb P cc : Nat) (tk : List Req) (rp : List Rep) (rc rq : Int) (rl rk rv : ByteArray) (hN : tk.length = M) (hM : rp.length = M) (hN2 : M ≤ 1000) (hP2 : P ≤ 1000) (hNc : M ≤ ca) (hMc : M ≤ cb) (hoa : oa = none → ca = 0) (hob : ob = none → cb = 0) (hr : smallB ⟨rc, rq, rl, rk, rv⟩ = true) (w : World) (hA : RowG reqK w oa tk) (hB : RowG repK w ob rp) :
 Calls Tryz.prog 29 #[.agg #[.slice oa M ca, .slice ob M cb, .slice oc P cc], .agg #[.int .i64 rc, .int .i64 rq, .string rl, .string rk, .string rv]] w (RAsk oa ob (.slice oc P cc) tk rp P ⟨rc, rq, rl, rk, rv⟩ w) := by
 have HRA := Lib.hid (show ∀ e w', RAsk oa ob (.slice oc P cc) tk rp P ⟨rc, rq, rl, rk, rv⟩ w e w' = ∃ va vb, e = .returned (.tuple #[.agg #[va, vb, .slice oc P cc], .agg (askW tk rp P ⟨rc, rq, rl, rk, rv⟩).2.2.enc.toArray]) ∧ SlO reqK w' oa tk w.heap.size va (askW tk rp P ⟨rc, rq, rl, rk, rv⟩).1 ∧ SlO repK w' ob rp w.heap.size vb (askW tk rp P ⟨rc, rq, rl, rk, rv⟩).2.1 ∧ Below w.heap.size w w' from fun _ _ => rfl)
 have HSZ := Lib.hid (of_decide_eq_true hr)
 have HRI : Hid (∀ W, Calls Tryz.prog 54 #[.agg #[.int .i64 rc, .int .i64 rq, .string rl, .string rk, .string rv]] W fun e w' => e = .returned (.bool (rightQ ⟨rc, rq, rl, rk, rv⟩)) ∧ Below W.heap.size W w') := Lib.hid fun W => rright_any rc rq rl rk rv (by have := HSZ.out.1; have h : rl.size ≤ 250 := this; omega) (by have := HSZ.out.2.1; have h : rk.size ≤ 100 := this; omega) (by have := HSZ.out.2.2; have h : rv.size ≤ 150 := this; omega) W
 have HL0 : Hid (lstN rc tk 0 = -1 ∧ cntN rc tk 0 = 0) := Lib.hid ⟨rfl, rfl⟩
 have HLS : Hid (∀ k, k < M → ∃ x : Req, lstN rc tk (k + 1) = (if x.c = rc then (k : Int) else lstN rc tk k) ∧ cntN rc tk (k + 1) = (if x.c = rc then cntN rc tk k + 1 else cntN rc tk k) ∧ tk.getD k default = x ∧ ∃ g o, oa = some ⟨g, o, none⟩ ∧ ∀ W, Below w.heap.size w W → W.cell? ⟨g, o + k * 5, none⟩ = some (.int .i64 x.c) ∧ W.cell? ⟨g, o + k * 5 + 1, none⟩ = some (.int .i64 x.q)) := Lib.hid fun k hk => by
  obtain ⟨g, o, h1, h2, c0, c1, c2, c3, c4⟩ := req_at hA (i := k) (by omega)
  have hx : tk.getD k default = tk[k]'(by omega) := by rw [List.getD_eq_getElem?_getD, List.getElem?_eq_getElem (by omega)]; rfl
  refine ⟨tk[k]'(by omega), by show (if (tk.getD k default).c = rc then _ else _) = _; rw [hx], by show (if (tk.getD k default).c = rc then _ else _) = _; rw [hx], hx, g, o, h1, fun W hW => ?_⟩
  have hc := fun j => hW.cell (p := ⟨g, j, none⟩) h2
  exact ⟨(hc _).trans c0, (hc _).trans c1⟩
 have HLB := Lib.hid (fun j => lstN_lt rc tk j)
 have HCB := Lib.hid (fun j => cntN_le rc tk j)
 have HASK0 : Hid (rightQ ⟨rc, rq, rl, rk, rv⟩ = false → askW tk rp P ⟨rc, rq, rl, rk, rv⟩ = (tk, rp, ⟨1, 0, 0⟩)) := Lib.hid fun h => by unfold askW; rw [if_pos h]
 have HASK1 : Hid (rightQ ⟨rc, rq, rl, rk, rv⟩ = true → askW tk rp P ⟨rc, rq, rl, rk, rv⟩ = if 0 ≤ lstN rc tk M ∧ (tk.getD (lstN rc tk M).toNat default).q = rq then (tk, rp, rp.getD (lstN rc tk M).toNat default)
  else if 0 ≤ lstN rc tk M ∧ rq < (tk.getD (lstN rc tk M).toNat default).q then (tk, rp, ⟨7, 0, 0⟩)
  else if cntN rc tk M = 20 then (tk, rp, ⟨6, 0, 0⟩)
  else if (M : Int) = 64 then (tk, rp, ⟨10, 0, 0⟩)
  else (tk ++ [⟨rc, rq, rl, rk, rv⟩], rp ++ [⟨0, M, (P : Int) + 1⟩], ⟨0, M, (P : Int) + 1⟩)) := Lib.hid fun h => by
  unfold askW
  rw [if_neg (by rw [h]; decide)]
  rw [hN]
  simp only [show ((M : Int) = 64) = (M = 64) from propext ⟨fun h => by omega, fun h => by omega⟩]
 have hb0 : Below w.heap.size w ((((w.alloc (.cells #[.slice oa M ca, .slice ob M cb, .slice oc P cc] 44)).alloc (.cells #[.int .i64 rc, .int .i64 rq, .string rl, .string rk, .string rv] 58)).alloc (.cells #[.slice none 0 0, .slice none 0 0, .slice none 0 0] 44)).alloc (.cells #[.int .i64 0, .int .i64 0, .int .i64 0] 35)) := ((((Below.refl _ w).alloc (Nat.le_refl _) _).alloc (by simp) _).alloc (by simp; omega) _).alloc (by simp; omega) _
 have k0 : Blk ((((w.alloc (.cells #[.slice oa M ca, .slice ob M cb, .slice oc P cc] 44)).alloc (.cells #[.int .i64 rc, .int .i64 rq, .string rl, .string rk, .string rv] 58)).alloc (.cells #[.slice none 0 0, .slice none 0 0, .slice none 0 0] 44)).alloc (.cells #[.int .i64 0, .int .i64 0, .int .i64 0] 35)) w.heap.size 44 #[.slice oa M ca, .slice ob M cb, .slice oc P cc] := (((Blk.new _ _ _).alloc _).alloc _).alloc _
 have k1 : Blk ((((w.alloc (.cells #[.slice oa M ca, .slice ob M cb, .slice oc P cc] 44)).alloc (.cells #[.int .i64 rc, .int .i64 rq, .string rl, .string rk, .string rv] 58)).alloc (.cells #[.slice none 0 0, .slice none 0 0, .slice none 0 0] 44)).alloc (.cells #[.int .i64 0, .int .i64 0, .int .i64 0] 35)) (w.heap.size + 1) 58 #[.int .i64 rc, .int .i64 rq, .string rl, .string rk, .string rv] := ((Blk.new_at (by simp)).alloc _).alloc _
 have k2 : Blk ((((w.alloc (.cells #[.slice oa M ca, .slice ob M cb, .slice oc P cc] 44)).alloc (.cells #[.int .i64 rc, .int .i64 rq, .string rl, .string rk, .string rv] 58)).alloc (.cells #[.slice none 0 0, .slice none 0 0, .slice none 0 0] 44)).alloc (.cells #[.int .i64 0, .int .i64 0, .int .i64 0] 35)) (w.heap.size + 2) 44 #[.slice none 0 0, .slice none 0 0, .slice none 0 0] := (Blk.new_at (by simp)).alloc _
 have k3 : Blk ((((w.alloc (.cells #[.slice oa M ca, .slice ob M cb, .slice oc P cc] 44)).alloc (.cells #[.int .i64 rc, .int .i64 rq, .string rl, .string rk, .string rv] 58)).alloc (.cells #[.slice none 0 0, .slice none 0 0, .slice none 0 0] 44)).alloc (.cells #[.int .i64 0, .int .i64 0, .int .i64 0] 35)) (w.heap.size + 3) 35 #[.int .i64 0, .int .i64 0, .int .i64 0] := Blk.new_at (by simp)
 obtain ⟨w0, hw0⟩ : ∃ w0, ((((w.alloc (.cells #[.slice oa M ca, .slice ob M cb, .slice oc P cc] 44)).alloc (.cells #[.int .i64 rc, .int .i64 rq, .string rl, .string rk, .string rv] 58)).alloc (.cells #[.slice none 0 0, .slice none 0 0, .slice none 0 0] 44)).alloc (.cells #[.int .i64 0, .int .i64 0, .int .i64 0] 35)) = w0 := ⟨_, rfl⟩
 rw [hw0] at hb0 k0 k1 k2 k3
 have HW0 := Lib.hid hw0
 have HK0 := Lib.hid k0
 have HK1 := Lib.hid k1
 have HK2 := Lib.hid k2
 have HK3 := Lib.hid k3
 have HB0 := Lib.hid hb0
 have HA := Lib.hid hA
 have HB := Lib.hid hB
 have HN := Lib.hid hN
 have HM := Lib.hid hM
 have d1 := req_load5 HK1.out
 clear hw0 k0 k1 k2 k3 hb0 hA hB hN hM hr
 generalize RAsk oa ob (.slice oc P cc) tk rp P ⟨rc, rq, rl, rk, rv⟩ w = PO at *
 generalize askW tk rp P ⟨rc, rq, rl, rk, rv⟩ = AW at *
 generalize rightQ ⟨rc, rq, rl, rk, rv⟩ = RQ at *
 go_enter Tryz.func29, Tryz.ntmps29
 go_wp2_with (rw [HW0.out])
 refine (HRI.out _).mono ?_
 rintro e w1 ⟨rfl, hb1⟩
 have HB1 := Lib.hid (HB0.out.trans (hb1.mono HB0.out.size))
 have HK01 := Lib.hid (HK0.out.below hb1 HK0.out.lt)
 have HK11 := Lib.hid (HK1.out.below hb1 HK1.out.lt)
 have HK21 := Lib.hid (HK2.out.below hb1 HK2.out.lt)
 have HK31 := Lib.hid (HK3.out.below hb1 HK3.out.lt)
 clear d1 hb1 HRI HK0 HK1 HK2 HK3 HB0 HW0
 cases RQ with
 | false =>
  have d0 := wld_load HK01.out
  have HK0w := HK01
  have HK1w := HK11
  have HK2w := HK21
  have HK3w := HK31
  have HBw := HB1
  have g0 : w1.cell? ⟨w.heap.size + 2, 0, none⟩ = some (.slice none 0 0) := HK2w.out.cell 0
  have f0 := HK2w.out.frozen 0
  have g1 : w1.cell? ⟨w.heap.size + 2, 1, none⟩ = some (.slice none 0 0) := HK2w.out.cell 1
  have f1 := HK2w.out.frozen 1
  have g2 : w1.cell? ⟨w.heap.size + 2, 2, none⟩ = some (.slice none 0 0) := HK2w.out.cell 2
  have f2 := HK2w.out.frozen 2
  have q0 : w1.cell? ⟨w.heap.size + 3, 0, none⟩ = some (.int .i64 0) := HK3w.out.cell 0
  have p0 := HK3w.out.frozen 0
  have q1 : w1.cell? ⟨w.heap.size + 3, 1, none⟩ = some (.int .i64 0) := HK3w.out.cell 1
  have p1 := HK3w.out.frozen 1
  have q2 : w1.cell? ⟨w.heap.size + 3, 2, none⟩ = some (.int .i64 0) := HK3w.out.cell 2
  have p2 := HK3w.out.frozen 2
  go_wp2_with fail
  have n4 := (HK2w.out.set3 (.slice oa M ca) (.slice ob M cb) (.slice oc P cc)).far3 (b := w.heap.size + 3) (by omega) (.int .i64 1) (.int .i64 0) (.int .i64 0)
  have n5 := (HK3w.out.far3 (b := w.heap.size + 2) (by omega) (.slice oa M ca) (.slice ob M cb) (.slice oc P cc)).set3 (.int .i64 1) (.int .i64 0) (.int .i64 0)
  have hB9 := Below.set3 (b := w.heap.size + 3) (Below.set3 (b := w.heap.size + 2) HBw.out (by omega) (.slice oa M ca) (.slice ob M cb) (.slice oc P cc)) (by omega) (.int .i64 1) (.int .i64 0) (.int .i64 0)
  refine bodyPost_ret (results_row_row rfl _ _ (w.heap.size + 2) (w.heap.size + 3) 44 35 #[.slice oa M ca, .slice ob M cb, .slice oc P cc] #[.int .i64 1, .int .i64 0, .int .i64 0] _ _ rfl n4 rfl n5 Tryz.underlying44 rfl (by kernel_rfl) Tryz.underlying35 rfl (by kernel_rfl)) rfl ?_
  rw [HRA.out, HASK0.out (by first | trivial | rfl)]
  exact ⟨.slice oa M ca, .slice ob M cb, rfl, ⟨oa, ca, by rw [HN.out], HA.out.below hB9, by rw [HN.out]; exact hNc, hoa, .inl ⟨rfl, rfl⟩⟩, ⟨ob, cb, by rw [HM.out], HB.out.below hB9, by rw [HM.out]; exact hMc, hob, .inl ⟨rfl, rfl⟩⟩, hB9⟩
 | true =>
  have HASK := Lib.hid (HASK1.out (by first | trivial | rfl))
  clear HASK0 HASK1
  go_wp2
  go_loopw [6, 7, 8] (fun a b i wr => ∃ k : Nat, k ≤ M ∧ i = .int .i64 k ∧ a = .int .i64 (cntN rc tk k) ∧ b = .int .i64 (lstN rc tk k) ∧ Below w1.heap.size w1 wr) (fun _ _ i _ => M - (intOf i).toNat)
  case atStart => exact ⟨0, by omega, rfl, by rw [HL0.out.2], by rw [HL0.out.1], Below.refl _ _⟩
  case round =>
   obtain ⟨k, hk, rfl, rfl, rfl, hbq⟩ := hrel
   have HK0w := Lib.hid (HK01.out.below hbq HK01.out.lt)
   have HK1w := Lib.hid (HK11.out.below hbq HK11.out.lt)
   have HK2w := Lib.hid (HK21.out.below hbq HK21.out.lt)
   have HK3w := Lib.hid (HK31.out.below hbq HK31.out.lt)
   have HBw := Lib.hid (HB1.out.trans ((hbq).mono HB1.out.size))
   have HBQ := Lib.hid hbq
   clear hbq
   have d0 := sl_req (w := wr) (p := ⟨w.heap.size, 0, none⟩) (HK0w.out.cell 0)
   change (loadVar 32 _).run Tryz.prog wr = .ok (.slice oa M ca) wr at d0
   by_cases hlt : k < M
   · have hlt' : (k : Int) < (M : Int) := by omega
     obtain ⟨x, hx1, hx2, _, g, o, rfl, hcs⟩ := HLS.out k hlt
     have HX1 := Lib.hid hx1
     have HX2 := Lib.hid hx2
     have hcb := HCB.out k
     have hlb := HLB.out k
     have HKP : Hid (∀ W, Below wr.heap.size wr W → (loadVar 32 ⟨w.heap.size, 0, none⟩).run Tryz.prog W = .ok (.slice (some ⟨g, o, none⟩) M ca) W ∧ (loadVar 3 ⟨g, o + k * 5, none⟩).run Tryz.prog W = .ok (.int .i64 x.c) W ∧ (loadVar 3 ⟨w.heap.size + 1, 0, none⟩).run Tryz.prog W = .ok (.int .i64 rc) W) := Lib.hid fun W hW =>
      ⟨sl_req ((HK0w.out.below hW HK0w.out.lt).cell 0), num_load (hcs W (HBw.out.trans (hW.mono HBw.out.size))).1, num_load ((HK1w.out.below hW HK1w.out.lt).cell 0)⟩
     obtain ⟨xc, hxc⟩ : ∃ xc, x.c = xc := ⟨_, rfl⟩
     rw [hxc] at HKP HX1 HX2
     clear hx1 hx2 hcs hxc
     generalize cntN rc tk k = cn at *
     generalize lstN rc tk k = ln at *
     go_wp2
     refine wp_region_held_drew (S := fun W => (loadVar 32 ⟨w.heap.size, 0, none⟩).run Tryz.prog W = .ok (.slice (some ⟨g, o, none⟩) M ca) W ∧ (loadVar 3 ⟨g, o + k * 5, none⟩).run Tryz.prog W = .ok (.int .i64 xc) W ∧ (loadVar 3 ⟨w.heap.size + 1, 0, none⟩).run Tryz.prog W = .ok (.int .i64 rc) W) (by kernel_rfl) ?_ (fun hHeld0 => ?_)
     · exact HKP.out _ (Below.refl _ _).drew
     iterate 9 (apply tkF [0, 1, 2, 3, 4, 5, 6, 7, 8] rfl rfl (by kernel_rfl) (fun _ _ _ h => h) (by rfl); (case hy => (intro w hSw; (try dsimp only at hSw); go_simp; try with_reducible rfl)); (case hS => assumption); (try simp only [Act.put, List.setIfInBounds_toArray, List.set_cons_zero, List.set_cons_succ]))
     refine wpAnyH_done (by kernel_rfl) ?_ _
     have hb9 : Below w1.heap.size w1 wr.drew := HBQ.out.drew
     generalize wr.drew = w9 at *
     by_cases he : xc = rc
     · have he' : (xc == rc) = true := by rw [beq_iff_eq]; exact he
       go_wp2
       go_roundw
       case rel => exact ⟨k + 1, by omega, by go_num, by rw [HX2.out, if_pos he], by rw [HX1.out, if_pos he], hb9⟩
       case measure => simp [intOf]; omega
     · have he' : (xc == rc) = false := by rw [beq_eq_false_iff_ne]; exact he
       go_wp2
       go_roundw
       case rel => exact ⟨k + 1, by omega, by go_num, by rw [HX2.out, if_neg he], by rw [HX1.out, if_neg he], hb9⟩
       case measure => simp [intOf]; omega
   · obtain rfl : M = k := by omega
     have hlt' : ¬ (M : Int) < (M : Int) := by omega
     have hlb := HLB.out M
     have hcb := HCB.out M
     have HLJ : Hid (∀ j : Nat, lstN rc tk M = j → ∃ x : Req, tk.getD j default = x ∧ ∃ y : Rep, rp.getD j default = y ∧ ∃ g o gr oR, oa = some ⟨g, o, none⟩ ∧ ob = some ⟨gr, oR, none⟩ ∧ j < M ∧ ∀ W, Below w.heap.size w W → (loadVar 3 ⟨g, o + j * 5 + 1, none⟩).run Tryz.prog W = .ok (.int .i64 x.q) W ∧ (loadVar 35 ⟨gr, oR + j * 3, none⟩).run Tryz.prog W = .ok (.agg #[.int .i64 y.e, .int .i64 y.i, .int .i64 y.h]) W) := Lib.hid fun j hj => by
      have hjM : j < M := by omega
      obtain ⟨x, _, _, hx, g, o, h1, hcs⟩ := HLS.out j hjM
      obtain ⟨gr, oR, h2, h3, _⟩ := rep_at HB.out (i := j) (by rw [HM.out]; exact hjM)
      have hy : rp.getD j default = rp[j]'(by rw [HM.out]; exact hjM) := by rw [List.getD_eq_getElem?_getD, List.getElem?_eq_getElem (by rw [HM.out]; exact hjM)]; rfl
      refine ⟨x, hx, rp[j]'(by rw [HM.out]; exact hjM), hy, g, o, gr, oR, h1, h2, hjM, fun W hW => ⟨num_load (hcs W hW).2, ?_⟩⟩
      have hb := HB.out.below hW
      rw [h2] at hb
      exact RowG.load repOk hb (List.getElem?_eq_getElem (by rw [HM.out]; exact hjM))
     obtain ⟨ln, hln⟩ : ∃ ln, lstN rc tk M = ln := ⟨_, rfl⟩
     obtain ⟨cn, hcn⟩ : ∃ cn, cntN rc tk M = cn := ⟨_, rfl⟩
     rw [hln] at hlb HLJ HASK
     rw [hcn] at hcb HASK
     rw [hln, hcn]
     clear hln hcn HLS HL0 HLB HCB hlt
     by_cases hl : 0 ≤ ln
     · obtain ⟨j, rfl⟩ : ∃ j : Nat, ln = j := ⟨ln.toNat, by omega⟩
       obtain ⟨x, hx, y, hy, g, o, gr, oR, rfl, rfl, hjM, hcs⟩ := HLJ.out j rfl
       have hjM' : (j : Int) < (M : Int) := by omega
       have hj0 : (0 : Int) ≤ (j : Int) := by omega
       rw [Int.toNat_natCast, hx, hy] at HASK
       clear hx hy HLJ
       obtain ⟨rx, xq, lx, kx, vx⟩ := x
       obtain ⟨ye, yi, yh⟩ := y
       have HCS := Lib.hid hcs
       clear hcs
       change Hid (∀ W, Below w.heap.size w W → (loadVar 3 ⟨g, o + j * 5 + 1, none⟩).run Tryz.prog W = .ok (.int .i64 xq) W ∧ (loadVar 35 ⟨gr, oR + j * 3, none⟩).run Tryz.prog W = .ok (.agg #[.int .i64 ye, .int .i64 yi, .int .i64 yh]) W) at HCS
       have HKB : Hid (∀ W, Below w1.heap.size w1 W → (loadVar 32 ⟨w.heap.size, 0, none⟩).run Tryz.prog W = .ok (.slice (some ⟨g, o, none⟩) M ca) W ∧ (loadVar 3 ⟨g, o + j * 5 + 1, none⟩).run Tryz.prog W = .ok (.int .i64 xq) W ∧ (loadVar 3 ⟨w.heap.size + 1, 1, none⟩).run Tryz.prog W = .ok (.int .i64 rq) W) := Lib.hid fun W hW => ⟨sl_req ((HK01.out.below hW HK01.out.lt).cell 0), (HCS.out W (HB1.out.trans (hW.mono HB1.out.size))).1, num_load ((HK11.out.below hW HK11.out.lt).cell 1)⟩
       by_cases hq1 : xq = rq
       · have hq1' : (xq == rq) = true := by rw [beq_iff_eq]; exact hq1
         rw [if_pos ⟨by omega, hq1⟩] at HASK
         go_wp2
         refine wp_region_held_drew (S := fun W => (loadVar 32 ⟨w.heap.size, 0, none⟩).run Tryz.prog W = .ok (.slice (some ⟨g, o, none⟩) M ca) W ∧ (loadVar 3 ⟨g, o + j * 5 + 1, none⟩).run Tryz.prog W = .ok (.int .i64 xq) W ∧ (loadVar 3 ⟨w.heap.size + 1, 1, none⟩).run Tryz.prog W = .ok (.int .i64 rq) W) (by kernel_rfl) ?_ (fun hHeld0 => ?_)
         · exact HKB.out _ HBQ.out.drew
         iterate 13 (apply tkF [0, 1, 2, 3, 4, 5, 6, 7, 8, 9, 10, 11, 12] rfl rfl (by kernel_rfl) (fun _ _ _ h => h) (by rfl); (case hy => (intro w hSw; (try dsimp only at hSw); go_simp; try with_reducible rfl)); (case hS => assumption); (try simp only [Act.put, List.setIfInBounds_toArray, List.set_cons_zero, List.set_cons_succ]))
         refine wpAnyH_done (by kernel_rfl) ?_ _
         have hb2 : Below w1.heap.size w1 wr.drew := HBQ.out.drew
         generalize wr.drew = w2 at *
         clear HK0w HK1w HK2w HK3w HBw HBQ d0
         go_wp2
         have hb3 : Below w1.heap.size w1 w2.drew := hb2.drew
         have HK0w := Lib.hid (HK01.out.below hb3 HK01.out.lt)
         have HK1w := Lib.hid (HK11.out.below hb3 HK11.out.lt)
         have HK2w := Lib.hid (HK21.out.below hb3 HK21.out.lt)
         have HK3w := Lib.hid (HK31.out.below hb3 HK31.out.lt)
         have HBw := Lib.hid (HB1.out.trans ((hb3).mono HB1.out.size))
         clear hb3 hb2
         have HKS : Hid (∀ W, Blk W w.heap.size 44 #[.slice (some ⟨g, o, none⟩) M ca, .slice (some ⟨gr, oR, none⟩) M cb, .slice oc P cc] → Below w.heap.size w W → (loadVar 44 ⟨w.heap.size, 0, none⟩).run Tryz.prog W = .ok (.agg #[.slice (some ⟨g, o, none⟩) M ca, .slice (some ⟨gr, oR, none⟩) M cb, .slice oc P cc]) W ∧ (loadVar 42 ⟨w.heap.size, 1, none⟩).run Tryz.prog W = .ok (.slice (some ⟨gr, oR, none⟩) M cb) W ∧ (loadVar 35 ⟨gr, oR + j * 3, none⟩).run Tryz.prog W = .ok (.agg #[.int .i64 ye, .int .i64 yi, .int .i64 yh]) W) := Lib.hid fun W h1 h2 => ⟨wld_load h1, sl_rep (h1.cell 1), (HCS.out W h2).2⟩
         refine wp_region_held_drew (S := fun W => (loadVar 44 ⟨w.heap.size, 0, none⟩).run Tryz.prog W = .ok (.agg #[.slice (some ⟨g, o, none⟩) M ca, .slice (some ⟨gr, oR, none⟩) M cb, .slice oc P cc]) W ∧ (loadVar 42 ⟨w.heap.size, 1, none⟩).run Tryz.prog W = .ok (.slice (some ⟨gr, oR, none⟩) M cb) W ∧ (loadVar 35 ⟨gr, oR + j * 3, none⟩).run Tryz.prog W = .ok (.agg #[.int .i64 ye, .int .i64 yi, .int .i64 yh]) W) (by kernel_rfl) ?_ (fun hHeld0 => ?_)
         · exact HKS.out _ HK0w.out HBw.out
         generalize w2.drew = we at *
         iterate 6 (apply tkF [0, 1, 2, 3, 4, 5] rfl rfl (by kernel_rfl) (fun _ _ _ h => h) (by rfl); (case hy => (intro w hSw; (try dsimp only at hSw); go_simp; try with_reducible rfl)); (case hS => assumption); (try simp only [Act.put, List.setIfInBounds_toArray, List.set_cons_zero, List.set_cons_succ]))
         have g0 : we.cell? ⟨w.heap.size + 2, 0, none⟩ = some (.slice none 0 0) := HK2w.out.cell 0
         have f0 := HK2w.out.frozen 0
         have g1 : we.cell? ⟨w.heap.size + 2, 1, none⟩ = some (.slice none 0 0) := HK2w.out.cell 1
         have f1 := HK2w.out.frozen 1
         have g2 : we.cell? ⟨w.heap.size + 2, 2, none⟩ = some (.slice none 0 0) := HK2w.out.cell 2
         have f2 := HK2w.out.frozen 2
         have q0 : we.cell? ⟨w.heap.size + 3, 0, none⟩ = some (.int .i64 0) := HK3w.out.cell 0
         have p0 := HK3w.out.frozen 0
         have q1 : we.cell? ⟨w.heap.size + 3, 1, none⟩ = some (.int .i64 0) := HK3w.out.cell 1
         have p1 := HK3w.out.frozen 1
         have q2 : we.cell? ⟨w.heap.size + 3, 2, none⟩ = some (.int .i64 0) := HK3w.out.cell 2
         have p2 := HK3w.out.frozen 2
         refine doH (i := 6) rfl (by kernel_rfl) (by rfl) (fun K hK => ?_)
         go_simp
         refine hK.out _ _ (HKS.out _ (HK0w.out.far3 (b := w.heap.size + 2) (by omega) (.slice (some ⟨g, o, none⟩) M ca) (.slice (some ⟨gr, oR, none⟩) M cb) (.slice oc P cc)) (Below.set3 (b := w.heap.size + 2) HBw.out (by omega) (.slice (some ⟨g, o, none⟩) M ca) (.slice (some ⟨gr, oR, none⟩) M cb) (.slice oc P cc))) (fun hHeld2 => ?_)
         clear hK K hHeld0
         (try simp only [Act.put, List.setIfInBounds_toArray, List.set_cons_zero, List.set_cons_succ])
         refine doH (i := 7) rfl (by kernel_rfl) (by rfl) (fun K hK => ?_)
         go_simp
         refine hK.out _ _ (HKS.out _ ((HK0w.out.far3 (b := w.heap.size + 2) (by omega) (.slice (some ⟨g, o, none⟩) M ca) (.slice (some ⟨gr, oR, none⟩) M cb) (.slice oc P cc)).far3 (b := w.heap.size + 3) (by omega) (.int .i64 ye) (.int .i64 yi) (.int .i64 yh)) (Below.set3 (b := w.heap.size + 3) (Below.set3 (b := w.heap.size + 2) HBw.out (by omega) (.slice (some ⟨g, o, none⟩) M ca) (.slice (some ⟨gr, oR, none⟩) M cb) (.slice oc P cc)) (by omega) (.int .i64 ye) (.int .i64 yi) (.int .i64 yh))) (fun hHeld3 => ?_)
         clear hK K hHeld2
         (try simp only [Act.put, List.setIfInBounds_toArray, List.set_cons_zero, List.set_cons_succ])
         refine wpAnyH_done (by kernel_rfl) ?_ _
         go_wp2_with fail
         have n4 := (HK2w.out.set3 (.slice (some ⟨g, o, none⟩) M ca) (.slice (some ⟨gr, oR, none⟩) M cb) (.slice oc P cc)).far3 (b := w.heap.size + 3) (by omega) (.int .i64 ye) (.int .i64 yi) (.int .i64 yh)
         have n5 := (HK3w.out.far3 (b := w.heap.size + 2) (by omega) (.slice (some ⟨g, o, none⟩) M ca) (.slice (some ⟨gr, oR, none⟩) M cb) (.slice oc P cc)).set3 (.int .i64 ye) (.int .i64 yi) (.int .i64 yh)
         have hB9 := Below.set3 (b := w.heap.size + 3) (Below.set3 (b := w.heap.size + 2) HBw.out (by omega) (.slice (some ⟨g, o, none⟩) M ca) (.slice (some ⟨gr, oR, none⟩) M cb) (.slice oc P cc)) (by omega) (.int .i64 ye) (.int .i64 yi) (.int .i64 yh)
         refine bodyPost_ret (results_row_row rfl _ _ (w.heap.size + 2) (w.heap.size + 3) 44 35 #[.slice (some ⟨g, o, none⟩) M ca, .slice (some ⟨gr, oR, none⟩) M cb, .slice oc P cc] #[.int .i64 ye, .int .i64 yi, .int .i64 yh] _ _ rfl n4 rfl n5 Tryz.underlying44 rfl (by kernel_rfl) Tryz.underlying35 rfl (by kernel_rfl)) rfl ?_
         rw [HRA.out, HASK.out]
         exact ⟨.slice (some ⟨g, o, none⟩) M ca, .slice (some ⟨gr, oR, none⟩) M cb, rfl, ⟨some ⟨g, o, none⟩, ca, by rw [HN.out], HA.out.below hB9, by rw [HN.out]; exact hNc, hoa, .inl ⟨rfl, rfl⟩⟩, ⟨some ⟨gr, oR, none⟩, cb, by rw [HM.out], HB.out.below hB9, by rw [HM.out]; exact hMc, hob, .inl ⟨rfl, rfl⟩⟩, hB9⟩
       · have hq1' : (xq == rq) = false := by rw [beq_eq_false_iff_ne]; exact hq1
         rw [if_neg (fun h => hq1 h.2)] at HASK
         go_wp2
         refine wp_region_held_drew (S := fun W => (loadVar 32 ⟨w.heap.size, 0, none⟩).run Tryz.prog W = .ok (.slice (some ⟨g, o, none⟩) M ca) W ∧ (loadVar 3 ⟨g, o + j * 5 + 1, none⟩).run Tryz.prog W = .ok (.int .i64 xq) W ∧ (loadVar 3 ⟨w.heap.size + 1, 1, none⟩).run Tryz.prog W = .ok (.int .i64 rq) W) (by kernel_rfl) ?_ (fun hHeld0 => ?_)
         · exact HKB.out _ HBQ.out.drew
         iterate 13 (apply tkF [0, 1, 2, 3, 4, 5, 6, 7, 8, 9, 10, 11, 12] rfl rfl (by kernel_rfl) (fun _ _ _ h => h) (by rfl); (case hy => (intro w hSw; (try dsimp only at hSw); go_simp; try with_reducible rfl)); (case hS => assumption); (try simp only [Act.put, List.setIfInBounds_toArray, List.set_cons_zero, List.set_cons_succ]))
         refine wpAnyH_done (by kernel_rfl) ?_ _
         have hb2 : Below w1.heap.size w1 wr.drew := HBQ.out.drew
         generalize wr.drew = w2 at *
         by_cases hq2 : rq < xq
         · rw [if_pos ⟨by omega, hq2⟩] at HASK
           go_wp2
           refine wp_region_held_drew (S := fun W => (loadVar 32 ⟨w.heap.size, 0, none⟩).run Tryz.prog W = .ok (.slice (some ⟨g, o, none⟩) M ca) W ∧ (loadVar 3 ⟨g, o + j * 5 + 1, none⟩).run Tryz.prog W = .ok (.int .i64 xq) W ∧ (loadVar 3 ⟨w.heap.size + 1, 1, none⟩).run Tryz.prog W = .ok (.int .i64 rq) W) (by kernel_rfl) ?_ (fun hHeld0 => ?_)
           · exact HKB.out _ hb2.drew
           iterate 13 (apply tkF [0, 1, 2, 3, 4, 5, 6, 7, 8, 9, 10, 11, 12] rfl rfl (by kernel_rfl) (fun _ _ _ h => h) (by rfl); (case hy => (intro w hSw; (try dsimp only at hSw); go_simp; try with_reducible rfl)); (case hS => assumption); (try simp only [Act.put, List.setIfInBounds_toArray, List.set_cons_zero, List.set_cons_succ]))
           refine wpAnyH_done (by kernel_rfl) ?_ _
           have hb3 : Below w1.heap.size w1 w2.drew := hb2.drew
           generalize w2.drew = w3 at *
           clear HK0w HK1w HK2w HK3w HBw HBQ hb2 d0
           have HK0w := Lib.hid (HK01.out.below hb3 HK01.out.lt)
           have HK1w := Lib.hid (HK11.out.below hb3 HK11.out.lt)
           have HK2w := Lib.hid (HK21.out.below hb3 HK21.out.lt)
           have HK3w := Lib.hid (HK31.out.below hb3 HK31.out.lt)
           have HBw := Lib.hid (HB1.out.trans ((hb3).mono HB1.out.size))
           clear hb3
           have d0 := wld_load HK0w.out
           have g0 : w3.cell? ⟨w.heap.size + 2, 0, none⟩ = some (.slice none 0 0) := HK2w.out.cell 0
           have f0 := HK2w.out.frozen 0
           have g1 : w3.cell? ⟨w.heap.size + 2, 1, none⟩ = some (.slice none 0 0) := HK2w.out.cell 1
           have f1 := HK2w.out.frozen 1
           have g2 : w3.cell? ⟨w.heap.size + 2, 2, none⟩ = some (.slice none 0 0) := HK2w.out.cell 2
           have f2 := HK2w.out.frozen 2
           have q0 : w3.cell? ⟨w.heap.size + 3, 0, none⟩ = some (.int .i64 0) := HK3w.out.cell 0
           have p0 := HK3w.out.frozen 0
           have q1 : w3.cell? ⟨w.heap.size + 3, 1, none⟩ = some (.int .i64 0) := HK3w.out.cell 1
           have p1 := HK3w.out.frozen 1
           have q2 : w3.cell? ⟨w.heap.size + 3, 2, none⟩ = some (.int .i64 0) := HK3w.out.cell 2
           have p2 := HK3w.out.frozen 2
           go_wp2_with fail
           have n4 := (HK2w.out.set3 (.slice (some ⟨g, o, none⟩) M ca) (.slice (some ⟨gr, oR, none⟩) M cb) (.slice oc P cc)).far3 (b := w.heap.size + 3) (by omega) (.int .i64 7) (.int .i64 0) (.int .i64 0)
           have n5 := (HK3w.out.far3 (b := w.heap.size + 2) (by omega) (.slice (some ⟨g, o, none⟩) M ca) (.slice (some ⟨gr, oR, none⟩) M cb) (.slice oc P cc)).set3 (.int .i64 7) (.int .i64 0) (.int .i64 0)
           have hB9 := Below.set3 (b := w.heap.size + 3) (Below.set3 (b := w.heap.size + 2) HBw.out (by omega) (.slice (some ⟨g, o, none⟩) M ca) (.slice (some ⟨gr, oR, none⟩) M cb) (.slice oc P cc)) (by omega) (.int .i64 7) (.int .i64 0) (.int .i64 0)
           refine bodyPost_ret (results_row_row rfl _ _ (w.heap.size + 2) (w.heap.size + 3) 44 35 #[.slice (some ⟨g, o, none⟩) M ca, .slice (some ⟨gr, oR, none⟩) M cb, .slice oc P cc] #[.int .i64 7, .int .i64 0, .int .i64 0] _ _ rfl n4 rfl n5 Tryz.underlying44 rfl (by kernel_rfl) Tryz.underlying35 rfl (by kernel_rfl)) rfl ?_
           rw [HRA.out, HASK.out]
           exact ⟨.slice (some ⟨g, o, none⟩) M ca, .slice (some ⟨gr, oR, none⟩) M cb, rfl, ⟨some ⟨g, o, none⟩, ca, by rw [HN.out], HA.out.below hB9, by rw [HN.out]; exact hNc, hoa, .inl ⟨rfl, rfl⟩⟩, ⟨some ⟨gr, oR, none⟩, cb, by rw [HM.out], HB.out.below hB9, by rw [HM.out]; exact hMc, hob, .inl ⟨rfl, rfl⟩⟩, hB9⟩
         · rw [if_neg (fun h => hq2 h.2)] at HASK
           go_wp2
           refine wp_region_held_drew (S := fun W => (loadVar 32 ⟨w.heap.size, 0, none⟩).run Tryz.prog W = .ok (.slice (some ⟨g, o, none⟩) M ca) W ∧ (loadVar 3 ⟨g, o + j * 5 + 1, none⟩).run Tryz.prog W = .ok (.int .i64 xq) W ∧ (loadVar 3 ⟨w.heap.size + 1, 1, none⟩).run Tryz.prog W = .ok (.int .i64 rq) W) (by kernel_rfl) ?_ (fun hHeld0 => ?_)
           · exact HKB.out _ hb2.drew
           iterate 13 (apply tkF [0, 1, 2, 3, 4, 5, 6, 7, 8, 9, 10, 11, 12] rfl rfl (by kernel_rfl) (fun _ _ _ h => h) (by rfl); (case hy => (intro w hSw; (try dsimp only at hSw); go_simp; try with_reducible rfl)); (case hS => assumption); (try simp only [Act.put, List.setIfInBounds_toArray, List.set_cons_zero, List.set_cons_succ]))
           refine wpAnyH_done (by kernel_rfl) ?_ _
           have hb3 : Below w1.heap.size w1 w2.drew := hb2.drew
           generalize w2.drew = w3 at *
           clear HK0w HK1w HK2w HK3w HBw HBQ hb2 d0
           have HK0w := Lib.hid (HK01.out.below hb3 HK01.out.lt)
           have HK1w := Lib.hid (HK11.out.below hb3 HK11.out.lt)
           have HK2w := Lib.hid (HK21.out.below hb3 HK21.out.lt)
           have HK3w := Lib.hid (HK31.out.below hb3 HK31.out.lt)
           have HBw := Lib.hid (HB1.out.trans ((hb3).mono HB1.out.size))
           clear hb3
           by_cases h20 : cn = 20
           · have h20' : (cn == 20) = true := by rw [beq_iff_eq]; exact h20
             rw [if_pos h20] at HASK
             have d0 := wld_load HK0w.out
             have g0 : w3.cell? ⟨w.heap.size + 2, 0, none⟩ = some (.slice none 0 0) := HK2w.out.cell 0
             have f0 := HK2w.out.frozen 0
             have g1 : w3.cell? ⟨w.heap.size + 2, 1, none⟩ = some (.slice none 0 0) := HK2w.out.cell 1
             have f1 := HK2w.out.frozen 1
             have g2 : w3.cell? ⟨w.heap.size + 2, 2, none⟩ = some (.slice none 0 0) := HK2w.out.cell 2
             have f2 := HK2w.out.frozen 2
             have q0 : w3.cell? ⟨w.heap.size + 3, 0, none⟩ = some (.int .i64 0) := HK3w.out.cell 0
             have p0 := HK3w.out.frozen 0
             have q1 : w3.cell? ⟨w.heap.size + 3, 1, none⟩ = some (.int .i64 0) := HK3w.out.cell 1
             have p1 := HK3w.out.frozen 1
             have q2 : w3.cell? ⟨w.heap.size + 3, 2, none⟩ = some (.int .i64 0) := HK3w.out.cell 2
             have p2 := HK3w.out.frozen 2
             go_wp2_with fail
             have n4 := (HK2w.out.set3 (.slice (some ⟨g, o, none⟩) M ca) (.slice (some ⟨gr, oR, none⟩) M cb) (.slice oc P cc)).far3 (b := w.heap.size + 3) (by omega) (.int .i64 6) (.int .i64 0) (.int .i64 0)
             have n5 := (HK3w.out.far3 (b := w.heap.size + 2) (by omega) (.slice (some ⟨g, o, none⟩) M ca) (.slice (some ⟨gr, oR, none⟩) M cb) (.slice oc P cc)).set3 (.int .i64 6) (.int .i64 0) (.int .i64 0)
             have hB9 := Below.set3 (b := w.heap.size + 3) (Below.set3 (b := w.heap.size + 2) HBw.out (by omega) (.slice (some ⟨g, o, none⟩) M ca) (.slice (some ⟨gr, oR, none⟩) M cb) (.slice oc P cc)) (by omega) (.int .i64 6) (.int .i64 0) (.int .i64 0)
             refine bodyPost_ret (results_row_row rfl _ _ (w.heap.size + 2) (w.heap.size + 3) 44 35 #[.slice (some ⟨g, o, none⟩) M ca, .slice (some ⟨gr, oR, none⟩) M cb, .slice oc P cc] #[.int .i64 6, .int .i64 0, .int .i64 0] _ _ rfl n4 rfl n5 Tryz.underlying44 rfl (by kernel_rfl) Tryz.underlying35 rfl (by kernel_rfl)) rfl ?_
             rw [HRA.out, HASK.out]
             exact ⟨.slice (some ⟨g, o, none⟩) M ca, .slice (some ⟨gr, oR, none⟩) M cb, rfl, ⟨some ⟨g, o, none⟩, ca, by rw [HN.out], HA.out.below hB9, by rw [HN.out]; exact hNc, hoa, .inl ⟨rfl, rfl⟩⟩, ⟨some ⟨gr, oR, none⟩, cb, by rw [HM.out], HB.out.below hB9, by rw [HM.out]; exact hMc, hob, .inl ⟨rfl, rfl⟩⟩, hB9⟩
           · have h20' : (cn == 20) = false := by rw [beq_eq_false_iff_ne]; exact h20
             rw [if_neg h20] at HASK
             have dl := sl_req (w := w3) (p := ⟨w.heap.size, 0, none⟩) (HK0w.out.cell 0)
             change (loadVar 32 _).run Tryz.prog w3 = .ok (.slice (some ⟨g, o, none⟩) M ca) w3 at dl
             by_cases h64 : (M : Int) = 64
             · have h64' : ((M : Int) == 64) = true := by rw [beq_iff_eq]; exact h64
               rw [if_pos h64] at HASK
               have d0 := wld_load HK0w.out
               have g0 : w3.cell? ⟨w.heap.size + 2, 0, none⟩ = some (.slice none 0 0) := HK2w.out.cell 0
               have f0 := HK2w.out.frozen 0
               have g1 : w3.cell? ⟨w.heap.size + 2, 1, none⟩ = some (.slice none 0 0) := HK2w.out.cell 1
               have f1 := HK2w.out.frozen 1
               have g2 : w3.cell? ⟨w.heap.size + 2, 2, none⟩ = some (.slice none 0 0) := HK2w.out.cell 2
               have f2 := HK2w.out.frozen 2
               have q0 : w3.cell? ⟨w.heap.size + 3, 0, none⟩ = some (.int .i64 0) := HK3w.out.cell 0
               have p0 := HK3w.out.frozen 0
               have q1 : w3.cell? ⟨w.heap.size + 3, 1, none⟩ = some (.int .i64 0) := HK3w.out.cell 1
               have p1 := HK3w.out.frozen 1
               have q2 : w3.cell? ⟨w.heap.size + 3, 2, none⟩ = some (.int .i64 0) := HK3w.out.cell 2
               have p2 := HK3w.out.frozen 2
               go_wp2_with fail
               have n4 := (HK2w.out.set3 (.slice (some ⟨g, o, none⟩) M ca) (.slice (some ⟨gr, oR, none⟩) M cb) (.slice oc P cc)).far3 (b := w.heap.size + 3) (by omega) (.int .i64 10) (.int .i64 0) (.int .i64 0)
               have n5 := (HK3w.out.far3 (b := w.heap.size + 2) (by omega) (.slice (some ⟨g, o, none⟩) M ca) (.slice (some ⟨gr, oR, none⟩) M cb) (.slice oc P cc)).set3 (.int .i64 10) (.int .i64 0) (.int .i64 0)
               have hB9 := Below.set3 (b := w.heap.size + 3) (Below.set3 (b := w.heap.size + 2) HBw.out (by omega) (.slice (some ⟨g, o, none⟩) M ca) (.slice (some ⟨gr, oR, none⟩) M cb) (.slice oc P cc)) (by omega) (.int .i64 10) (.int .i64 0) (.int .i64 0)
               refine bodyPost_ret (results_row_row rfl _ _ (w.heap.size + 2) (w.heap.size + 3) 44 35 #[.slice (some ⟨g, o, none⟩) M ca, .slice (some ⟨gr, oR, none⟩) M cb, .slice oc P cc] #[.int .i64 10, .int .i64 0, .int .i64 0] _ _ rfl n4 rfl n5 Tryz.underlying44 rfl (by kernel_rfl) Tryz.underlying35 rfl (by kernel_rfl)) rfl ?_
               rw [HRA.out, HASK.out]
               exact ⟨.slice (some ⟨g, o, none⟩) M ca, .slice (some ⟨gr, oR, none⟩) M cb, rfl, ⟨some ⟨g, o, none⟩, ca, by rw [HN.out], HA.out.below hB9, by rw [HN.out]; exact hNc, hoa, .inl ⟨rfl, rfl⟩⟩, ⟨some ⟨gr, oR, none⟩, cb, by rw [HM.out], HB.out.below hB9, by rw [HM.out]; exact hMc, hob, .inl ⟨rfl, rfl⟩⟩, hB9⟩
             · have h64' : ((M : Int) == 64) = false := by rw [beq_eq_false_iff_ne]; exact h64
               rw [if_neg h64] at HASK
               have dh := sl_hd (w := w3) (p := ⟨w.heap.size, 2, none⟩) (HK0w.out.cell 2)
               change (loadVar 39 _).run Tryz.prog w3 = .ok (.slice oc P cc) w3 at dh
               have e5 : IntKind.i64.wrap ((P : Int) + 1) = (P : Int) + 1 := by rw [IntKind.wrap_i64]; omega
               go_wp2_with fail
               have hq0 : Blk (w3.alloc (.cells #[.int .i64 0, .int .i64 M, .int .i64 ((P : Int) + 1)] 35)) w3.heap.size 35 #[.int .i64 0, .int .i64 M, .int .i64 ((P : Int) + 1)] := Blk.new _ _ _
               have hbq := (Below.refl _ w3).alloc (Nat.le_refl _) (.cells #[.int .i64 0, .int .i64 M, .int .i64 ((P : Int) + 1)] 35)
               have HQa := Lib.hid hq0
               have HK0a := Lib.hid (HK0w.out.alloc (.cells #[.int .i64 0, .int .i64 M, .int .i64 ((P : Int) + 1)] 35))
               have HK1a := Lib.hid (HK1w.out.alloc (.cells #[.int .i64 0, .int .i64 M, .int .i64 ((P : Int) + 1)] 35))
               have HK2a := Lib.hid (HK2w.out.alloc (.cells #[.int .i64 0, .int .i64 M, .int .i64 ((P : Int) + 1)] 35))
               have HK3a := Lib.hid (HK3w.out.alloc (.cells #[.int .i64 0, .int .i64 M, .int .i64 ((P : Int) + 1)] 35))
               have HBa := Lib.hid (HBw.out.trans (hbq.mono HBw.out.size))
               have hqg : w.heap.size + 3 < w3.heap.size := HK3w.out.lt
               clear hq0 hbq
               generalize w3.alloc (.cells #[.int .i64 0, .int .i64 M, .int .i64 ((P : Int) + 1)] 35) = wa at *
               generalize w3.heap.size = gq at *
               clear HK0w HK1w HK2w HK3w HBw dl dh
               have HWc := HK0a
               have HXc := HK1a
               have HLN := Lib.hid HN.out
               have HOLD : Hid (∀ W, Below wa.heap.size wa W → RowG reqK W (some ⟨g, o, none⟩) tk) := Lib.hid fun W hW => HA.out.below (HBa.out.trans (hW.mono HBa.out.size))
               have HNIL : Hid (M = 0 → (some ⟨g, o, none⟩ : Option Addr) = none → ca = 0) := Lib.hid fun _ => hoa
               go_upto_region 19 with fail
               go_cut [] from 86 to 93 (fun wx => ∃ vd, OwnG reqK wx wa.heap.size vd (tk ++ [(⟨rc, rq, rl, rk, rv⟩ : Req)]) ∧ Blk wx w.heap.size 44 #[vd, .slice (some ⟨gr, oR, none⟩) M cb, .slice oc P cc] ∧ World.grownBy wa wx (some w.heap.size))
               case first =>
                refine wp_region_held_drew (S := fun W => (loadVar 58 ⟨w.heap.size + 1, 0, none⟩).run Tryz.prog W = .ok (.agg #[.int .i64 rc, .int .i64 rq, .string rl, .string rk, .string rv]) W) (by kernel_rfl) ?_ (fun hHeld0 => ?_)
                · exact req_load5 (HXc.out.below ((Below.refl _ _).drew) HXc.out.lt)
                have hE0 : Below wa.heap.size wa wa.drew := (Below.refl _ _).drew
                generalize wa.drew = y0 at *
                iterate 2 (apply tkF [1, 4] rfl rfl (by kernel_rfl) (fun _ _ _ h => h) (by rfl); (case hy => (intro w hSw; (try dsimp only at hSw); go_simp; try with_reducible rfl)); (case hS => assumption); (try simp only [Act.put, List.setIfInBounds_toArray, List.set_cons_zero, List.set_cons_succ]))
                refine doH3 (i := 0) (j := 2) (k := 5) rfl rfl rfl (by kernel_rfl) (by rfl) (by rfl) (by rfl) (fun K hK => ?_) (fun K hK => ?_) (fun K hK => ?_)
                · go_simp
                  have hO := ownG_lit reqOk y0 wa.heap.size hE0.size
                  have hyA := (Below.refl _ y0).alloc (Nat.le_refl _) (.cells #[] 58)
                  have hE1 := hE0.trans (hyA.mono hE0.size)
                  change OwnG _ (y0.alloc (.cells #[] 58)) _ _ _ at hO
                  have hb0 : y0.heap.size < (y0.alloc (.cells #[] 58)).heap.size := by simp
                  generalize y0.alloc (.cells #[] 58) = y1 at *
                  generalize y0.heap.size = b0 at *
                  refine hK.out _ _ (req_load5 (HXc.out.below hE1 HXc.out.lt)) (fun hHeld => ?_)
                  clear hK K
                  (try simp only [Act.put, List.setIfInBounds_toArray, List.set_cons_zero, List.set_cons_succ])
                  refine doH2 (i := 2) (j := 5) rfl rfl (by kernel_rfl) (by rfl) (by rfl) (fun K hK => ?_) (fun K hK => ?_)
                  · have hL := sl_req (w := y1) (p := ⟨w.heap.size, 0, none⟩) ((HWc.out.below hE1 HWc.out.lt).cell 0)
                    change (loadVar 32 _).run Tryz.prog y1 = .ok (.slice (some ⟨g, o, none⟩) M ca) y1 at hL
                    go_simp
                    refine hK.out _ _ (req_load5 (HXc.out.below hE1 HXc.out.lt)) (fun hHeld => ?_)
                    clear hK K
                    (try simp only [Act.put, List.setIfInBounds_toArray, List.set_cons_zero, List.set_cons_succ])
                    clear hL
                    refine doH2 (i := 3) (j := 5) rfl rfl (by kernel_rfl) (by rfl) (by rfl) (fun K hK => ?_) (fun K hK => ?_)
                    · obtain ⟨v3, y3, hr3, hO3, hg3⟩ := append_g reqOk hO (some ⟨g, o, none⟩) M ca HLN.out (HOLD.out y1 hE1) HNIL.out (by simp; omega) hE1.size
                      have hE3 := hE1.grown hg3 hE1.size (fun j hj => (World.ownsRow.lt hO j hj).1)
                      clear hO
                      have hO := hO3
                      clear hO3
                      rw [List.nil_append] at hO
                      refine Lib.wp_append_run _ _ _ 32 32 rfl _ _ rfl rfl _ _ hr3 ?_
                      clear hr3 hg3
                      refine hK.out _ _ (req_load5 (HXc.out.below hE3 HXc.out.lt)) (fun hHeld => ?_)
                      clear hK K
                      (try simp only [Act.put, List.setIfInBounds_toArray, List.set_cons_zero, List.set_cons_succ])
                      refine doH (i := 5) rfl (by kernel_rfl) (by rfl) (fun K hK => ?_)
                      go_simp
                      have hR := rowG_new reqOk y3 (⟨rc, rq, rl, rk, rv⟩ : Req)
                      have hyA := (Below.refl _ y3).alloc (Nat.le_refl _) (.cells #[.int .i64 rc, .int .i64 rq, .string rl, .string rk, .string rv] 58)
                      have hE4 := hE3.trans (hyA.mono hE3.size)
                      change RowG _ (y3.alloc (.cells #[.int .i64 rc, .int .i64 rq, .string rl, .string rk, .string rv] 58)) _ _ at hR
                      have hO := hO.below hyA
                      have hbl : y3.heap.size < (y3.alloc (.cells #[.int .i64 rc, .int .i64 rq, .string rl, .string rk, .string rv] 58)).heap.size := by simp
                      generalize y3.alloc (.cells #[.int .i64 rc, .int .i64 rq, .string rl, .string rk, .string rv] 58) = y4 at *
                      generalize y3.heap.size = b5 at *
                      refine hK.out _ _ (req_load5 (HXc.out.below hE4 HXc.out.lt)) (fun hHeld => ?_)
                      clear hK K
                      (try simp only [Act.put, List.setIfInBounds_toArray, List.set_cons_zero, List.set_cons_succ])
                      refine doH (i := 6) rfl (by kernel_rfl) (by rfl) (fun K hK => ?_)
                      obtain ⟨v6, y5, hr6, hO6, hg6⟩ := append_g reqOk hO (some ⟨b5, 0, none⟩) 1 1 rfl hR (fun h => absurd h (by decide)) (by rw [HLN.out]; omega) hE4.size
                      have hE5 := hE4.grown hg6 hE4.size (fun j hj => (World.ownsRow.lt hO j hj).1)
                      refine Lib.wp_append_run _ _ _ 32 32 rfl _ _ rfl rfl _ _ hr6 ?_
                      clear hr6 hg6 hO
                      obtain ⟨o6, n6, c6, hv6⟩ : ∃ o n c, v6 = .slice o n c := (by obtain ⟨o, c, h, _⟩ := hO6.form reqOk; exact ⟨_, _, _, h⟩)
                      subst hv6
                      refine hK.out _ _ (req_load5 (HXc.out.below hE5 HXc.out.lt)) (fun hHeld => ?_)
                      clear hK K
                      (try simp only [Act.put, List.setIfInBounds_toArray, List.set_cons_zero, List.set_cons_succ])
                      (apply tkF [7] rfl rfl (by kernel_rfl) (fun _ _ _ h => h) (by rfl); (case hy => (intro w hSw; (try dsimp only at hSw); go_simp; try with_reducible rfl)); (case hS => assumption); (try simp only [Act.put, List.setIfInBounds_toArray, List.set_cons_zero, List.set_cons_succ]))
                      refine doH (i := 8) rfl (by kernel_rfl) (by rfl) (fun K hK => ?_)
                      have hW := HWc.out.below hE5 HWc.out.lt
                      have c8 := hW.cell 0
                      have f8 := hW.frozen 0
                      change y5.cell? _ = some (.slice (some ⟨g, o, none⟩) M ca) at c8
                      go_simp
                      have hW8 : Blk (y5.setCell ⟨w.heap.size, 0, none⟩ (.slice o6 n6 c6)) w.heap.size 44 #[.slice o6 n6 c6, .slice (some ⟨gr, oR, none⟩) M cb, .slice oc P cc] := hW.set_ 0 (.slice o6 n6 c6)
                      have hG8 : World.grownBy wa (y5.setCell ⟨w.heap.size, 0, none⟩ (.slice o6 n6 c6)) (some w.heap.size) := grown_trans (only_of_below hE5 (some w.heap.size)) (grownG_setCell y5 ⟨w.heap.size, 0, none⟩ (.slice o6 n6 c6))
                      have hO8 := hO6.grown (grownG_setCell y5 ⟨w.heap.size, 0, none⟩ (.slice o6 n6 c6)) (by cases hv : Value.ownBlock (.slice o6 n6 c6) with | none => exact .inl rfl | some q => refine .inr (fun e => ?_); have h1 := (World.ownsRow.lt hO6 q hv).1; have h2 := HWc.out.lt; injection e with e; have e3 : q = w.heap.size := e; omega)
                      refine hK.out _ _ (req_load5 ((HXc.out.below hE5 HXc.out.lt).far (p := ⟨w.heap.size, 0, none⟩) (by show w.heap.size + 1 ≠ w.heap.size; omega) (.slice o6 n6 c6))) (fun hHeld => ?_)
                      clear hK K
                      (try simp only [Act.put, List.setIfInBounds_toArray, List.set_cons_zero, List.set_cons_succ])
                      refine wpAnyH_done (by kernel_rfl) ?_ _
                      go_wp2_with fail
                      go_meet
                      exact ⟨.slice o6 n6 c6, hO8, hW8, hG8⟩
                    · go_simp
                      have hR := rowG_new reqOk y1 (⟨rc, rq, rl, rk, rv⟩ : Req)
                      have hyA := (Below.refl _ y1).alloc (Nat.le_refl _) (.cells #[.int .i64 rc, .int .i64 rq, .string rl, .string rk, .string rv] 58)
                      have hE7 := hE1.trans (hyA.mono hE1.size)
                      change RowG _ (y1.alloc (.cells #[.int .i64 rc, .int .i64 rq, .string rl, .string rk, .string rv] 58)) _ _ at hR
                      have hO := hO.below hyA
                      have hb05 : b0 ≠ y1.heap.size := by omega
                      have hbl : y1.heap.size < (y1.alloc (.cells #[.int .i64 rc, .int .i64 rq, .string rl, .string rk, .string rv] 58)).heap.size := by simp
                      generalize y1.alloc (.cells #[.int .i64 rc, .int .i64 rq, .string rl, .string rk, .string rv] 58) = y7 at *
                      generalize y1.heap.size = b5 at *
                      refine hK.out _ _ (req_load5 (HXc.out.below hE7 HXc.out.lt)) (fun hHeld => ?_)
                      clear hK K
                      (try simp only [Act.put, List.setIfInBounds_toArray, List.set_cons_zero, List.set_cons_succ])
                      refine doH (i := 3) rfl (by kernel_rfl) (by rfl) (fun K hK => ?_)
                      obtain ⟨v3, y8, hr3, hO3, hg3⟩ := append_g reqOk hO (some ⟨g, o, none⟩) M ca HLN.out (HOLD.out y7 hE7) HNIL.out (by simp; omega) hE7.size
                      have hE8 := hE7.grown hg3 hE7.size (fun j hj => (World.ownsRow.lt hO j hj).1)
                      have hR := hR.grown hg3 (fun a e => by cases e; intro e2; injection e2 with e2; have e3 : b0 = b5 := e2; omega)
                      clear hO
                      have hO := hO3
                      clear hO3
                      rw [List.nil_append] at hO
                      refine Lib.wp_append_run _ _ _ 32 32 rfl _ _ rfl rfl _ _ hr3 ?_
                      clear hr3 hg3
                      refine hK.out _ _ (req_load5 (HXc.out.below hE8 HXc.out.lt)) (fun hHeld => ?_)
                      clear hK K
                      (try simp only [Act.put, List.setIfInBounds_toArray, List.set_cons_zero, List.set_cons_succ])
                      refine doH (i := 6) rfl (by kernel_rfl) (by rfl) (fun K hK => ?_)
                      obtain ⟨v6, y9, hr6, hO6, hg6⟩ := append_g reqOk hO (some ⟨b5, 0, none⟩) 1 1 rfl hR (fun h => absurd h (by decide)) (by rw [HLN.out]; omega) hE8.size
                      have hE9 := hE8.grown hg6 hE8.size (fun j hj => (World.ownsRow.lt hO j hj).1)
                      refine Lib.wp_append_run _ _ _ 32 32 rfl _ _ rfl rfl _ _ hr6 ?_
                      clear hr6 hg6 hO
                      obtain ⟨o6, n6, c6, hv6⟩ : ∃ o n c, v6 = .slice o n c := (by obtain ⟨o, c, h, _⟩ := hO6.form reqOk; exact ⟨_, _, _, h⟩)
                      subst hv6
                      refine hK.out _ _ (req_load5 (HXc.out.below hE9 HXc.out.lt)) (fun hHeld => ?_)
                      clear hK K
                      (try simp only [Act.put, List.setIfInBounds_toArray, List.set_cons_zero, List.set_cons_succ])
                      (apply tkF [7] rfl rfl (by kernel_rfl) (fun _ _ _ h => h) (by rfl); (case hy => (intro w hSw; (try dsimp only at hSw); go_simp; try with_reducible rfl)); (case hS => assumption); (try simp only [Act.put, List.setIfInBounds_toArray, List.set_cons_zero, List.set_cons_succ]))
                      refine doH (i := 8) rfl (by kernel_rfl) (by rfl) (fun K hK => ?_)
                      have hW := HWc.out.below hE9 HWc.out.lt
                      have c8 := hW.cell 0
                      have f8 := hW.frozen 0
                      change y9.cell? _ = some (.slice (some ⟨g, o, none⟩) M ca) at c8
                      go_simp
                      have hW8 : Blk (y9.setCell ⟨w.heap.size, 0, none⟩ (.slice o6 n6 c6)) w.heap.size 44 #[.slice o6 n6 c6, .slice (some ⟨gr, oR, none⟩) M cb, .slice oc P cc] := hW.set_ 0 (.slice o6 n6 c6)
                      have hG8 : World.grownBy wa (y9.setCell ⟨w.heap.size, 0, none⟩ (.slice o6 n6 c6)) (some w.heap.size) := grown_trans (only_of_below hE9 (some w.heap.size)) (grownG_setCell y9 ⟨w.heap.size, 0, none⟩ (.slice o6 n6 c6))
                      have hO8 := hO6.grown (grownG_setCell y9 ⟨w.heap.size, 0, none⟩ (.slice o6 n6 c6)) (by cases hv : Value.ownBlock (.slice o6 n6 c6) with | none => exact .inl rfl | some q => refine .inr (fun e => ?_); have h1 := (World.ownsRow.lt hO6 q hv).1; have h2 := HWc.out.lt; injection e with e; have e3 : q = w.heap.size := e; omega)
                      refine hK.out _ _ (req_load5 ((HXc.out.below hE9 HXc.out.lt).far (p := ⟨w.heap.size, 0, none⟩) (by show w.heap.size + 1 ≠ w.heap.size; omega) (.slice o6 n6 c6))) (fun hHeld => ?_)
                      clear hK K
                      (try simp only [Act.put, List.setIfInBounds_toArray, List.set_cons_zero, List.set_cons_succ])
                      refine wpAnyH_done (by kernel_rfl) ?_ _
                      go_wp2_with fail
                      go_meet
                      exact ⟨.slice o6 n6 c6, hO8, hW8, hG8⟩
                  · go_simp
                    have hR := rowG_new reqOk y1 (⟨rc, rq, rl, rk, rv⟩ : Req)
                    have hyA := (Below.refl _ y1).alloc (Nat.le_refl _) (.cells #[.int .i64 rc, .int .i64 rq, .string rl, .string rk, .string rv] 58)
                    have hE11 := hE1.trans (hyA.mono hE1.size)
                    change RowG _ (y1.alloc (.cells #[.int .i64 rc, .int .i64 rq, .string rl, .string rk, .string rv] 58)) _ _ at hR
                    have hO := hO.below hyA
                    have hb05 : b0 ≠ y1.heap.size := by omega
                    have hbl : y1.heap.size < (y1.alloc (.cells #[.int .i64 rc, .int .i64 rq, .string rl, .string rk, .string rv] 58)).heap.size := by simp
                    generalize y1.alloc (.cells #[.int .i64 rc, .int .i64 rq, .string rl, .string rk, .string rv] 58) = y11 at *
                    generalize y1.heap.size = b5 at *
                    refine hK.out _ _ (req_load5 (HXc.out.below hE11 HXc.out.lt)) (fun hHeld => ?_)
                    clear hK K
                    (try simp only [Act.put, List.setIfInBounds_toArray, List.set_cons_zero, List.set_cons_succ])
                    refine doH (i := 2) rfl (by kernel_rfl) (by rfl) (fun K hK => ?_)
                    have hL := sl_req (w := y11) (p := ⟨w.heap.size, 0, none⟩) ((HWc.out.below hE11 HWc.out.lt).cell 0)
                    change (loadVar 32 _).run Tryz.prog y11 = .ok (.slice (some ⟨g, o, none⟩) M ca) y11 at hL
                    go_simp
                    refine hK.out _ _ (req_load5 (HXc.out.below hE11 HXc.out.lt)) (fun hHeld => ?_)
                    clear hK K
                    (try simp only [Act.put, List.setIfInBounds_toArray, List.set_cons_zero, List.set_cons_succ])
                    clear hL
                    refine doH (i := 3) rfl (by kernel_rfl) (by rfl) (fun K hK => ?_)
                    obtain ⟨v3, y13, hr3, hO3, hg3⟩ := append_g reqOk hO (some ⟨g, o, none⟩) M ca HLN.out (HOLD.out y11 hE11) HNIL.out (by simp; omega) hE11.size
                    have hE13 := hE11.grown hg3 hE11.size (fun j hj => (World.ownsRow.lt hO j hj).1)
                    have hR := hR.grown hg3 (fun a e => by cases e; intro e2; injection e2 with e2; have e3 : b0 = b5 := e2; omega)
                    clear hO
                    have hO := hO3
                    clear hO3
                    rw [List.nil_append] at hO
                    refine Lib.wp_append_run _ _ _ 32 32 rfl _ _ rfl rfl _ _ hr3 ?_
                    clear hr3 hg3
                    refine hK.out _ _ (req_load5 (HXc.out.below hE13 HXc.out.lt)) (fun hHeld => ?_)
                    clear hK K
                    (try simp only [Act.put, List.setIfInBounds_toArray, List.set_cons_zero, List.set_cons_succ])
                    refine doH (i := 6) rfl (by kernel_rfl) (by rfl) (fun K hK => ?_)
                    obtain ⟨v6, y14, hr6, hO6, hg6⟩ := append_g reqOk hO (some ⟨b5, 0, none⟩) 1 1 rfl hR (fun h => absurd h (by decide)) (by rw [HLN.out]; omega) hE13.size
                    have hE14 := hE13.grown hg6 hE13.size (fun j hj => (World.ownsRow.lt hO j hj).1)
                    refine Lib.wp_append_run _ _ _ 32 32 rfl _ _ rfl rfl _ _ hr6 ?_
                    clear hr6 hg6 hO
                    obtain ⟨o6, n6, c6, hv6⟩ : ∃ o n c, v6 = .slice o n c := (by obtain ⟨o, c, h, _⟩ := hO6.form reqOk; exact ⟨_, _, _, h⟩)
                    subst hv6
                    refine hK.out _ _ (req_load5 (HXc.out.below hE14 HXc.out.lt)) (fun hHeld => ?_)
                    clear hK K
                    (try simp only [Act.put, List.setIfInBounds_toArray, List.set_cons_zero, List.set_cons_succ])
                    (apply tkF [7] rfl rfl (by kernel_rfl) (fun _ _ _ h => h) (by rfl); (case hy => (intro w hSw; (try dsimp only at hSw); go_simp; try with_reducible rfl)); (case hS => assumption); (try simp only [Act.put, List.setIfInBounds_toArray, List.set_cons_zero, List.set_cons_succ]))
                    refine doH (i := 8) rfl (by kernel_rfl) (by rfl) (fun K hK => ?_)
                    have hW := HWc.out.below hE14 HWc.out.lt
                    have c8 := hW.cell 0
                    have f8 := hW.frozen 0
                    change y14.cell? _ = some (.slice (some ⟨g, o, none⟩) M ca) at c8
                    go_simp
                    have hW8 : Blk (y14.setCell ⟨w.heap.size, 0, none⟩ (.slice o6 n6 c6)) w.heap.size 44 #[.slice o6 n6 c6, .slice (some ⟨gr, oR, none⟩) M cb, .slice oc P cc] := hW.set_ 0 (.slice o6 n6 c6)
                    have hG8 : World.grownBy wa (y14.setCell ⟨w.heap.size, 0, none⟩ (.slice o6 n6 c6)) (some w.heap.size) := grown_trans (only_of_below hE14 (some w.heap.size)) (grownG_setCell y14 ⟨w.heap.size, 0, none⟩ (.slice o6 n6 c6))
                    have hO8 := hO6.grown (grownG_setCell y14 ⟨w.heap.size, 0, none⟩ (.slice o6 n6 c6)) (by cases hv : Value.ownBlock (.slice o6 n6 c6) with | none => exact .inl rfl | some q => refine .inr (fun e => ?_); have h1 := (World.ownsRow.lt hO6 q hv).1; have h2 := HWc.out.lt; injection e with e; have e3 : q = w.heap.size := e; omega)
                    refine hK.out _ _ (req_load5 ((HXc.out.below hE14 HXc.out.lt).far (p := ⟨w.heap.size, 0, none⟩) (by show w.heap.size + 1 ≠ w.heap.size; omega) (.slice o6 n6 c6))) (fun hHeld => ?_)
                    clear hK K
                    (try simp only [Act.put, List.setIfInBounds_toArray, List.set_cons_zero, List.set_cons_succ])
                    refine wpAnyH_done (by kernel_rfl) ?_ _
                    go_wp2_with fail
                    go_meet
                    exact ⟨.slice o6 n6 c6, hO8, hW8, hG8⟩
                · have hL := sl_req (w := y0) (p := ⟨w.heap.size, 0, none⟩) ((HWc.out.below hE0 HWc.out.lt).cell 0)
                  change (loadVar 32 _).run Tryz.prog y0 = .ok (.slice (some ⟨g, o, none⟩) M ca) y0 at hL
                  go_simp
                  refine hK.out _ _ (req_load5 (HXc.out.below hE0 HXc.out.lt)) (fun hHeld => ?_)
                  clear hK K
                  (try simp only [Act.put, List.setIfInBounds_toArray, List.set_cons_zero, List.set_cons_succ])
                  clear hL
                  refine doH2 (i := 0) (j := 5) rfl rfl (by kernel_rfl) (by rfl) (by rfl) (fun K hK => ?_) (fun K hK => ?_)
                  · go_simp
                    have hO := ownG_lit reqOk y0 wa.heap.size hE0.size
                    have hyA := (Below.refl _ y0).alloc (Nat.le_refl _) (.cells #[] 58)
                    have hE17 := hE0.trans (hyA.mono hE0.size)
                    change OwnG _ (y0.alloc (.cells #[] 58)) _ _ _ at hO
                    have hb0 : y0.heap.size < (y0.alloc (.cells #[] 58)).heap.size := by simp
                    generalize y0.alloc (.cells #[] 58) = y17 at *
                    generalize y0.heap.size = b0 at *
                    refine hK.out _ _ (req_load5 (HXc.out.below hE17 HXc.out.lt)) (fun hHeld => ?_)
                    clear hK K
                    (try simp only [Act.put, List.setIfInBounds_toArray, List.set_cons_zero, List.set_cons_succ])
                    refine doH2 (i := 3) (j := 5) rfl rfl (by kernel_rfl) (by rfl) (by rfl) (fun K hK => ?_) (fun K hK => ?_)
                    · obtain ⟨v3, y18, hr3, hO3, hg3⟩ := append_g reqOk hO (some ⟨g, o, none⟩) M ca HLN.out (HOLD.out y17 hE17) HNIL.out (by simp; omega) hE17.size
                      have hE18 := hE17.grown hg3 hE17.size (fun j hj => (World.ownsRow.lt hO j hj).1)
                      clear hO
                      have hO := hO3
                      clear hO3
                      rw [List.nil_append] at hO
                      refine Lib.wp_append_run _ _ _ 32 32 rfl _ _ rfl rfl _ _ hr3 ?_
                      clear hr3 hg3
                      refine hK.out _ _ (req_load5 (HXc.out.below hE18 HXc.out.lt)) (fun hHeld => ?_)
                      clear hK K
                      (try simp only [Act.put, List.setIfInBounds_toArray, List.set_cons_zero, List.set_cons_succ])
                      refine doH (i := 5) rfl (by kernel_rfl) (by rfl) (fun K hK => ?_)
                      go_simp
                      have hR := rowG_new reqOk y18 (⟨rc, rq, rl, rk, rv⟩ : Req)
                      have hyA := (Below.refl _ y18).alloc (Nat.le_refl _) (.cells #[.int .i64 rc, .int .i64 rq, .string rl, .string rk, .string rv] 58)
                      have hE19 := hE18.trans (hyA.mono hE18.size)
                      change RowG _ (y18.alloc (.cells #[.int .i64 rc, .int .i64 rq, .string rl, .string rk, .string rv] 58)) _ _ at hR
                      have hO := hO.below hyA
                      have hbl : y18.heap.size < (y18.alloc (.cells #[.int .i64 rc, .int .i64 rq, .string rl, .string rk, .string rv] 58)).heap.size := by simp
                      generalize y18.alloc (.cells #[.int .i64 rc, .int .i64 rq, .string rl, .string rk, .string rv] 58) = y19 at *
                      generalize y18.heap.size = b5 at *
                      refine hK.out _ _ (req_load5 (HXc.out.below hE19 HXc.out.lt)) (fun hHeld => ?_)
                      clear hK K
                      (try simp only [Act.put, List.setIfInBounds_toArray, List.set_cons_zero, List.set_cons_succ])
                      refine doH (i := 6) rfl (by kernel_rfl) (by rfl) (fun K hK => ?_)
                      obtain ⟨v6, y20, hr6, hO6, hg6⟩ := append_g reqOk hO (some ⟨b5, 0, none⟩) 1 1 rfl hR (fun h => absurd h (by decide)) (by rw [HLN.out]; omega) hE19.size
                      have hE20 := hE19.grown hg6 hE19.size (fun j hj => (World.ownsRow.lt hO j hj).1)
                      refine Lib.wp_append_run _ _ _ 32 32 rfl _ _ rfl rfl _ _ hr6 ?_
                      clear hr6 hg6 hO
                      obtain ⟨o6, n6, c6, hv6⟩ : ∃ o n c, v6 = .slice o n c := (by obtain ⟨o, c, h, _⟩ := hO6.form reqOk; exact ⟨_, _, _, h⟩)
                      subst hv6
                      refine hK.out _ _ (req_load5 (HXc.out.below hE20 HXc.out.lt)) (fun hHeld => ?_)
                      clear hK K
                      (try simp only [Act.put, List.setIfInBounds_toArray, List.set_cons_zero, List.set_cons_succ])
                      (apply tkF [7] rfl rfl (by kernel_rfl) (fun _ _ _ h => h) (by rfl); (case hy => (intro w hSw; (try dsimp only at hSw); go_simp; try with_reducible rfl)); (case hS => assumption); (try simp only [Act.put, List.setIfInBounds_toArray, List.set_cons_zero, List.set_cons_succ]))
                      refine doH (i := 8) rfl (by kernel_rfl) (by rfl) (fun K hK => ?_)
                      have hW := HWc.out.below hE20 HWc.out.lt
                      have c8 := hW.cell 0
                      have f8 := hW.frozen 0
                      change y20.cell? _ = some (.slice (some ⟨g, o, none⟩) M ca) at c8
                      go_simp
                      have hW8 : Blk (y20.setCell ⟨w.heap.size, 0, none⟩ (.slice o6 n6 c6)) w.heap.size 44 #[.slice o6 n6 c6, .slice (some ⟨gr, oR, none⟩) M cb, .slice oc P cc] := hW.set_ 0 (.slice o6 n6 c6)
                      have hG8 : World.grownBy wa (y20.setCell ⟨w.heap.size, 0, none⟩ (.slice o6 n6 c6)) (some w.heap.size) := grown_trans (only_of_below hE20 (some w.heap.size)) (grownG_setCell y20 ⟨w.heap.size, 0, none⟩ (.slice o6 n6 c6))
                      have hO8 := hO6.grown (grownG_setCell y20 ⟨w.heap.size, 0, none⟩ (.slice o6 n6 c6)) (by cases hv : Value.ownBlock (.slice o6 n6 c6) with | none => exact .inl rfl | some q => refine .inr (fun e => ?_); have h1 := (World.ownsRow.lt hO6 q hv).1; have h2 := HWc.out.lt; injection e with e; have e3 : q = w.heap.size := e; omega)
                      refine hK.out _ _ (req_load5 ((HXc.out.below hE20 HXc.out.lt).far (p := ⟨w.heap.size, 0, none⟩) (by show w.heap.size + 1 ≠ w.heap.size; omega) (.slice o6 n6 c6))) (fun hHeld => ?_)
                      clear hK K
                      (try simp only [Act.put, List.setIfInBounds_toArray, List.set_cons_zero, List.set_cons_succ])
                      refine wpAnyH_done (by kernel_rfl) ?_ _
                      go_wp2_with fail
                      go_meet
                      exact ⟨.slice o6 n6 c6, hO8, hW8, hG8⟩
                    · go_simp
                      have hR := rowG_new reqOk y17 (⟨rc, rq, rl, rk, rv⟩ : Req)
                      have hyA := (Below.refl _ y17).alloc (Nat.le_refl _) (.cells #[.int .i64 rc, .int .i64 rq, .string rl, .string rk, .string rv] 58)
                      have hE22 := hE17.trans (hyA.mono hE17.size)
                      change RowG _ (y17.alloc (.cells #[.int .i64 rc, .int .i64 rq, .string rl, .string rk, .string rv] 58)) _ _ at hR
                      have hO := hO.below hyA
                      have hb05 : b0 ≠ y17.heap.size := by omega
                      have hbl : y17.heap.size < (y17.alloc (.cells #[.int .i64 rc, .int .i64 rq, .string rl, .string rk, .string rv] 58)).heap.size := by simp
                      generalize y17.alloc (.cells #[.int .i64 rc, .int .i64 rq, .string rl, .string rk, .string rv] 58) = y22 at *
                      generalize y17.heap.size = b5 at *
                      refine hK.out _ _ (req_load5 (HXc.out.below hE22 HXc.out.lt)) (fun hHeld => ?_)
                      clear hK K
                      (try simp only [Act.put, List.setIfInBounds_toArray, List.set_cons_zero, List.set_cons_succ])
                      refine doH (i := 3) rfl (by kernel_rfl) (by rfl) (fun K hK => ?_)
                      obtain ⟨v3, y23, hr3, hO3, hg3⟩ := append_g reqOk hO (some ⟨g, o, none⟩) M ca HLN.out (HOLD.out y22 hE22) HNIL.out (by simp; omega) hE22.size
                      have hE23 := hE22.grown hg3 hE22.size (fun j hj => (World.ownsRow.lt hO j hj).1)
                      have hR := hR.grown hg3 (fun a e => by cases e; intro e2; injection e2 with e2; have e3 : b0 = b5 := e2; omega)
                      clear hO
                      have hO := hO3
                      clear hO3
                      rw [List.nil_append] at hO
                      refine Lib.wp_append_run _ _ _ 32 32 rfl _ _ rfl rfl _ _ hr3 ?_
                      clear hr3 hg3
                      refine hK.out _ _ (req_load5 (HXc.out.below hE23 HXc.out.lt)) (fun hHeld => ?_)
                      clear hK K
                      (try simp only [Act.put, List.setIfInBounds_toArray, List.set_cons_zero, List.set_cons_succ])
                      refine doH (i := 6) rfl (by kernel_rfl) (by rfl) (fun K hK => ?_)
                      obtain ⟨v6, y24, hr6, hO6, hg6⟩ := append_g reqOk hO (some ⟨b5, 0, none⟩) 1 1 rfl hR (fun h => absurd h (by decide)) (by rw [HLN.out]; omega) hE23.size
                      have hE24 := hE23.grown hg6 hE23.size (fun j hj => (World.ownsRow.lt hO j hj).1)
                      refine Lib.wp_append_run _ _ _ 32 32 rfl _ _ rfl rfl _ _ hr6 ?_
                      clear hr6 hg6 hO
                      obtain ⟨o6, n6, c6, hv6⟩ : ∃ o n c, v6 = .slice o n c := (by obtain ⟨o, c, h, _⟩ := hO6.form reqOk; exact ⟨_, _, _, h⟩)
                      subst hv6
                      refine hK.out _ _ (req_load5 (HXc.out.below hE24 HXc.out.lt)) (fun hHeld => ?_)
                      clear hK K
                      (try simp only [Act.put, List.setIfInBounds_toArray, List.set_cons_zero, List.set_cons_succ])
                      (apply tkF [7] rfl rfl (by kernel_rfl) (fun _ _ _ h => h) (by rfl); (case hy => (intro w hSw; (try dsimp only at hSw); go_simp; try with_reducible rfl)); (case hS => assumption); (try simp only [Act.put, List.setIfInBounds_toArray, List.set_cons_zero, List.set_cons_succ]))
                      refine doH (i := 8) rfl (by kernel_rfl) (by rfl) (fun K hK => ?_)
                      have hW := HWc.out.below hE24 HWc.out.lt
                      have c8 := hW.cell 0
                      have f8 := hW.frozen 0
                      change y24.cell? _ = some (.slice (some ⟨g, o, none⟩) M ca) at c8
                      go_simp
                      have hW8 : Blk (y24.setCell ⟨w.heap.size, 0, none⟩ (.slice o6 n6 c6)) w.heap.size 44 #[.slice o6 n6 c6, .slice (some ⟨gr, oR, none⟩) M cb, .slice oc P cc] := hW.set_ 0 (.slice o6 n6 c6)
                      have hG8 : World.grownBy wa (y24.setCell ⟨w.heap.size, 0, none⟩ (.slice o6 n6 c6)) (some w.heap.size) := grown_trans (only_of_below hE24 (some w.heap.size)) (grownG_setCell y24 ⟨w.heap.size, 0, none⟩ (.slice o6 n6 c6))
                      have hO8 := hO6.grown (grownG_setCell y24 ⟨w.heap.size, 0, none⟩ (.slice o6 n6 c6)) (by cases hv : Value.ownBlock (.slice o6 n6 c6) with | none => exact .inl rfl | some q => refine .inr (fun e => ?_); have h1 := (World.ownsRow.lt hO6 q hv).1; have h2 := HWc.out.lt; injection e with e; have e3 : q = w.heap.size := e; omega)
                      refine hK.out _ _ (req_load5 ((HXc.out.below hE24 HXc.out.lt).far (p := ⟨w.heap.size, 0, none⟩) (by show w.heap.size + 1 ≠ w.heap.size; omega) (.slice o6 n6 c6))) (fun hHeld => ?_)
                      clear hK K
                      (try simp only [Act.put, List.setIfInBounds_toArray, List.set_cons_zero, List.set_cons_succ])
                      refine wpAnyH_done (by kernel_rfl) ?_ _
                      go_wp2_with fail
                      go_meet
                      exact ⟨.slice o6 n6 c6, hO8, hW8, hG8⟩
                  · go_simp
                    have hR := rowG_new reqOk y0 (⟨rc, rq, rl, rk, rv⟩ : Req)
                    have hyA := (Below.refl _ y0).alloc (Nat.le_refl _) (.cells #[.int .i64 rc, .int .i64 rq, .string rl, .string rk, .string rv] 58)
                    have hE26 := hE0.trans (hyA.mono hE0.size)
                    change RowG _ (y0.alloc (.cells #[.int .i64 rc, .int .i64 rq, .string rl, .string rk, .string rv] 58)) _ _ at hR
                    have hbl : y0.heap.size < (y0.alloc (.cells #[.int .i64 rc, .int .i64 rq, .string rl, .string rk, .string rv] 58)).heap.size := by simp
                    generalize y0.alloc (.cells #[.int .i64 rc, .int .i64 rq, .string rl, .string rk, .string rv] 58) = y26 at *
                    generalize y0.heap.size = b5 at *
                    refine hK.out _ _ (req_load5 (HXc.out.below hE26 HXc.out.lt)) (fun hHeld => ?_)
                    clear hK K
                    (try simp only [Act.put, List.setIfInBounds_toArray, List.set_cons_zero, List.set_cons_succ])
                    refine doH (i := 0) rfl (by kernel_rfl) (by rfl) (fun K hK => ?_)
                    go_simp
                    have hO := ownG_lit reqOk y26 wa.heap.size hE26.size
                    have hyA := (Below.refl _ y26).alloc (Nat.le_refl _) (.cells #[] 58)
                    have hE27 := hE26.trans (hyA.mono hE26.size)
                    change OwnG _ (y26.alloc (.cells #[] 58)) _ _ _ at hO
                    have hR := hR.below hyA
                    have hb05 : y26.heap.size ≠ b5 := by omega
                    have hb0 : y26.heap.size < (y26.alloc (.cells #[] 58)).heap.size := by simp
                    generalize y26.alloc (.cells #[] 58) = y27 at *
                    generalize y26.heap.size = b0 at *
                    have hbl : b5 < y27.heap.size := by omega
                    refine hK.out _ _ (req_load5 (HXc.out.below hE27 HXc.out.lt)) (fun hHeld => ?_)
                    clear hK K
                    (try simp only [Act.put, List.setIfInBounds_toArray, List.set_cons_zero, List.set_cons_succ])
                    refine doH (i := 3) rfl (by kernel_rfl) (by rfl) (fun K hK => ?_)
                    obtain ⟨v3, y28, hr3, hO3, hg3⟩ := append_g reqOk hO (some ⟨g, o, none⟩) M ca HLN.out (HOLD.out y27 hE27) HNIL.out (by simp; omega) hE27.size
                    have hE28 := hE27.grown hg3 hE27.size (fun j hj => (World.ownsRow.lt hO j hj).1)
                    have hR := hR.grown hg3 (fun a e => by cases e; intro e2; injection e2 with e2; have e3 : b0 = b5 := e2; omega)
                    clear hO
                    have hO := hO3
                    clear hO3
                    rw [List.nil_append] at hO
                    refine Lib.wp_append_run _ _ _ 32 32 rfl _ _ rfl rfl _ _ hr3 ?_
                    clear hr3 hg3
                    refine hK.out _ _ (req_load5 (HXc.out.below hE28 HXc.out.lt)) (fun hHeld => ?_)
                    clear hK K
                    (try simp only [Act.put, List.setIfInBounds_toArray, List.set_cons_zero, List.set_cons_succ])
                    refine doH (i := 6) rfl (by kernel_rfl) (by rfl) (fun K hK => ?_)
                    obtain ⟨v6, y29, hr6, hO6, hg6⟩ := append_g reqOk hO (some ⟨b5, 0, none⟩) 1 1 rfl hR (fun h => absurd h (by decide)) (by rw [HLN.out]; omega) hE28.size
                    have hE29 := hE28.grown hg6 hE28.size (fun j hj => (World.ownsRow.lt hO j hj).1)
                    refine Lib.wp_append_run _ _ _ 32 32 rfl _ _ rfl rfl _ _ hr6 ?_
                    clear hr6 hg6 hO
                    obtain ⟨o6, n6, c6, hv6⟩ : ∃ o n c, v6 = .slice o n c := (by obtain ⟨o, c, h, _⟩ := hO6.form reqOk; exact ⟨_, _, _, h⟩)
                    subst hv6
                    refine hK.out _ _ (req_load5 (HXc.out.below hE29 HXc.out.lt)) (fun hHeld => ?_)
                    clear hK K
                    (try simp only [Act.put, List.setIfInBounds_toArray, List.set_cons_zero, List.set_cons_succ])
                    (apply tkF [7] rfl rfl (by kernel_rfl) (fun _ _ _ h => h) (by rfl); (case hy => (intro w hSw; (try dsimp only at hSw); go_simp; try with_reducible rfl)); (case hS => assumption); (try simp only [Act.put, List.setIfInBounds_toArray, List.set_cons_zero, List.set_cons_succ]))
                    refine doH (i := 8) rfl (by kernel_rfl) (by rfl) (fun K hK => ?_)
                    have hW := HWc.out.below hE29 HWc.out.lt
                    have c8 := hW.cell 0
                    have f8 := hW.frozen 0
                    change y29.cell? _ = some (.slice (some ⟨g, o, none⟩) M ca) at c8
                    go_simp
                    have hW8 : Blk (y29.setCell ⟨w.heap.size, 0, none⟩ (.slice o6 n6 c6)) w.heap.size 44 #[.slice o6 n6 c6, .slice (some ⟨gr, oR, none⟩) M cb, .slice oc P cc] := hW.set_ 0 (.slice o6 n6 c6)
                    have hG8 : World.grownBy wa (y29.setCell ⟨w.heap.size, 0, none⟩ (.slice o6 n6 c6)) (some w.heap.size) := grown_trans (only_of_below hE29 (some w.heap.size)) (grownG_setCell y29 ⟨w.heap.size, 0, none⟩ (.slice o6 n6 c6))
                    have hO8 := hO6.grown (grownG_setCell y29 ⟨w.heap.size, 0, none⟩ (.slice o6 n6 c6)) (by cases hv : Value.ownBlock (.slice o6 n6 c6) with | none => exact .inl rfl | some q => refine .inr (fun e => ?_); have h1 := (World.ownsRow.lt hO6 q hv).1; have h2 := HWc.out.lt; injection e with e; have e3 : q = w.heap.size := e; omega)
                    refine hK.out _ _ (req_load5 ((HXc.out.below hE29 HXc.out.lt).far (p := ⟨w.heap.size, 0, none⟩) (by show w.heap.size + 1 ≠ w.heap.size; omega) (.slice o6 n6 c6))) (fun hHeld => ?_)
                    clear hK K
                    (try simp only [Act.put, List.setIfInBounds_toArray, List.set_cons_zero, List.set_cons_succ])
                    refine wpAnyH_done (by kernel_rfl) ?_ _
                    go_wp2_with fail
                    go_meet
                    exact ⟨.slice o6 n6 c6, hO8, hW8, hG8⟩
                · go_simp
                  have hR := rowG_new reqOk y0 (⟨rc, rq, rl, rk, rv⟩ : Req)
                  have hyA := (Below.refl _ y0).alloc (Nat.le_refl _) (.cells #[.int .i64 rc, .int .i64 rq, .string rl, .string rk, .string rv] 58)
                  have hE31 := hE0.trans (hyA.mono hE0.size)
                  change RowG _ (y0.alloc (.cells #[.int .i64 rc, .int .i64 rq, .string rl, .string rk, .string rv] 58)) _ _ at hR
                  have hbl : y0.heap.size < (y0.alloc (.cells #[.int .i64 rc, .int .i64 rq, .string rl, .string rk, .string rv] 58)).heap.size := by simp
                  generalize y0.alloc (.cells #[.int .i64 rc, .int .i64 rq, .string rl, .string rk, .string rv] 58) = y31 at *
                  generalize y0.heap.size = b5 at *
                  refine hK.out _ _ (req_load5 (HXc.out.below hE31 HXc.out.lt)) (fun hHeld => ?_)
                  clear hK K
                  (try simp only [Act.put, List.setIfInBounds_toArray, List.set_cons_zero, List.set_cons_succ])
                  refine doH2 (i := 0) (j := 2) rfl rfl (by kernel_rfl) (by rfl) (by rfl) (fun K hK => ?_) (fun K hK => ?_)
                  · go_simp
                    have hO := ownG_lit reqOk y31 wa.heap.size hE31.size
                    have hyA := (Below.refl _ y31).alloc (Nat.le_refl _) (.cells #[] 58)
                    have hE32 := hE31.trans (hyA.mono hE31.size)
                    change OwnG _ (y31.alloc (.cells #[] 58)) _ _ _ at hO
                    have hR := hR.below hyA
                    have hb05 : y31.heap.size ≠ b5 := by omega
                    have hb0 : y31.heap.size < (y31.alloc (.cells #[] 58)).heap.size := by simp
                    generalize y31.alloc (.cells #[] 58) = y32 at *
                    generalize y31.heap.size = b0 at *
                    have hbl : b5 < y32.heap.size := by omega
                    refine hK.out _ _ (req_load5 (HXc.out.below hE32 HXc.out.lt)) (fun hHeld => ?_)
                    clear hK K
                    (try simp only [Act.put, List.setIfInBounds_toArray, List.set_cons_zero, List.set_cons_succ])
                    refine doH (i := 2) rfl (by kernel_rfl) (by rfl) (fun K hK => ?_)
                    have hL := sl_req (w := y32) (p := ⟨w.heap.size, 0, none⟩) ((HWc.out.below hE32 HWc.out.lt).cell 0)
                    change (loadVar 32 _).run Tryz.prog y32 = .ok (.slice (some ⟨g, o, none⟩) M ca) y32 at hL
                    go_simp
                    refine hK.out _ _ (req_load5 (HXc.out.below hE32 HXc.out.lt)) (fun hHeld => ?_)
                    clear hK K
                    (try simp only [Act.put, List.setIfInBounds_toArray, List.set_cons_zero, List.set_cons_succ])
                    clear hL
                    refine doH (i := 3) rfl (by kernel_rfl) (by rfl) (fun K hK => ?_)
                    obtain ⟨v3, y34, hr3, hO3, hg3⟩ := append_g reqOk hO (some ⟨g, o, none⟩) M ca HLN.out (HOLD.out y32 hE32) HNIL.out (by simp; omega) hE32.size
                    have hE34 := hE32.grown hg3 hE32.size (fun j hj => (World.ownsRow.lt hO j hj).1)
                    have hR := hR.grown hg3 (fun a e => by cases e; intro e2; injection e2 with e2; have e3 : b0 = b5 := e2; omega)
                    clear hO
                    have hO := hO3
                    clear hO3
                    rw [List.nil_append] at hO
                    refine Lib.wp_append_run _ _ _ 32 32 rfl _ _ rfl rfl _ _ hr3 ?_
                    clear hr3 hg3
                    refine hK.out _ _ (req_load5 (HXc.out.below hE34 HXc.out.lt)) (fun hHeld => ?_)
                    clear hK K
                    (try simp only [Act.put, List.setIfInBounds_toArray, List.set_cons_zero, List.set_cons_succ])
                    refine doH (i := 6) rfl (by kernel_rfl) (by rfl) (fun K hK => ?_)
                    obtain ⟨v6, y35, hr6, hO6, hg6⟩ := append_g reqOk hO (some ⟨b5, 0, none⟩) 1 1 rfl hR (fun h => absurd h (by decide)) (by rw [HLN.out]; omega) hE34.size
                    have hE35 := hE34.grown hg6 hE34.size (fun j hj => (World.ownsRow.lt hO j hj).1)
                    refine Lib.wp_append_run _ _ _ 32 32 rfl _ _ rfl rfl _ _ hr6 ?_
                    clear hr6 hg6 hO
                    obtain ⟨o6, n6, c6, hv6⟩ : ∃ o n c, v6 = .slice o n c := (by obtain ⟨o, c, h, _⟩ := hO6.form reqOk; exact ⟨_, _, _, h⟩)
                    subst hv6
                    refine hK.out _ _ (req_load5 (HXc.out.below hE35 HXc.out.lt)) (fun hHeld => ?_)
                    clear hK K
                    (try simp only [Act.put, List.setIfInBounds_toArray, List.set_cons_zero, List.set_cons_succ])
                    (apply tkF [7] rfl rfl (by kernel_rfl) (fun _ _ _ h => h) (by rfl); (case hy => (intro w hSw; (try dsimp only at hSw); go_simp; try with_reducible rfl)); (case hS => assumption); (try simp only [Act.put, List.setIfInBounds_toArray, List.set_cons_zero, List.set_cons_succ]))
                    refine doH (i := 8) rfl (by kernel_rfl) (by rfl) (fun K hK => ?_)
                    have hW := HWc.out.below hE35 HWc.out.lt
                    have c8 := hW.cell 0
                    have f8 := hW.frozen 0
                    change y35.cell? _ = some (.slice (some ⟨g, o, none⟩) M ca) at c8
                    go_simp
                    have hW8 : Blk (y35.setCell ⟨w.heap.size, 0, none⟩ (.slice o6 n6 c6)) w.heap.size 44 #[.slice o6 n6 c6, .slice (some ⟨gr, oR, none⟩) M cb, .slice oc P cc] := hW.set_ 0 (.slice o6 n6 c6)
                    have hG8 : World.grownBy wa (y35.setCell ⟨w.heap.size, 0, none⟩ (.slice o6 n6 c6)) (some w.heap.size) := grown_trans (only_of_below hE35 (some w.heap.size)) (grownG_setCell y35 ⟨w.heap.size, 0, none⟩ (.slice o6 n6 c6))
                    have hO8 := hO6.grown (grownG_setCell y35 ⟨w.heap.size, 0, none⟩ (.slice o6 n6 c6)) (by cases hv : Value.ownBlock (.slice o6 n6 c6) with | none => exact .inl rfl | some q => refine .inr (fun e => ?_); have h1 := (World.ownsRow.lt hO6 q hv).1; have h2 := HWc.out.lt; injection e with e; have e3 : q = w.heap.size := e; omega)
                    refine hK.out _ _ (req_load5 ((HXc.out.below hE35 HXc.out.lt).far (p := ⟨w.heap.size, 0, none⟩) (by show w.heap.size + 1 ≠ w.heap.size; omega) (.slice o6 n6 c6))) (fun hHeld => ?_)
                    clear hK K
                    (try simp only [Act.put, List.setIfInBounds_toArray, List.set_cons_zero, List.set_cons_succ])
                    refine wpAnyH_done (by kernel_rfl) ?_ _
                    go_wp2_with fail
                    go_meet
                    exact ⟨.slice o6 n6 c6, hO8, hW8, hG8⟩
                  · have hL := sl_req (w := y31) (p := ⟨w.heap.size, 0, none⟩) ((HWc.out.below hE31 HWc.out.lt).cell 0)
                    change (loadVar 32 _).run Tryz.prog y31 = .ok (.slice (some ⟨g, o, none⟩) M ca) y31 at hL
                    go_simp
                    refine hK.out _ _ (req_load5 (HXc.out.below hE31 HXc.out.lt)) (fun hHeld => ?_)
                    clear hK K
                    (try simp only [Act.put, List.setIfInBounds_toArray, List.set_cons_zero, List.set_cons_succ])
                    clear hL
                    refine doH (i := 0) rfl (by kernel_rfl) (by rfl) (fun K hK => ?_)
                    go_simp
                    have hO := ownG_lit reqOk y31 wa.heap.size hE31.size
                    have hyA := (Below.refl _ y31).alloc (Nat.le_refl _) (.cells #[] 58)
                    have hE38 := hE31.trans (hyA.mono hE31.size)
                    change OwnG _ (y31.alloc (.cells #[] 58)) _ _ _ at hO
                    have hR := hR.below hyA
                    have hb05 : y31.heap.size ≠ b5 := by omega
                    have hb0 : y31.heap.size < (y31.alloc (.cells #[] 58)).heap.size := by simp
                    generalize y31.alloc (.cells #[] 58) = y38 at *
                    generalize y31.heap.size = b0 at *
                    have hbl : b5 < y38.heap.size := by omega
                    refine hK.out _ _ (req_load5 (HXc.out.below hE38 HXc.out.lt)) (fun hHeld => ?_)
                    clear hK K
                    (try simp only [Act.put, List.setIfInBounds_toArray, List.set_cons_zero, List.set_cons_succ])
                    refine doH (i := 3) rfl (by kernel_rfl) (by rfl) (fun K hK => ?_)
                    obtain ⟨v3, y39, hr3, hO3, hg3⟩ := append_g reqOk hO (some ⟨g, o, none⟩) M ca HLN.out (HOLD.out y38 hE38) HNIL.out (by simp; omega) hE38.size
                    have hE39 := hE38.grown hg3 hE38.size (fun j hj => (World.ownsRow.lt hO j hj).1)
                    have hR := hR.grown hg3 (fun a e => by cases e; intro e2; injection e2 with e2; have e3 : b0 = b5 := e2; omega)
                    clear hO
                    have hO := hO3
                    clear hO3
                    rw [List.nil_append] at hO
                    refine Lib.wp_append_run _ _ _ 32 32 rfl _ _ rfl rfl _ _ hr3 ?_
                    clear hr3 hg3
                    refine hK.out _ _ (req_load5 (HXc.out.below hE39 HXc.out.lt)) (fun hHeld => ?_)
                    clear hK K
                    (try simp only [Act.put, List.setIfInBounds_toArray, List.set_cons_zero, List.set_cons_succ])
                    refine doH (i := 6) rfl (by kernel_rfl) (by rfl) (fun K hK => ?_)
                    obtain ⟨v6, y40, hr6, hO6, hg6⟩ := append_g reqOk hO (some ⟨b5, 0, none⟩) 1 1 rfl hR (fun h => absurd h (by decide)) (by rw [HLN.out]; omega) hE39.size
                    have hE40 := hE39.grown hg6 hE39.size (fun j hj => (World.ownsRow.lt hO j hj).1)
                    refine Lib.wp_append_run _ _ _ 32 32 rfl _ _ rfl rfl _ _ hr6 ?_
                    clear hr6 hg6 hO
                    obtain ⟨o6, n6, c6, hv6⟩ : ∃ o n c, v6 = .slice o n c := (by obtain ⟨o, c, h, _⟩ := hO6.form reqOk; exact ⟨_, _, _, h⟩)
                    subst hv6
                    refine hK.out _ _ (req_load5 (HXc.out.below hE40 HXc.out.lt)) (fun hHeld => ?_)
                    clear hK K
                    (try simp only [Act.put, List.setIfInBounds_toArray, List.set_cons_zero, List.set_cons_succ])
                    (apply tkF [7] rfl rfl (by kernel_rfl) (fun _ _ _ h => h) (by rfl); (case hy => (intro w hSw; (try dsimp only at hSw); go_simp; try with_reducible rfl)); (case hS => assumption); (try simp only [Act.put, List.setIfInBounds_toArray, List.set_cons_zero, List.set_cons_succ]))
                    refine doH (i := 8) rfl (by kernel_rfl) (by rfl) (fun K hK => ?_)
                    have hW := HWc.out.below hE40 HWc.out.lt
                    have c8 := hW.cell 0
                    have f8 := hW.frozen 0
                    change y40.cell? _ = some (.slice (some ⟨g, o, none⟩) M ca) at c8
                    go_simp
                    have hW8 : Blk (y40.setCell ⟨w.heap.size, 0, none⟩ (.slice o6 n6 c6)) w.heap.size 44 #[.slice o6 n6 c6, .slice (some ⟨gr, oR, none⟩) M cb, .slice oc P cc] := hW.set_ 0 (.slice o6 n6 c6)
                    have hG8 : World.grownBy wa (y40.setCell ⟨w.heap.size, 0, none⟩ (.slice o6 n6 c6)) (some w.heap.size) := grown_trans (only_of_below hE40 (some w.heap.size)) (grownG_setCell y40 ⟨w.heap.size, 0, none⟩ (.slice o6 n6 c6))
                    have hO8 := hO6.grown (grownG_setCell y40 ⟨w.heap.size, 0, none⟩ (.slice o6 n6 c6)) (by cases hv : Value.ownBlock (.slice o6 n6 c6) with | none => exact .inl rfl | some q => refine .inr (fun e => ?_); have h1 := (World.ownsRow.lt hO6 q hv).1; have h2 := HWc.out.lt; injection e with e; have e3 : q = w.heap.size := e; omega)
                    refine hK.out _ _ (req_load5 ((HXc.out.below hE40 HXc.out.lt).far (p := ⟨w.heap.size, 0, none⟩) (by show w.heap.size + 1 ≠ w.heap.size; omega) (.slice o6 n6 c6))) (fun hHeld => ?_)
                    clear hK K
                    (try simp only [Act.put, List.setIfInBounds_toArray, List.set_cons_zero, List.set_cons_succ])
                    refine wpAnyH_done (by kernel_rfl) ?_ _
                    go_wp2_with fail
                    go_meet
                    exact ⟨.slice o6 n6 c6, hO8, hW8, hG8⟩
               case rest =>
                obtain ⟨va, hO, hW, hG⟩ := hcut
                obtain ⟨na, ra, cra, hva⟩ : ∃ o n c, va = .slice o n c := (by obtain ⟨o, c, h, _⟩ := hO.form reqOk; exact ⟨_, _, _, h⟩)
                subst hva
                have HOa := Lib.hid hO
                have HK0b := Lib.hid hW
                have HK2b := Lib.hid (HK2a.out.grown hG (fun e => by injection e; omega))
                have HK3b := Lib.hid (HK3a.out.grown hG (fun e => by injection e; omega))
                have HQb := Lib.hid (HQa.out.grown hG (fun e => by injection e; omega))
                have HBb := Lib.hid (HBa.out.grown hG HBa.out.size (fun j hj => by injection hj; omega))
                have hsz := hG.size
                have hlw := HK3a.out.lt
                clear hO hW hG HWc HXc HLN HOLD HNIL HK0a HK1a HK2a HK3a HQa HBa
                obtain ⟨ba, hba⟩ : ∃ ba, wa.heap.size = ba := ⟨_, rfl⟩
                rw [hba] at HOa hsz hlw
                clear hba
                generalize wc = wb at *
                have HWc := HK0b
                have HXc := HQb
                have HLN := Lib.hid HM.out
                have HOLD : Hid (∀ W, Below wb.heap.size wb W → RowG repK W (some ⟨gr, oR, none⟩) rp) := Lib.hid fun W hW => HB.out.below (HBb.out.trans (hW.mono HBb.out.size))
                have HNIL : Hid (M = 0 → (some ⟨gr, oR, none⟩ : Option Addr) = none → cb = 0) := Lib.hid fun _ => hob
                go_upto_region 20 with fail
                go_cut [] from 94 to 101 (fun wx => ∃ vd, OwnG repK wx wb.heap.size vd (rp ++ [(⟨0, M, (P : Int) + 1⟩ : Rep)]) ∧ Blk wx w.heap.size 44 #[.slice na ra cra, vd, .slice oc P cc] ∧ World.grownBy wb wx (some w.heap.size))
                case first =>
                 refine wp_region_held_drew (S := fun W => (loadVar 35 ⟨gq, 0, none⟩).run Tryz.prog W = .ok (.agg #[.int .i64 0, .int .i64 M, .int .i64 ((P : Int) + 1)]) W) (by kernel_rfl) ?_ (fun hHeld0 => ?_)
                 · exact rep_load3 (HXc.out.below ((Below.refl _ _).drew) HXc.out.lt)
                 have hE0 : Below wb.heap.size wb wb.drew := (Below.refl _ _).drew
                 generalize wb.drew = y0 at *
                 iterate 2 (apply tkF [1, 4] rfl rfl (by kernel_rfl) (fun _ _ _ h => h) (by rfl); (case hy => (intro w hSw; (try dsimp only at hSw); go_simp; try with_reducible rfl)); (case hS => assumption); (try simp only [Act.put, List.setIfInBounds_toArray, List.set_cons_zero, List.set_cons_succ]))
                 refine doH3 (i := 0) (j := 2) (k := 5) rfl rfl rfl (by kernel_rfl) (by rfl) (by rfl) (by rfl) (fun K hK => ?_) (fun K hK => ?_) (fun K hK => ?_)
                 · go_simp
                   have hO := ownG_lit repOk y0 wb.heap.size hE0.size
                   have hyA := (Below.refl _ y0).alloc (Nat.le_refl _) (.cells #[] 35)
                   have hE1 := hE0.trans (hyA.mono hE0.size)
                   change OwnG _ (y0.alloc (.cells #[] 35)) _ _ _ at hO
                   have hb0 : y0.heap.size < (y0.alloc (.cells #[] 35)).heap.size := by simp
                   generalize y0.alloc (.cells #[] 35) = y1 at *
                   generalize y0.heap.size = b0 at *
                   refine hK.out _ _ (rep_load3 (HXc.out.below hE1 HXc.out.lt)) (fun hHeld => ?_)
                   clear hK K
                   (try simp only [Act.put, List.setIfInBounds_toArray, List.set_cons_zero, List.set_cons_succ])
                   refine doH2 (i := 2) (j := 5) rfl rfl (by kernel_rfl) (by rfl) (by rfl) (fun K hK => ?_) (fun K hK => ?_)
                   · have hL := sl_rep (w := y1) (p := ⟨w.heap.size, 1, none⟩) ((HWc.out.below hE1 HWc.out.lt).cell 1)
                     change (loadVar 42 _).run Tryz.prog y1 = .ok (.slice (some ⟨gr, oR, none⟩) M cb) y1 at hL
                     go_simp
                     refine hK.out _ _ (rep_load3 (HXc.out.below hE1 HXc.out.lt)) (fun hHeld => ?_)
                     clear hK K
                     (try simp only [Act.put, List.setIfInBounds_toArray, List.set_cons_zero, List.set_cons_succ])
                     clear hL
                     refine doH2 (i := 3) (j := 5) rfl rfl (by kernel_rfl) (by rfl) (by rfl) (fun K hK => ?_) (fun K hK => ?_)
                     · obtain ⟨v3, y3, hr3, hO3, hg3⟩ := append_g repOk hO (some ⟨gr, oR, none⟩) M cb HLN.out (HOLD.out y1 hE1) HNIL.out (by simp; omega) hE1.size
                       have hE3 := hE1.grown hg3 hE1.size (fun j hj => (World.ownsRow.lt hO j hj).1)
                       clear hO
                       have hO := hO3
                       clear hO3
                       rw [List.nil_append] at hO
                       refine Lib.wp_append_run _ _ _ 42 42 rfl _ _ rfl rfl _ _ hr3 ?_
                       clear hr3 hg3
                       refine hK.out _ _ (rep_load3 (HXc.out.below hE3 HXc.out.lt)) (fun hHeld => ?_)
                       clear hK K
                       (try simp only [Act.put, List.setIfInBounds_toArray, List.set_cons_zero, List.set_cons_succ])
                       refine doH (i := 5) rfl (by kernel_rfl) (by rfl) (fun K hK => ?_)
                       go_simp
                       have hR := rowG_new repOk y3 (⟨0, M, (P : Int) + 1⟩ : Rep)
                       have hyA := (Below.refl _ y3).alloc (Nat.le_refl _) (.cells #[.int .i64 0, .int .i64 M, .int .i64 ((P : Int) + 1)] 35)
                       have hE4 := hE3.trans (hyA.mono hE3.size)
                       change RowG _ (y3.alloc (.cells #[.int .i64 0, .int .i64 M, .int .i64 ((P : Int) + 1)] 35)) _ _ at hR
                       have hO := hO.below hyA
                       have hbl : y3.heap.size < (y3.alloc (.cells #[.int .i64 0, .int .i64 M, .int .i64 ((P : Int) + 1)] 35)).heap.size := by simp
                       generalize y3.alloc (.cells #[.int .i64 0, .int .i64 M, .int .i64 ((P : Int) + 1)] 35) = y4 at *
                       generalize y3.heap.size = b5 at *
                       refine hK.out _ _ (rep_load3 (HXc.out.below hE4 HXc.out.lt)) (fun hHeld => ?_)
                       clear hK K
                       (try simp only [Act.put, List.setIfInBounds_toArray, List.set_cons_zero, List.set_cons_succ])
                       refine doH (i := 6) rfl (by kernel_rfl) (by rfl) (fun K hK => ?_)
                       obtain ⟨v6, y5, hr6, hO6, hg6⟩ := append_g repOk hO (some ⟨b5, 0, none⟩) 1 1 rfl hR (fun h => absurd h (by decide)) (by rw [HLN.out]; omega) hE4.size
                       have hE5 := hE4.grown hg6 hE4.size (fun j hj => (World.ownsRow.lt hO j hj).1)
                       refine Lib.wp_append_run _ _ _ 42 42 rfl _ _ rfl rfl _ _ hr6 ?_
                       clear hr6 hg6 hO
                       obtain ⟨o6, n6, c6, hv6⟩ : ∃ o n c, v6 = .slice o n c := (by obtain ⟨o, c, h, _⟩ := hO6.form repOk; exact ⟨_, _, _, h⟩)
                       subst hv6
                       refine hK.out _ _ (rep_load3 (HXc.out.below hE5 HXc.out.lt)) (fun hHeld => ?_)
                       clear hK K
                       (try simp only [Act.put, List.setIfInBounds_toArray, List.set_cons_zero, List.set_cons_succ])
                       (apply tkF [7] rfl rfl (by kernel_rfl) (fun _ _ _ h => h) (by rfl); (case hy => (intro w hSw; (try dsimp only at hSw); go_simp; try with_reducible rfl)); (case hS => assumption); (try simp only [Act.put, List.setIfInBounds_toArray, List.set_cons_zero, List.set_cons_succ]))
                       refine doH (i := 8) rfl (by kernel_rfl) (by rfl) (fun K hK => ?_)
                       have hW := HWc.out.below hE5 HWc.out.lt
                       have c8 := hW.cell 1
                       have f8 := hW.frozen 1
                       change y5.cell? _ = some (.slice (some ⟨gr, oR, none⟩) M cb) at c8
                       go_simp
                       have hW8 : Blk (y5.setCell ⟨w.heap.size, 1, none⟩ (.slice o6 n6 c6)) w.heap.size 44 #[.slice na ra cra, .slice o6 n6 c6, .slice oc P cc] := hW.set_ 1 (.slice o6 n6 c6)
                       have hG8 : World.grownBy wb (y5.setCell ⟨w.heap.size, 1, none⟩ (.slice o6 n6 c6)) (some w.heap.size) := grown_trans (only_of_below hE5 (some w.heap.size)) (grownG_setCell y5 ⟨w.heap.size, 1, none⟩ (.slice o6 n6 c6))
                       have hO8 := hO6.grown (grownG_setCell y5 ⟨w.heap.size, 1, none⟩ (.slice o6 n6 c6)) (by cases hv : Value.ownBlock (.slice o6 n6 c6) with | none => exact .inl rfl | some q => refine .inr (fun e => ?_); have h1 := (World.ownsRow.lt hO6 q hv).1; have h2 := HWc.out.lt; injection e with e; have e3 : q = w.heap.size := e; omega)
                       refine hK.out _ _ (rep_load3 ((HXc.out.below hE5 HXc.out.lt).far (p := ⟨w.heap.size, 1, none⟩) (by show gq ≠ w.heap.size; omega) (.slice o6 n6 c6))) (fun hHeld => ?_)
                       clear hK K
                       (try simp only [Act.put, List.setIfInBounds_toArray, List.set_cons_zero, List.set_cons_succ])
                       refine wpAnyH_done (by kernel_rfl) ?_ _
                       go_wp2_with fail
                       go_meet
                       exact ⟨.slice o6 n6 c6, hO8, hW8, hG8⟩
                     · go_simp
                       have hR := rowG_new repOk y1 (⟨0, M, (P : Int) + 1⟩ : Rep)
                       have hyA := (Below.refl _ y1).alloc (Nat.le_refl _) (.cells #[.int .i64 0, .int .i64 M, .int .i64 ((P : Int) + 1)] 35)
                       have hE7 := hE1.trans (hyA.mono hE1.size)
                       change RowG _ (y1.alloc (.cells #[.int .i64 0, .int .i64 M, .int .i64 ((P : Int) + 1)] 35)) _ _ at hR
                       have hO := hO.below hyA
                       have hb05 : b0 ≠ y1.heap.size := by omega
                       have hbl : y1.heap.size < (y1.alloc (.cells #[.int .i64 0, .int .i64 M, .int .i64 ((P : Int) + 1)] 35)).heap.size := by simp
                       generalize y1.alloc (.cells #[.int .i64 0, .int .i64 M, .int .i64 ((P : Int) + 1)] 35) = y7 at *
                       generalize y1.heap.size = b5 at *
                       refine hK.out _ _ (rep_load3 (HXc.out.below hE7 HXc.out.lt)) (fun hHeld => ?_)
                       clear hK K
                       (try simp only [Act.put, List.setIfInBounds_toArray, List.set_cons_zero, List.set_cons_succ])
                       refine doH (i := 3) rfl (by kernel_rfl) (by rfl) (fun K hK => ?_)
                       obtain ⟨v3, y8, hr3, hO3, hg3⟩ := append_g repOk hO (some ⟨gr, oR, none⟩) M cb HLN.out (HOLD.out y7 hE7) HNIL.out (by simp; omega) hE7.size
                       have hE8 := hE7.grown hg3 hE7.size (fun j hj => (World.ownsRow.lt hO j hj).1)
                       have hR := hR.grown hg3 (fun a e => by cases e; intro e2; injection e2 with e2; have e3 : b0 = b5 := e2; omega)
                       clear hO
                       have hO := hO3
                       clear hO3
                       rw [List.nil_append] at hO
                       refine Lib.wp_append_run _ _ _ 42 42 rfl _ _ rfl rfl _ _ hr3 ?_
                       clear hr3 hg3
                       refine hK.out _ _ (rep_load3 (HXc.out.below hE8 HXc.out.lt)) (fun hHeld => ?_)
                       clear hK K
                       (try simp only [Act.put, List.setIfInBounds_toArray, List.set_cons_zero, List.set_cons_succ])
                       refine doH (i := 6) rfl (by kernel_rfl) (by rfl) (fun K hK => ?_)
                       obtain ⟨v6, y9, hr6, hO6, hg6⟩ := append_g repOk hO (some ⟨b5, 0, none⟩) 1 1 rfl hR (fun h => absurd h (by decide)) (by rw [HLN.out]; omega) hE8.size
                       have hE9 := hE8.grown hg6 hE8.size (fun j hj => (World.ownsRow.lt hO j hj).1)
                       refine Lib.wp_append_run _ _ _ 42 42 rfl _ _ rfl rfl _ _ hr6 ?_
                       clear hr6 hg6 hO
                       obtain ⟨o6, n6, c6, hv6⟩ : ∃ o n c, v6 = .slice o n c := (by obtain ⟨o, c, h, _⟩ := hO6.form repOk; exact ⟨_, _, _, h⟩)
                       subst hv6
                       refine hK.out _ _ (rep_load3 (HXc.out.below hE9 HXc.out.lt)) (fun hHeld => ?_)
                       clear hK K
                       (try simp only [Act.put, List.setIfInBounds_toArray, List.set_cons_zero, List.set_cons_succ])
                       (apply tkF [7] rfl rfl (by kernel_rfl) (fun _ _ _ h => h) (by rfl); (case hy => (intro w hSw; (try dsimp only at hSw); go_simp; try with_reducible rfl)); (case hS => assumption); (try simp only [Act.put, List.setIfInBounds_toArray, List.set_cons_zero, List.set_cons_succ]))
                       refine doH (i := 8) rfl (by kernel_rfl) (by rfl) (fun K hK => ?_)
                       have hW := HWc.out.below hE9 HWc.out.lt
                       have c8 := hW.cell 1
                       have f8 := hW.frozen 1
                       change y9.cell? _ = some (.slice (some ⟨gr, oR, none⟩) M cb) at c8
                       go_simp
                       have hW8 : Blk (y9.setCell ⟨w.heap.size, 1, none⟩ (.slice o6 n6 c6)) w.heap.size 44 #[.slice na ra cra, .slice o6 n6 c6, .slice oc P cc] := hW.set_ 1 (.slice o6 n6 c6)
                       have hG8 : World.grownBy wb (y9.setCell ⟨w.heap.size, 1, none⟩ (.slice o6 n6 c6)) (some w.heap.size) := grown_trans (only_of_below hE9 (some w.heap.size)) (grownG_setCell y9 ⟨w.heap.size, 1, none⟩ (.slice o6 n6 c6))
                       have hO8 := hO6.grown (grownG_setCell y9 ⟨w.heap.size, 1, none⟩ (.slice o6 n6 c6)) (by cases hv : Value.ownBlock (.slice o6 n6 c6) with | none => exact .inl rfl | some q => refine .inr (fun e => ?_); have h1 := (World.ownsRow.lt hO6 q hv).1; have h2 := HWc.out.lt; injection e with e; have e3 : q = w.heap.size := e; omega)
                       refine hK.out _ _ (rep_load3 ((HXc.out.below hE9 HXc.out.lt).far (p := ⟨w.heap.size, 1, none⟩) (by show gq ≠ w.heap.size; omega) (.slice o6 n6 c6))) (fun hHeld => ?_)
                       clear hK K
                       (try simp only [Act.put, List.setIfInBounds_toArray, List.set_cons_zero, List.set_cons_succ])
                       refine wpAnyH_done (by kernel_rfl) ?_ _
                       go_wp2_with fail
                       go_meet
                       exact ⟨.slice o6 n6 c6, hO8, hW8, hG8⟩
                   · go_simp
                     have hR := rowG_new repOk y1 (⟨0, M, (P : Int) + 1⟩ : Rep)
                     have hyA := (Below.refl _ y1).alloc (Nat.le_refl _) (.cells #[.int .i64 0, .int .i64 M, .int .i64 ((P : Int) + 1)] 35)
                     have hE11 := hE1.trans (hyA.mono hE1.size)
                     change RowG _ (y1.alloc (.cells #[.int .i64 0, .int .i64 M, .int .i64 ((P : Int) + 1)] 35)) _ _ at hR
                     have hO := hO.below hyA
                     have hb05 : b0 ≠ y1.heap.size := by omega
                     have hbl : y1.heap.size < (y1.alloc (.cells #[.int .i64 0, .int .i64 M, .int .i64 ((P : Int) + 1)] 35)).heap.size := by simp
                     generalize y1.alloc (.cells #[.int .i64 0, .int .i64 M, .int .i64 ((P : Int) + 1)] 35) = y11 at *
                     generalize y1.heap.size = b5 at *
                     refine hK.out _ _ (rep_load3 (HXc.out.below hE11 HXc.out.lt)) (fun hHeld => ?_)
                     clear hK K
                     (try simp only [Act.put, List.setIfInBounds_toArray, List.set_cons_zero, List.set_cons_succ])
                     refine doH (i := 2) rfl (by kernel_rfl) (by rfl) (fun K hK => ?_)
                     have hL := sl_rep (w := y11) (p := ⟨w.heap.size, 1, none⟩) ((HWc.out.below hE11 HWc.out.lt).cell 1)
                     change (loadVar 42 _).run Tryz.prog y11 = .ok (.slice (some ⟨gr, oR, none⟩) M cb) y11 at hL
                     go_simp
                     refine hK.out _ _ (rep_load3 (HXc.out.below hE11 HXc.out.lt)) (fun hHeld => ?_)
                     clear hK K
                     (try simp only [Act.put, List.setIfInBounds_toArray, List.set_cons_zero, List.set_cons_succ])
                     clear hL
                     refine doH (i := 3) rfl (by kernel_rfl) (by rfl) (fun K hK => ?_)
                     obtain ⟨v3, y13, hr3, hO3, hg3⟩ := append_g repOk hO (some ⟨gr, oR, none⟩) M cb HLN.out (HOLD.out y11 hE11) HNIL.out (by simp; omega) hE11.size
                     have hE13 := hE11.grown hg3 hE11.size (fun j hj => (World.ownsRow.lt hO j hj).1)
                     have hR := hR.grown hg3 (fun a e => by cases e; intro e2; injection e2 with e2; have e3 : b0 = b5 := e2; omega)
                     clear hO
                     have hO := hO3
                     clear hO3
                     rw [List.nil_append] at hO
                     refine Lib.wp_append_run _ _ _ 42 42 rfl _ _ rfl rfl _ _ hr3 ?_
                     clear hr3 hg3
                     refine hK.out _ _ (rep_load3 (HXc.out.below hE13 HXc.out.lt)) (fun hHeld => ?_)
                     clear hK K
                     (try simp only [Act.put, List.setIfInBounds_toArray, List.set_cons_zero, List.set_cons_succ])
                     refine doH (i := 6) rfl (by kernel_rfl) (by rfl) (fun K hK => ?_)
                     obtain ⟨v6, y14, hr6, hO6, hg6⟩ := append_g repOk hO (some ⟨b5, 0, none⟩) 1 1 rfl hR (fun h => absurd h (by decide)) (by rw [HLN.out]; omega) hE13.size
                     have hE14 := hE13.grown hg6 hE13.size (fun j hj => (World.ownsRow.lt hO j hj).1)
                     refine Lib.wp_append_run _ _ _ 42 42 rfl _ _ rfl rfl _ _ hr6 ?_
                     clear hr6 hg6 hO
                     obtain ⟨o6, n6, c6, hv6⟩ : ∃ o n c, v6 = .slice o n c := (by obtain ⟨o, c, h, _⟩ := hO6.form repOk; exact ⟨_, _, _, h⟩)
                     subst hv6
                     refine hK.out _ _ (rep_load3 (HXc.out.below hE14 HXc.out.lt)) (fun hHeld => ?_)
                     clear hK K
                     (try simp only [Act.put, List.setIfInBounds_toArray, List.set_cons_zero, List.set_cons_succ])
                     (apply tkF [7] rfl rfl (by kernel_rfl) (fun _ _ _ h => h) (by rfl); (case hy => (intro w hSw; (try dsimp only at hSw); go_simp; try with_reducible rfl)); (case hS => assumption); (try simp only [Act.put, List.setIfInBounds_toArray, List.set_cons_zero, List.set_cons_succ]))
                     refine doH (i := 8) rfl (by kernel_rfl) (by rfl) (fun K hK => ?_)
                     have hW := HWc.out.below hE14 HWc.out.lt
                     have c8 := hW.cell 1
                     have f8 := hW.frozen 1
                     change y14.cell? _ = some (.slice (some ⟨gr, oR, none⟩) M cb) at c8
                     go_simp
                     have hW8 : Blk (y14.setCell ⟨w.heap.size, 1, none⟩ (.slice o6 n6 c6)) w.heap.size 44 #[.slice na ra cra, .slice o6 n6 c6, .slice oc P cc] := hW.set_ 1 (.slice o6 n6 c6)
                     have hG8 : World.grownBy wb (y14.setCell ⟨w.heap.size, 1, none⟩ (.slice o6 n6 c6)) (some w.heap.size) := grown_trans (only_of_below hE14 (some w.heap.size)) (grownG_setCell y14 ⟨w.heap.size, 1, none⟩ (.slice o6 n6 c6))
                     have hO8 := hO6.grown (grownG_setCell y14 ⟨w.heap.size, 1, none⟩ (.slice o6 n6 c6)) (by cases hv : Value.ownBlock (.slice o6 n6 c6) with | none => exact .inl rfl | some q => refine .inr (fun e => ?_); have h1 := (World.ownsRow.lt hO6 q hv).1; have h2 := HWc.out.lt; injection e with e; have e3 : q = w.heap.size := e; omega)
                     refine hK.out _ _ (rep_load3 ((HXc.out.below hE14 HXc.out.lt).far (p := ⟨w.heap.size, 1, none⟩) (by show gq ≠ w.heap.size; omega) (.slice o6 n6 c6))) (fun hHeld => ?_)
                     clear hK K
                     (try simp only [Act.put, List.setIfInBounds_toArray, List.set_cons_zero, List.set_cons_succ])
                     refine wpAnyH_done (by kernel_rfl) ?_ _
                     go_wp2_with fail
                     go_meet
                     exact ⟨.slice o6 n6 c6, hO8, hW8, hG8⟩
                 · have hL := sl_rep (w := y0) (p := ⟨w.heap.size, 1, none⟩) ((HWc.out.below hE0 HWc.out.lt).cell 1)
                   change (loadVar 42 _).run Tryz.prog y0 = .ok (.slice (some ⟨gr, oR, none⟩) M cb) y0 at hL
                   go_simp
                   refine hK.out _ _ (rep_load3 (HXc.out.below hE0 HXc.out.lt)) (fun hHeld => ?_)
                   clear hK K
                   (try simp only [Act.put, List.setIfInBounds_toArray, List.set_cons_zero, List.set_cons_succ])
                   clear hL
                   refine doH2 (i := 0) (j := 5) rfl rfl (by kernel_rfl) (by rfl) (by rfl) (fun K hK => ?_) (fun K hK => ?_)
                   · go_simp
                     have hO := ownG_lit repOk y0 wb.heap.size hE0.size
                     have hyA := (Below.refl _ y0).alloc (Nat.le_refl _) (.cells #[] 35)
                     have hE17 := hE0.trans (hyA.mono hE0.size)
                     change OwnG _ (y0.alloc (.cells #[] 35)) _ _ _ at hO
                     have hb0 : y0.heap.size < (y0.alloc (.cells #[] 35)).heap.size := by simp
                     generalize y0.alloc (.cells #[] 35) = y17 at *
                     generalize y0.heap.size = b0 at *
                     refine hK.out _ _ (rep_load3 (HXc.out.below hE17 HXc.out.lt)) (fun hHeld => ?_)
                     clear hK K
                     (try simp only [Act.put, List.setIfInBounds_toArray, List.set_cons_zero, List.set_cons_succ])
                     refine doH2 (i := 3) (j := 5) rfl rfl (by kernel_rfl) (by rfl) (by rfl) (fun K hK => ?_) (fun K hK => ?_)
                     · obtain ⟨v3, y18, hr3, hO3, hg3⟩ := append_g repOk hO (some ⟨gr, oR, none⟩) M cb HLN.out (HOLD.out y17 hE17) HNIL.out (by simp; omega) hE17.size
                       have hE18 := hE17.grown hg3 hE17.size (fun j hj => (World.ownsRow.lt hO j hj).1)
                       clear hO
                       have hO := hO3
                       clear hO3
                       rw [List.nil_append] at hO
                       refine Lib.wp_append_run _ _ _ 42 42 rfl _ _ rfl rfl _ _ hr3 ?_
                       clear hr3 hg3
                       refine hK.out _ _ (rep_load3 (HXc.out.below hE18 HXc.out.lt)) (fun hHeld => ?_)
                       clear hK K
                       (try simp only [Act.put, List.setIfInBounds_toArray, List.set_cons_zero, List.set_cons_succ])
                       refine doH (i := 5) rfl (by kernel_rfl) (by rfl) (fun K hK => ?_)
                       go_simp
                       have hR := rowG_new repOk y18 (⟨0, M, (P : Int) + 1⟩ : Rep)
                       have hyA := (Below.refl _ y18).alloc (Nat.le_refl _) (.cells #[.int .i64 0, .int .i64 M, .int .i64 ((P : Int) + 1)] 35)
                       have hE19 := hE18.trans (hyA.mono hE18.size)
                       change RowG _ (y18.alloc (.cells #[.int .i64 0, .int .i64 M, .int .i64 ((P : Int) + 1)] 35)) _ _ at hR
                       have hO := hO.below hyA
                       have hbl : y18.heap.size < (y18.alloc (.cells #[.int .i64 0, .int .i64 M, .int .i64 ((P : Int) + 1)] 35)).heap.size := by simp
                       generalize y18.alloc (.cells #[.int .i64 0, .int .i64 M, .int .i64 ((P : Int) + 1)] 35) = y19 at *
                       generalize y18.heap.size = b5 at *
                       refine hK.out _ _ (rep_load3 (HXc.out.below hE19 HXc.out.lt)) (fun hHeld => ?_)
                       clear hK K
                       (try simp only [Act.put, List.setIfInBounds_toArray, List.set_cons_zero, List.set_cons_succ])
                       refine doH (i := 6) rfl (by kernel_rfl) (by rfl) (fun K hK => ?_)
                       obtain ⟨v6, y20, hr6, hO6, hg6⟩ := append_g repOk hO (some ⟨b5, 0, none⟩) 1 1 rfl hR (fun h => absurd h (by decide)) (by rw [HLN.out]; omega) hE19.size
                       have hE20 := hE19.grown hg6 hE19.size (fun j hj => (World.ownsRow.lt hO j hj).1)
                       refine Lib.wp_append_run _ _ _ 42 42 rfl _ _ rfl rfl _ _ hr6 ?_
                       clear hr6 hg6 hO
                       obtain ⟨o6, n6, c6, hv6⟩ : ∃ o n c, v6 = .slice o n c := (by obtain ⟨o, c, h, _⟩ := hO6.form repOk; exact ⟨_, _, _, h⟩)
                       subst hv6
                       refine hK.out _ _ (rep_load3 (HXc.out.below hE20 HXc.out.lt)) (fun hHeld => ?_)
                       clear hK K
                       (try simp only [Act.put, List.setIfInBounds_toArray, List.set_cons_zero, List.set_cons_succ])
                       (apply tkF [7] rfl rfl (by kernel_rfl) (fun _ _ _ h => h) (by rfl); (case hy => (intro w hSw; (try dsimp only at hSw); go_simp; try with_reducible rfl)); (case hS => assumption); (try simp only [Act.put, List.setIfInBounds_toArray, List.set_cons_zero, List.set_cons_succ]))
                       refine doH (i := 8) rfl (by kernel_rfl) (by rfl) (fun K hK => ?_)
                       have hW := HWc.out.below hE20 HWc.out.lt
                       have c8 := hW.cell 1
                       have f8 := hW.frozen 1
                       change y20.cell? _ = some (.slice (some ⟨gr, oR, none⟩) M cb) at c8
                       go_simp
                       have hW8 : Blk (y20.setCell ⟨w.heap.size, 1, none⟩ (.slice o6 n6 c6)) w.heap.size 44 #[.slice na ra cra, .slice o6 n6 c6, .slice oc P cc] := hW.set_ 1 (.slice o6 n6 c6)
                       have hG8 : World.grownBy wb (y20.setCell ⟨w.heap.size, 1, none⟩ (.slice o6 n6 c6)) (some w.heap.size) := grown_trans (only_of_below hE20 (some w.heap.size)) (grownG_setCell y20 ⟨w.heap.size, 1, none⟩ (.slice o6 n6 c6))
                       have hO8 := hO6.grown (grownG_setCell y20 ⟨w.heap.size, 1, none⟩ (.slice o6 n6 c6)) (by cases hv : Value.ownBlock (.slice o6 n6 c6) with | none => exact .inl rfl | some q => refine .inr (fun e => ?_); have h1 := (World.ownsRow.lt hO6 q hv).1; have h2 := HWc.out.lt; injection e with e; have e3 : q = w.heap.size := e; omega)
                       refine hK.out _ _ (rep_load3 ((HXc.out.below hE20 HXc.out.lt).far (p := ⟨w.heap.size, 1, none⟩) (by show gq ≠ w.heap.size; omega) (.slice o6 n6 c6))) (fun hHeld => ?_)
                       clear hK K
                       (try simp only [Act.put, List.setIfInBounds_toArray, List.set_cons_zero, List.set_cons_succ])
                       refine wpAnyH_done (by kernel_rfl) ?_ _
                       go_wp2_with fail
                       go_meet
                       exact ⟨.slice o6 n6 c6, hO8, hW8, hG8⟩
                     · go_simp
                       have hR := rowG_new repOk y17 (⟨0, M, (P : Int) + 1⟩ : Rep)
                       have hyA := (Below.refl _ y17).alloc (Nat.le_refl _) (.cells #[.int .i64 0, .int .i64 M, .int .i64 ((P : Int) + 1)] 35)
                       have hE22 := hE17.trans (hyA.mono hE17.size)
                       change RowG _ (y17.alloc (.cells #[.int .i64 0, .int .i64 M, .int .i64 ((P : Int) + 1)] 35)) _ _ at hR
                       have hO := hO.below hyA
                       have hb05 : b0 ≠ y17.heap.size := by omega
                       have hbl : y17.heap.size < (y17.alloc (.cells #[.int .i64 0, .int .i64 M, .int .i64 ((P : Int) + 1)] 35)).heap.size := by simp
                       generalize y17.alloc (.cells #[.int .i64 0, .int .i64 M, .int .i64 ((P : Int) + 1)] 35) = y22 at *
                       generalize y17.heap.size = b5 at *
                       refine hK.out _ _ (rep_load3 (HXc.out.below hE22 HXc.out.lt)) (fun hHeld => ?_)
                       clear hK K
                       (try simp only [Act.put, List.setIfInBounds_toArray, List.set_cons_zero, List.set_cons_succ])
                       refine doH (i := 3) rfl (by kernel_rfl) (by rfl) (fun K hK => ?_)
                       obtain ⟨v3, y23, hr3, hO3, hg3⟩ := append_g repOk hO (some ⟨gr, oR, none⟩) M cb HLN.out (HOLD.out y22 hE22) HNIL.out (by simp; omega) hE22.size
                       have hE23 := hE22.grown hg3 hE22.size (fun j hj => (World.ownsRow.lt hO j hj).1)
                       have hR := hR.grown hg3 (fun a e => by cases e; intro e2; injection e2 with e2; have e3 : b0 = b5 := e2; omega)
                       clear hO
                       have hO := hO3
                       clear hO3
                       rw [List.nil_append] at hO
                       refine Lib.wp_append_run _ _ _ 42 42 rfl _ _ rfl rfl _ _ hr3 ?_
                       clear hr3 hg3
                       refine hK.out _ _ (rep_load3 (HXc.out.below hE23 HXc.out.lt)) (fun hHeld => ?_)
                       clear hK K
                       (try simp only [Act.put, List.setIfInBounds_toArray, List.set_cons_zero, List.set_cons_succ])
                       refine doH (i := 6) rfl (by kernel_rfl) (by rfl) (fun K hK => ?_)
                       obtain ⟨v6, y24, hr6, hO6, hg6⟩ := append_g repOk hO (some ⟨b5, 0, none⟩) 1 1 rfl hR (fun h => absurd h (by decide)) (by rw [HLN.out]; omega) hE23.size
                       have hE24 := hE23.grown hg6 hE23.size (fun j hj => (World.ownsRow.lt hO j hj).1)
                       refine Lib.wp_append_run _ _ _ 42 42 rfl _ _ rfl rfl _ _ hr6 ?_
                       clear hr6 hg6 hO
                       obtain ⟨o6, n6, c6, hv6⟩ : ∃ o n c, v6 = .slice o n c := (by obtain ⟨o, c, h, _⟩ := hO6.form repOk; exact ⟨_, _, _, h⟩)
                       subst hv6
                       refine hK.out _ _ (rep_load3 (HXc.out.below hE24 HXc.out.lt)) (fun hHeld => ?_)
                       clear hK K
                       (try simp only [Act.put, List.setIfInBounds_toArray, List.set_cons_zero, List.set_cons_succ])
                       (apply tkF [7] rfl rfl (by kernel_rfl) (fun _ _ _ h => h) (by rfl); (case hy => (intro w hSw; (try dsimp only at hSw); go_simp; try with_reducible rfl)); (case hS => assumption); (try simp only [Act.put, List.setIfInBounds_toArray, List.set_cons_zero, List.set_cons_succ]))
                       refine doH (i := 8) rfl (by kernel_rfl) (by rfl) (fun K hK => ?_)
                       have hW := HWc.out.below hE24 HWc.out.lt
                       have c8 := hW.cell 1
                       have f8 := hW.frozen 1
                       change y24.cell? _ = some (.slice (some ⟨gr, oR, none⟩) M cb) at c8
                       go_simp
                       have hW8 : Blk (y24.setCell ⟨w.heap.size, 1, none⟩ (.slice o6 n6 c6)) w.heap.size 44 #[.slice na ra cra, .slice o6 n6 c6, .slice oc P cc] := hW.set_ 1 (.slice o6 n6 c6)
                       have hG8 : World.grownBy wb (y24.setCell ⟨w.heap.size, 1, none⟩ (.slice o6 n6 c6)) (some w.heap.size) := grown_trans (only_of_below hE24 (some w.heap.size)) (grownG_setCell y24 ⟨w.heap.size, 1, none⟩ (.slice o6 n6 c6))
                       have hO8 := hO6.grown (grownG_setCell y24 ⟨w.heap.size, 1, none⟩ (.slice o6 n6 c6)) (by cases hv : Value.ownBlock (.slice o6 n6 c6) with | none => exact .inl rfl | some q => refine .inr (fun e => ?_); have h1 := (World.ownsRow.lt hO6 q hv).1; have h2 := HWc.out.lt; injection e with e; have e3 : q = w.heap.size := e; omega)
                       refine hK.out _ _ (rep_load3 ((HXc.out.below hE24 HXc.out.lt).far (p := ⟨w.heap.size, 1, none⟩) (by show gq ≠ w.heap.size; omega) (.slice o6 n6 c6))) (fun hHeld => ?_)
                       clear hK K
                       (try simp only [Act.put, List.setIfInBounds_toArray, List.set_cons_zero, List.set_cons_succ])
                       refine wpAnyH_done (by kernel_rfl) ?_ _
                       go_wp2_with fail
                       go_meet
                       exact ⟨.slice o6 n6 c6, hO8, hW8, hG8⟩
                   · go_simp
                     have hR := rowG_new repOk y0 (⟨0, M, (P : Int) + 1⟩ : Rep)
                     have hyA := (Below.refl _ y0).alloc (Nat.le_refl _) (.cells #[.int .i64 0, .int .i64 M, .int .i64 ((P : Int) + 1)] 35)
                     have hE26 := hE0.trans (hyA.mono hE0.size)
                     change RowG _ (y0.alloc (.cells #[.int .i64 0, .int .i64 M, .int .i64 ((P : Int) + 1)] 35)) _ _ at hR
                     have hbl : y0.heap.size < (y0.alloc (.cells #[.int .i64 0, .int .i64 M, .int .i64 ((P : Int) + 1)] 35)).heap.size := by simp
                     generalize y0.alloc (.cells #[.int .i64 0, .int .i64 M, .int .i64 ((P : Int) + 1)] 35) = y26 at *
                     generalize y0.heap.size = b5 at *
                     refine hK.out _ _ (rep_load3 (HXc.out.below hE26 HXc.out.lt)) (fun hHeld => ?_)
                     clear hK K
                     (try simp only [Act.put, List.setIfInBounds_toArray, List.set_cons_zero, List.set_cons_succ])
                     refine doH (i := 0) rfl (by kernel_rfl) (by rfl) (fun K hK => ?_)
                     go_simp
                     have hO := ownG_lit repOk y26 wb.heap.size hE26.size
                     have hyA := (Below.refl _ y26).alloc (Nat.le_refl _) (.cells #[] 35)
                     have hE27 := hE26.trans (hyA.mono hE26.size)
                     change OwnG _ (y26.alloc (.cells #[] 35)) _ _ _ at hO
                     have hR := hR.below hyA
                     have hb05 : y26.heap.size ≠ b5 := by omega
                     have hb0 : y26.heap.size < (y26.alloc (.cells #[] 35)).heap.size := by simp
                     generalize y26.alloc (.cells #[] 35) = y27 at *
                     generalize y26.heap.size = b0 at *
                     have hbl : b5 < y27.heap.size := by omega
                     refine hK.out _ _ (rep_load3 (HXc.out.below hE27 HXc.out.lt)) (fun hHeld => ?_)
                     clear hK K
                     (try simp only [Act.put, List.setIfInBounds_toArray, List.set_cons_zero, List.set_cons_succ])
                     refine doH (i := 3) rfl (by kernel_rfl) (by rfl) (fun K hK => ?_)
                     obtain ⟨v3, y28, hr3, hO3, hg3⟩ := append_g repOk hO (some ⟨gr, oR, none⟩) M cb HLN.out (HOLD.out y27 hE27) HNIL.out (by simp; omega) hE27.size
                     have hE28 := hE27.grown hg3 hE27.size (fun j hj => (World.ownsRow.lt hO j hj).1)
                     have hR := hR.grown hg3 (fun a e => by cases e; intro e2; injection e2 with e2; have e3 : b0 = b5 := e2; omega)
                     clear hO
                     have hO := hO3
                     clear hO3
                     rw [List.nil_append] at hO
                     refine Lib.wp_append_run _ _ _ 42 42 rfl _ _ rfl rfl _ _ hr3 ?_
                     clear hr3 hg3
                     refine hK.out _ _ (rep_load3 (HXc.out.below hE28 HXc.out.lt)) (fun hHeld => ?_)
                     clear hK K
                     (try simp only [Act.put, List.setIfInBounds_toArray, List.set_cons_zero, List.set_cons_succ])
                     refine doH (i := 6) rfl (by kernel_rfl) (by rfl) (fun K hK => ?_)
                     obtain ⟨v6, y29, hr6, hO6, hg6⟩ := append_g repOk hO (some ⟨b5, 0, none⟩) 1 1 rfl hR (fun h => absurd h (by decide)) (by rw [HLN.out]; omega) hE28.size
                     have hE29 := hE28.grown hg6 hE28.size (fun j hj => (World.ownsRow.lt hO j hj).1)
                     refine Lib.wp_append_run _ _ _ 42 42 rfl _ _ rfl rfl _ _ hr6 ?_
                     clear hr6 hg6 hO
                     obtain ⟨o6, n6, c6, hv6⟩ : ∃ o n c, v6 = .slice o n c := (by obtain ⟨o, c, h, _⟩ := hO6.form repOk; exact ⟨_, _, _, h⟩)
                     subst hv6
                     refine hK.out _ _ (rep_load3 (HXc.out.below hE29 HXc.out.lt)) (fun hHeld => ?_)
                     clear hK K
                     (try simp only [Act.put, List.setIfInBounds_toArray, List.set_cons_zero, List.set_cons_succ])
                     (apply tkF [7] rfl rfl (by kernel_rfl) (fun _ _ _ h => h) (by rfl); (case hy => (intro w hSw; (try dsimp only at hSw); go_simp; try with_reducible rfl)); (case hS => assumption); (try simp only [Act.put, List.setIfInBounds_toArray, List.set_cons_zero, List.set_cons_succ]))
                     refine doH (i := 8) rfl (by kernel_rfl) (by rfl) (fun K hK => ?_)
                     have hW := HWc.out.below hE29 HWc.out.lt
                     have c8 := hW.cell 1
                     have f8 := hW.frozen 1
                     change y29.cell? _ = some (.slice (some ⟨gr, oR, none⟩) M cb) at c8
                     go_simp
                     have hW8 : Blk (y29.setCell ⟨w.heap.size, 1, none⟩ (.slice o6 n6 c6)) w.heap.size 44 #[.slice na ra cra, .slice o6 n6 c6, .slice oc P cc] := hW.set_ 1 (.slice o6 n6 c6)
                     have hG8 : World.grownBy wb (y29.setCell ⟨w.heap.size, 1, none⟩ (.slice o6 n6 c6)) (some w.heap.size) := grown_trans (only_of_below hE29 (some w.heap.size)) (grownG_setCell y29 ⟨w.heap.size, 1, none⟩ (.slice o6 n6 c6))
                     have hO8 := hO6.grown (grownG_setCell y29 ⟨w.heap.size, 1, none⟩ (.slice o6 n6 c6)) (by cases hv : Value.ownBlock (.slice o6 n6 c6) with | none => exact .inl rfl | some q => refine .inr (fun e => ?_); have h1 := (World.ownsRow.lt hO6 q hv).1; have h2 := HWc.out.lt; injection e with e; have e3 : q = w.heap.size := e; omega)
                     refine hK.out _ _ (rep_load3 ((HXc.out.below hE29 HXc.out.lt).far (p := ⟨w.heap.size, 1, none⟩) (by show gq ≠ w.heap.size; omega) (.slice o6 n6 c6))) (fun hHeld => ?_)
                     clear hK K
                     (try simp only [Act.put, List.setIfInBounds_toArray, List.set_cons_zero, List.set_cons_succ])
                     refine wpAnyH_done (by kernel_rfl) ?_ _
                     go_wp2_with fail
                     go_meet
                     exact ⟨.slice o6 n6 c6, hO8, hW8, hG8⟩
                 · go_simp
                   have hR := rowG_new repOk y0 (⟨0, M, (P : Int) + 1⟩ : Rep)
                   have hyA := (Below.refl _ y0).alloc (Nat.le_refl _) (.cells #[.int .i64 0, .int .i64 M, .int .i64 ((P : Int) + 1)] 35)
                   have hE31 := hE0.trans (hyA.mono hE0.size)
                   change RowG _ (y0.alloc (.cells #[.int .i64 0, .int .i64 M, .int .i64 ((P : Int) + 1)] 35)) _ _ at hR
                   have hbl : y0.heap.size < (y0.alloc (.cells #[.int .i64 0, .int .i64 M, .int .i64 ((P : Int) + 1)] 35)).heap.size := by simp
                   generalize y0.alloc (.cells #[.int .i64 0, .int .i64 M, .int .i64 ((P : Int) + 1)] 35) = y31 at *
                   generalize y0.heap.size = b5 at *
                   refine hK.out _ _ (rep_load3 (HXc.out.below hE31 HXc.out.lt)) (fun hHeld => ?_)
                   clear hK K
                   (try simp only [Act.put, List.setIfInBounds_toArray, List.set_cons_zero, List.set_cons_succ])
                   refine doH2 (i := 0) (j := 2) rfl rfl (by kernel_rfl) (by rfl) (by rfl) (fun K hK => ?_) (fun K hK => ?_)
                   · go_simp
                     have hO := ownG_lit repOk y31 wb.heap.size hE31.size
                     have hyA := (Below.refl _ y31).alloc (Nat.le_refl _) (.cells #[] 35)
                     have hE32 := hE31.trans (hyA.mono hE31.size)
                     change OwnG _ (y31.alloc (.cells #[] 35)) _ _ _ at hO
                     have hR := hR.below hyA
                     have hb05 : y31.heap.size ≠ b5 := by omega
                     have hb0 : y31.heap.size < (y31.alloc (.cells #[] 35)).heap.size := by simp
                     generalize y31.alloc (.cells #[] 35) = y32 at *
                     generalize y31.heap.size = b0 at *
                     have hbl : b5 < y32.heap.size := by omega
                     refine hK.out _ _ (rep_load3 (HXc.out.below hE32 HXc.out.lt)) (fun hHeld => ?_)
                     clear hK K
                     (try simp only [Act.put, List.setIfInBounds_toArray, List.set_cons_zero, List.set_cons_succ])
                     refine doH (i := 2) rfl (by kernel_rfl) (by rfl) (fun K hK => ?_)
                     have hL := sl_rep (w := y32) (p := ⟨w.heap.size, 1, none⟩) ((HWc.out.below hE32 HWc.out.lt).cell 1)
                     change (loadVar 42 _).run Tryz.prog y32 = .ok (.slice (some ⟨gr, oR, none⟩) M cb) y32 at hL
                     go_simp
                     refine hK.out _ _ (rep_load3 (HXc.out.below hE32 HXc.out.lt)) (fun hHeld => ?_)
                     clear hK K
                     (try simp only [Act.put, List.setIfInBounds_toArray, List.set_cons_zero, List.set_cons_succ])
                     clear hL
                     refine doH (i := 3) rfl (by kernel_rfl) (by rfl) (fun K hK => ?_)
                     obtain ⟨v3, y34, hr3, hO3, hg3⟩ := append_g repOk hO (some ⟨gr, oR, none⟩) M cb HLN.out (HOLD.out y32 hE32) HNIL.out (by simp; omega) hE32.size
                     have hE34 := hE32.grown hg3 hE32.size (fun j hj => (World.ownsRow.lt hO j hj).1)
                     have hR := hR.grown hg3 (fun a e => by cases e; intro e2; injection e2 with e2; have e3 : b0 = b5 := e2; omega)
                     clear hO
                     have hO := hO3
                     clear hO3
                     rw [List.nil_append] at hO
                     refine Lib.wp_append_run _ _ _ 42 42 rfl _ _ rfl rfl _ _ hr3 ?_
                     clear hr3 hg3
                     refine hK.out _ _ (rep_load3 (HXc.out.below hE34 HXc.out.lt)) (fun hHeld => ?_)
                     clear hK K
                     (try simp only [Act.put, List.setIfInBounds_toArray, List.set_cons_zero, List.set_cons_succ])
                     refine doH (i := 6) rfl (by kernel_rfl) (by rfl) (fun K hK => ?_)
                     obtain ⟨v6, y35, hr6, hO6, hg6⟩ := append_g repOk hO (some ⟨b5, 0, none⟩) 1 1 rfl hR (fun h => absurd h (by decide)) (by rw [HLN.out]; omega) hE34.size
                     have hE35 := hE34.grown hg6 hE34.size (fun j hj => (World.ownsRow.lt hO j hj).1)
                     refine Lib.wp_append_run _ _ _ 42 42 rfl _ _ rfl rfl _ _ hr6 ?_
                     clear hr6 hg6 hO
                     obtain ⟨o6, n6, c6, hv6⟩ : ∃ o n c, v6 = .slice o n c := (by obtain ⟨o, c, h, _⟩ := hO6.form repOk; exact ⟨_, _, _, h⟩)
                     subst hv6
                     refine hK.out _ _ (rep_load3 (HXc.out.below hE35 HXc.out.lt)) (fun hHeld => ?_)
                     clear hK K
                     (try simp only [Act.put, List.setIfInBounds_toArray, List.set_cons_zero, List.set_cons_succ])
                     (apply tkF [7] rfl rfl (by kernel_rfl) (fun _ _ _ h => h) (by rfl); (case hy => (intro w hSw; (try dsimp only at hSw); go_simp; try with_reducible rfl)); (case hS => assumption); (try simp only [Act.put, List.setIfInBounds_toArray, List.set_cons_zero, List.set_cons_succ]))
                     refine doH (i := 8) rfl (by kernel_rfl) (by rfl) (fun K hK => ?_)
                     have hW := HWc.out.below hE35 HWc.out.lt
                     have c8 := hW.cell 1
                     have f8 := hW.frozen 1
                     change y35.cell? _ = some (.slice (some ⟨gr, oR, none⟩) M cb) at c8
                     go_simp
                     have hW8 : Blk (y35.setCell ⟨w.heap.size, 1, none⟩ (.slice o6 n6 c6)) w.heap.size 44 #[.slice na ra cra, .slice o6 n6 c6, .slice oc P cc] := hW.set_ 1 (.slice o6 n6 c6)
                     have hG8 : World.grownBy wb (y35.setCell ⟨w.heap.size, 1, none⟩ (.slice o6 n6 c6)) (some w.heap.size) := grown_trans (only_of_below hE35 (some w.heap.size)) (grownG_setCell y35 ⟨w.heap.size, 1, none⟩ (.slice o6 n6 c6))
                     have hO8 := hO6.grown (grownG_setCell y35 ⟨w.heap.size, 1, none⟩ (.slice o6 n6 c6)) (by cases hv : Value.ownBlock (.slice o6 n6 c6) with | none => exact .inl rfl | some q => refine .inr (fun e => ?_); have h1 := (World.ownsRow.lt hO6 q hv).1; have h2 := HWc.out.lt; injection e with e; have e3 : q = w.heap.size := e; omega)
                     refine hK.out _ _ (rep_load3 ((HXc.out.below hE35 HXc.out.lt).far (p := ⟨w.heap.size, 1, none⟩) (by show gq ≠ w.heap.size; omega) (.slice o6 n6 c6))) (fun hHeld => ?_)
                     clear hK K
                     (try simp only [Act.put, List.setIfInBounds_toArray, List.set_cons_zero, List.set_cons_succ])
                     refine wpAnyH_done (by kernel_rfl) ?_ _
                     go_wp2_with fail
                     go_meet
                     exact ⟨.slice o6 n6 c6, hO8, hW8, hG8⟩
                   · have hL := sl_rep (w := y31) (p := ⟨w.heap.size, 1, none⟩) ((HWc.out.below hE31 HWc.out.lt).cell 1)
                     change (loadVar 42 _).run Tryz.prog y31 = .ok (.slice (some ⟨gr, oR, none⟩) M cb) y31 at hL
                     go_simp
                     refine hK.out _ _ (rep_load3 (HXc.out.below hE31 HXc.out.lt)) (fun hHeld => ?_)
                     clear hK K
                     (try simp only [Act.put, List.setIfInBounds_toArray, List.set_cons_zero, List.set_cons_succ])
                     clear hL
                     refine doH (i := 0) rfl (by kernel_rfl) (by rfl) (fun K hK => ?_)
                     go_simp
                     have hO := ownG_lit repOk y31 wb.heap.size hE31.size
                     have hyA := (Below.refl _ y31).alloc (Nat.le_refl _) (.cells #[] 35)
                     have hE38 := hE31.trans (hyA.mono hE31.size)
                     change OwnG _ (y31.alloc (.cells #[] 35)) _ _ _ at hO
                     have hR := hR.below hyA
                     have hb05 : y31.heap.size ≠ b5 := by omega
                     have hb0 : y31.heap.size < (y31.alloc (.cells #[] 35)).heap.size := by simp
                     generalize y31.alloc (.cells #[] 35) = y38 at *
                     generalize y31.heap.size = b0 at *
                     have hbl : b5 < y38.heap.size := by omega
                     refine hK.out _ _ (rep_load3 (HXc.out.below hE38 HXc.out.lt)) (fun hHeld => ?_)
                     clear hK K
                     (try simp only [Act.put, List.setIfInBounds_toArray, List.set_cons_zero, List.set_cons_succ])
                     refine doH (i := 3) rfl (by kernel_rfl) (by rfl) (fun K hK => ?_)
                     obtain ⟨v3, y39, hr3, hO3, hg3⟩ := append_g repOk hO (some ⟨gr, oR, none⟩) M cb HLN.out (HOLD.out y38 hE38) HNIL.out (by simp; omega) hE38.size
                     have hE39 := hE38.grown hg3 hE38.size (fun j hj => (World.ownsRow.lt hO j hj).1)
                     have hR := hR.grown hg3 (fun a e => by cases e; intro e2; injection e2 with e2; have e3 : b0 = b5 := e2; omega)
                     clear hO
                     have hO := hO3
                     clear hO3
                     rw [List.nil_append] at hO
                     refine Lib.wp_append_run _ _ _ 42 42 rfl _ _ rfl rfl _ _ hr3 ?_
                     clear hr3 hg3
                     refine hK.out _ _ (rep_load3 (HXc.out.below hE39 HXc.out.lt)) (fun hHeld => ?_)
                     clear hK K
                     (try simp only [Act.put, List.setIfInBounds_toArray, List.set_cons_zero, List.set_cons_succ])
                     refine doH (i := 6) rfl (by kernel_rfl) (by rfl) (fun K hK => ?_)
                     obtain ⟨v6, y40, hr6, hO6, hg6⟩ := append_g repOk hO (some ⟨b5, 0, none⟩) 1 1 rfl hR (fun h => absurd h (by decide)) (by rw [HLN.out]; omega) hE39.size
                     have hE40 := hE39.grown hg6 hE39.size (fun j hj => (World.ownsRow.lt hO j hj).1)
                     refine Lib.wp_append_run _ _ _ 42 42 rfl _ _ rfl rfl _ _ hr6 ?_
                     clear hr6 hg6 hO
                     obtain ⟨o6, n6, c6, hv6⟩ : ∃ o n c, v6 = .slice o n c := (by obtain ⟨o, c, h, _⟩ := hO6.form repOk; exact ⟨_, _, _, h⟩)
                     subst hv6
                     refine hK.out _ _ (rep_load3 (HXc.out.below hE40 HXc.out.lt)) (fun hHeld => ?_)
                     clear hK K
                     (try simp only [Act.put, List.setIfInBounds_toArray, List.set_cons_zero, List.set_cons_succ])
                     (apply tkF [7] rfl rfl (by kernel_rfl) (fun _ _ _ h => h) (by rfl); (case hy => (intro w hSw; (try dsimp only at hSw); go_simp; try with_reducible rfl)); (case hS => assumption); (try simp only [Act.put, List.setIfInBounds_toArray, List.set_cons_zero, List.set_cons_succ]))
                     refine doH (i := 8) rfl (by kernel_rfl) (by rfl) (fun K hK => ?_)
                     have hW := HWc.out.below hE40 HWc.out.lt
                     have c8 := hW.cell 1
                     have f8 := hW.frozen 1
                     change y40.cell? _ = some (.slice (some ⟨gr, oR, none⟩) M cb) at c8
                     go_simp
                     have hW8 : Blk (y40.setCell ⟨w.heap.size, 1, none⟩ (.slice o6 n6 c6)) w.heap.size 44 #[.slice na ra cra, .slice o6 n6 c6, .slice oc P cc] := hW.set_ 1 (.slice o6 n6 c6)
                     have hG8 : World.grownBy wb (y40.setCell ⟨w.heap.size, 1, none⟩ (.slice o6 n6 c6)) (some w.heap.size) := grown_trans (only_of_below hE40 (some w.heap.size)) (grownG_setCell y40 ⟨w.heap.size, 1, none⟩ (.slice o6 n6 c6))
                     have hO8 := hO6.grown (grownG_setCell y40 ⟨w.heap.size, 1, none⟩ (.slice o6 n6 c6)) (by cases hv : Value.ownBlock (.slice o6 n6 c6) with | none => exact .inl rfl | some q => refine .inr (fun e => ?_); have h1 := (World.ownsRow.lt hO6 q hv).1; have h2 := HWc.out.lt; injection e with e; have e3 : q = w.heap.size := e; omega)
                     refine hK.out _ _ (rep_load3 ((HXc.out.below hE40 HXc.out.lt).far (p := ⟨w.heap.size, 1, none⟩) (by show gq ≠ w.heap.size; omega) (.slice o6 n6 c6))) (fun hHeld => ?_)
                     clear hK K
                     (try simp only [Act.put, List.setIfInBounds_toArray, List.set_cons_zero, List.set_cons_succ])
                     refine wpAnyH_done (by kernel_rfl) ?_ _
                     go_wp2_with fail
                     go_meet
                     exact ⟨.slice o6 n6 c6, hO8, hW8, hG8⟩
                case rest =>
                 obtain ⟨vb, hO, hW, hG⟩ := hcut
                 obtain ⟨nb, rb, crb, hvb⟩ : ∃ o n c, vb = .slice o n c := (by obtain ⟨o, c, h, _⟩ := hO.form repOk; exact ⟨_, _, _, h⟩)
                 subst hvb
                 have hOa := HOa.out.grown hG (by cases hv : Value.ownBlock (.slice na ra cra) with | none => exact .inl rfl | some q => refine .inr (fun e => ?_); have h1 := (World.ownsRow.lt HOa.out q hv).1; injection e with e; have e3 : q = w.heap.size := e; omega)
                 have hK2e := HK2b.out.grown hG (fun e => by injection e; omega)
                 have hK3e := HK3b.out.grown hG (fun e => by injection e; omega)
                 have hQe := HQb.out.grown hG (fun e => by injection e; omega)
                 have hBe := HBb.out.grown hG HBb.out.size (fun j hj => by injection hj; omega)
                 have hsb := HK3b.out.lt
                 obtain ⟨ea, hRa, hca, hna, hga⟩ := hOa.parts reqOk
                 obtain ⟨eb, hRb, hcb2, hnb, hgb⟩ := hO.parts repOk
                 have HEA := Lib.hid ea
                 have HEB := Lib.hid eb
                 have HCA := Lib.hid hca
                 have HCB2 := Lib.hid hcb2
                 have HKS : Hid (∀ W, Blk W w.heap.size 44 #[.slice na ra cra, .slice nb rb crb, .slice oc P cc] → Blk W gq 35 #[.int .i64 0, .int .i64 M, .int .i64 ((P : Int) + 1)] → (loadVar 44 ⟨w.heap.size, 0, none⟩).run Tryz.prog W = .ok (.agg #[.slice na ra cra, .slice nb rb crb, .slice oc P cc]) W ∧ (loadVar 35 ⟨gq, 0, none⟩).run Tryz.prog W = .ok (.agg #[.int .i64 0, .int .i64 M, .int .i64 ((P : Int) + 1)]) W) := Lib.hid fun W h1 h2 => ⟨wld_load h1, rep_load3 h2⟩
                 have hna2 : ∀ a, na = some a → w.heap.size ≤ a.block ∧ a.block ≠ w.heap.size + 2 ∧ a.block ≠ w.heap.size + 3 := fun a h => by have := hga a h; omega
                 have hnb2 : ∀ a, nb = some a → w.heap.size ≤ a.block ∧ a.block ≠ w.heap.size + 2 ∧ a.block ≠ w.heap.size + 3 := fun a h => by have := hgb a h; omega
                 clear ea eb hca hcb2 hG hO hOa hga hgb HWc HXc HLN HOLD HNIL HOa HK0b HK2b HK3b HQb HBb
                 go_wp2_with fail
                 refine wp_region_held_drew (S := fun W => (loadVar 44 ⟨w.heap.size, 0, none⟩).run Tryz.prog W = .ok (.agg #[.slice na ra cra, .slice nb rb crb, .slice oc P cc]) W ∧ (loadVar 35 ⟨gq, 0, none⟩).run Tryz.prog W = .ok (.agg #[.int .i64 0, .int .i64 M, .int .i64 ((P : Int) + 1)]) W) (by kernel_rfl) ?_ (fun hHeld0 => ?_)
                 · exact HKS.out _ hW hQe
                 have hd0 : Below wc.heap.size wc wc.drew := (Below.refl _ _).drew
                 have HW9 := Lib.hid (hW.below hd0 hW.lt)
                 have HQ9 := Lib.hid (hQe.below hd0 hQe.lt)
                 have HK2w := Lib.hid (hK2e.below hd0 hK2e.lt)
                 have HK3w := Lib.hid (hK3e.below hd0 hK3e.lt)
                 have HBw := Lib.hid (hBe.trans (hd0.mono hBe.size))
                 have HRa := Lib.hid (hRa.below hd0)
                 have HRb := Lib.hid (hRb.below hd0)
                 clear hW hQe hK2e hK3e hBe hRa hRb hd0
                 generalize wc.drew = we at *
                 iterate 2 (apply tkF [0, 1] rfl rfl (by kernel_rfl) (fun _ _ _ h => h) (by rfl); (case hy => (intro w hSw; (try dsimp only at hSw); go_simp; try with_reducible rfl)); (case hS => assumption); (try simp only [Act.put, List.setIfInBounds_toArray, List.set_cons_zero, List.set_cons_succ]))
                 have g0 : we.cell? ⟨w.heap.size + 2, 0, none⟩ = some (.slice none 0 0) := HK2w.out.cell 0
                 have f0 := HK2w.out.frozen 0
                 have g1 : we.cell? ⟨w.heap.size + 2, 1, none⟩ = some (.slice none 0 0) := HK2w.out.cell 1
                 have f1 := HK2w.out.frozen 1
                 have g2 : we.cell? ⟨w.heap.size + 2, 2, none⟩ = some (.slice none 0 0) := HK2w.out.cell 2
                 have f2 := HK2w.out.frozen 2
                 have q0 : we.cell? ⟨w.heap.size + 3, 0, none⟩ = some (.int .i64 0) := HK3w.out.cell 0
                 have p0 := HK3w.out.frozen 0
                 have q1 : we.cell? ⟨w.heap.size + 3, 1, none⟩ = some (.int .i64 0) := HK3w.out.cell 1
                 have p1 := HK3w.out.frozen 1
                 have q2 : we.cell? ⟨w.heap.size + 3, 2, none⟩ = some (.int .i64 0) := HK3w.out.cell 2
                 have p2 := HK3w.out.frozen 2
                 refine doH (i := 2) rfl (by kernel_rfl) (by rfl) (fun K hK => ?_)
                 go_simp
                 refine hK.out _ _ (HKS.out _ (HW9.out.far3 (b := w.heap.size + 2) (by omega) (.slice na ra cra) (.slice nb rb crb) (.slice oc P cc)) (HQ9.out.far3 (b := w.heap.size + 2) (by omega) (.slice na ra cra) (.slice nb rb crb) (.slice oc P cc))) (fun hHeld2 => ?_)
                 clear hK K hHeld0
                 (try simp only [Act.put, List.setIfInBounds_toArray, List.set_cons_zero, List.set_cons_succ])
                 refine doH (i := 3) rfl (by kernel_rfl) (by rfl) (fun K hK => ?_)
                 go_simp
                 refine hK.out _ _ (HKS.out _ ((HW9.out.far3 (b := w.heap.size + 2) (by omega) (.slice na ra cra) (.slice nb rb crb) (.slice oc P cc)).far3 (b := w.heap.size + 3) (by omega) (.int .i64 0) (.int .i64 M) (.int .i64 ((P : Int) + 1))) ((HQ9.out.far3 (b := w.heap.size + 2) (by omega) (.slice na ra cra) (.slice nb rb crb) (.slice oc P cc)).far3 (b := w.heap.size + 3) (by omega) (.int .i64 0) (.int .i64 M) (.int .i64 ((P : Int) + 1)))) (fun hHeld3 => ?_)
                 clear hK K hHeld2
                 (try simp only [Act.put, List.setIfInBounds_toArray, List.set_cons_zero, List.set_cons_succ])
                 refine wpAnyH_done (by kernel_rfl) ?_ _
                 go_wp2_with fail
                 have n4 := (HK2w.out.set3 (.slice na ra cra) (.slice nb rb crb) (.slice oc P cc)).far3 (b := w.heap.size + 3) (by omega) (.int .i64 0) (.int .i64 M) (.int .i64 ((P : Int) + 1))
                 have n5 := (HK3w.out.far3 (b := w.heap.size + 2) (by omega) (.slice na ra cra) (.slice nb rb crb) (.slice oc P cc)).set3 (.int .i64 0) (.int .i64 M) (.int .i64 ((P : Int) + 1))
                 have hB9 := Below.set3 (b := w.heap.size + 3) (Below.set3 (b := w.heap.size + 2) HBw.out (by omega) (.slice na ra cra) (.slice nb rb crb) (.slice oc P cc)) (by omega) (.int .i64 0) (.int .i64 M) (.int .i64 ((P : Int) + 1))
                 refine bodyPost_ret (results_row_row rfl _ _ (w.heap.size + 2) (w.heap.size + 3) 44 35 #[.slice na ra cra, .slice nb rb crb, .slice oc P cc] #[.int .i64 0, .int .i64 M, .int .i64 ((P : Int) + 1)] _ _ rfl n4 rfl n5 Tryz.underlying44 rfl (by kernel_rfl) Tryz.underlying35 rfl (by kernel_rfl)) rfl ?_
                 rw [HRA.out, HASK.out]
                 exact ⟨.slice na ra cra, .slice nb rb crb, rfl, ⟨na, cra, by rw [HEA.out], (HRa.out.set3 (fun x h => (hna2 x h).2.1) (.slice na ra cra) (.slice nb rb crb) (.slice oc P cc)).set3 (fun x h => (hna2 x h).2.2) (.int .i64 0) (.int .i64 M) (.int .i64 ((P : Int) + 1)), HCA.out, hna, .inr fun x h => (hna2 x h).1⟩, ⟨nb, crb, by rw [HEB.out], (HRb.out.set3 (fun x h => (hnb2 x h).2.1) (.slice na ra cra) (.slice nb rb crb) (.slice oc P cc)).set3 (fun x h => (hnb2 x h).2.2) (.int .i64 0) (.int .i64 M) (.int .i64 ((P : Int) + 1)), HCB2.out, hnb, .inr fun x h => (hnb2 x h).1⟩, hB9⟩
     · have hl1 : ln = -1 := by omega
       subst hl1
       rw [if_neg (fun h => absurd h.1 (by decide)), if_neg (fun h => absurd h.1 (by decide))] at HASK
       go_wp2
       refine wp_region_held_drew (S := fun W => Below w1.heap.size w1 W) (by kernel_rfl) ?_ (fun hHeld0 => ?_)
       · exact HBQ.out.drew
       iterate 3 (apply tkF [0, 1, 2] rfl rfl (by kernel_rfl) (fun _ _ _ h => h) (by rfl); (case hy => (intro w hSw; (try dsimp only at hSw); go_simp; try with_reducible rfl)); (case hS => assumption); (try simp only [Act.put, List.setIfInBounds_toArray, List.set_cons_zero, List.set_cons_succ]))
       iterate 9 (refine skF [3, 4, 5, 6, 7, 8, 9, 10, 11] rfl rfl (by kernel_rfl) (fun _ _ _ h => h) (by rfl) (by assumption) ?_; (try simp only [Act.put, List.setIfInBounds_toArray, List.set_cons_zero, List.set_cons_succ]))
       (apply tkF [12] rfl rfl (by kernel_rfl) (fun _ _ _ h => h) (by rfl); (case hy => (intro w hSw; (try dsimp only at hSw); go_simp; try with_reducible rfl)); (case hS => assumption); (try simp only [Act.put, List.setIfInBounds_toArray, List.set_cons_zero, List.set_cons_succ]))
       refine wpAnyH_done (by kernel_rfl) ?_ _
       have hb2 : Below w1.heap.size w1 wr.drew := HBQ.out.drew
       generalize wr.drew = w2 at *
       go_wp2
       refine wp_region_held_drew (S := fun W => Below w1.heap.size w1 W) (by kernel_rfl) ?_ (fun hHeld0 => ?_)
       · exact hb2.drew
       iterate 3 (apply tkF [0, 1, 2] rfl rfl (by kernel_rfl) (fun _ _ _ h => h) (by rfl); (case hy => (intro w hSw; (try dsimp only at hSw); go_simp; try with_reducible rfl)); (case hS => assumption); (try simp only [Act.put, List.setIfInBounds_toArray, List.set_cons_zero, List.set_cons_succ]))
       iterate 9 (refine skF [3, 4, 5, 6, 7, 8, 9, 10, 11] rfl rfl (by kernel_rfl) (fun _ _ _ h => h) (by rfl) (by assumption) ?_; (try simp only [Act.put, List.setIfInBounds_toArray, List.set_cons_zero, List.set_cons_succ]))
       (apply tkF [12] rfl rfl (by kernel_rfl) (fun _ _ _ h => h) (by rfl); (case hy => (intro w hSw; (try dsimp only at hSw); go_simp; try with_reducible rfl)); (case hS => assumption); (try simp only [Act.put, List.setIfInBounds_toArray, List.set_cons_zero, List.set_cons_succ]))
       refine wpAnyH_done (by kernel_rfl) ?_ _
       have hb3 : Below w1.heap.size w1 w2.drew := hb2.drew
       generalize w2.drew = w3 at *
       clear HK0w HK1w HK2w HK3w HBw HBQ hb2 d0
       have HK0w := Lib.hid (HK01.out.below hb3 HK01.out.lt)
       have HK1w := Lib.hid (HK11.out.below hb3 HK11.out.lt)
       have HK2w := Lib.hid (HK21.out.below hb3 HK21.out.lt)
       have HK3w := Lib.hid (HK31.out.below hb3 HK31.out.lt)
       have HBw := Lib.hid (HB1.out.trans ((hb3).mono HB1.out.size))
       clear hb3
       by_cases h20 : cn = 20
       · have h20' : (cn == 20) = true := by rw [beq_iff_eq]; exact h20
         rw [if_pos h20] at HASK
         have d0 := wld_load HK0w.out
         have g0 : w3.cell? ⟨w.heap.size + 2, 0, none⟩ = some (.slice none 0 0) := HK2w.out.cell 0
         have f0 := HK2w.out.frozen 0
         have g1 : w3.cell? ⟨w.heap.size + 2, 1, none⟩ = some (.slice none 0 0) := HK2w.out.cell 1
         have f1 := HK2w.out.frozen 1
         have g2 : w3.cell? ⟨w.heap.size + 2, 2, none⟩ = some (.slice none 0 0) := HK2w.out.cell 2
         have f2 := HK2w.out.frozen 2
         have q0 : w3.cell? ⟨w.heap.size + 3, 0, none⟩ = some (.int .i64 0) := HK3w.out.cell 0
         have p0 := HK3w.out.frozen 0
         have q1 : w3.cell? ⟨w.heap.size + 3, 1, none⟩ = some (.int .i64 0) := HK3w.out.cell 1
         have p1 := HK3w.out.frozen 1
         have q2 : w3.cell? ⟨w.heap.size + 3, 2, none⟩ = some (.int .i64 0) := HK3w.out.cell 2
         have p2 := HK3w.out.frozen 2
         go_wp2_with fail
         have n4 := (HK2w.out.set3 (.slice oa M ca) (.slice ob M cb) (.slice oc P cc)).far3 (b := w.heap.size + 3) (by omega) (.int .i64 6) (.int .i64 0) (.int .i64 0)
         have n5 := (HK3w.out.far3 (b := w.heap.size + 2) (by omega) (.slice oa M ca) (.slice ob M cb) (.slice oc P cc)).set3 (.int .i64 6) (.int .i64 0) (.int .i64 0)
         have hB9 := Below.set3 (b := w.heap.size + 3) (Below.set3 (b := w.heap.size + 2) HBw.out (by omega) (.slice oa M ca) (.slice ob M cb) (.slice oc P cc)) (by omega) (.int .i64 6) (.int .i64 0) (.int .i64 0)
         refine bodyPost_ret (results_row_row rfl _ _ (w.heap.size + 2) (w.heap.size + 3) 44 35 #[.slice oa M ca, .slice ob M cb, .slice oc P cc] #[.int .i64 6, .int .i64 0, .int .i64 0] _ _ rfl n4 rfl n5 Tryz.underlying44 rfl (by kernel_rfl) Tryz.underlying35 rfl (by kernel_rfl)) rfl ?_
         rw [HRA.out, HASK.out]
         exact ⟨.slice oa M ca, .slice ob M cb, rfl, ⟨oa, ca, by rw [HN.out], HA.out.below hB9, by rw [HN.out]; exact hNc, hoa, .inl ⟨rfl, rfl⟩⟩, ⟨ob, cb, by rw [HM.out], HB.out.below hB9, by rw [HM.out]; exact hMc, hob, .inl ⟨rfl, rfl⟩⟩, hB9⟩
       · have h20' : (cn == 20) = false := by rw [beq_eq_false_iff_ne]; exact h20
         rw [if_neg h20] at HASK
         have dl := sl_req (w := w3) (p := ⟨w.heap.size, 0, none⟩) (HK0w.out.cell 0)
         change (loadVar 32 _).run Tryz.prog w3 = .ok (.slice oa M ca) w3 at dl
         by_cases h64 : (M : Int) = 64
         · have h64' : ((M : Int) == 64) = true := by rw [beq_iff_eq]; exact h64
           rw [if_pos h64] at HASK
           have d0 := wld_load HK0w.out
           have g0 : w3.cell? ⟨w.heap.size + 2, 0, none⟩ = some (.slice none 0 0) := HK2w.out.cell 0
           have f0 := HK2w.out.frozen 0
           have g1 : w3.cell? ⟨w.heap.size + 2, 1, none⟩ = some (.slice none 0 0) := HK2w.out.cell 1
           have f1 := HK2w.out.frozen 1
           have g2 : w3.cell? ⟨w.heap.size + 2, 2, none⟩ = some (.slice none 0 0) := HK2w.out.cell 2
           have f2 := HK2w.out.frozen 2
           have q0 : w3.cell? ⟨w.heap.size + 3, 0, none⟩ = some (.int .i64 0) := HK3w.out.cell 0
           have p0 := HK3w.out.frozen 0
           have q1 : w3.cell? ⟨w.heap.size + 3, 1, none⟩ = some (.int .i64 0) := HK3w.out.cell 1
           have p1 := HK3w.out.frozen 1
           have q2 : w3.cell? ⟨w.heap.size + 3, 2, none⟩ = some (.int .i64 0) := HK3w.out.cell 2
           have p2 := HK3w.out.frozen 2
           go_wp2_with fail
           have n4 := (HK2w.out.set3 (.slice oa M ca) (.slice ob M cb) (.slice oc P cc)).far3 (b := w.heap.size + 3) (by omega) (.int .i64 10) (.int .i64 0) (.int .i64 0)
           have n5 := (HK3w.out.far3 (b := w.heap.size + 2) (by omega) (.slice oa M ca) (.slice ob M cb) (.slice oc P cc)).set3 (.int .i64 10) (.int .i64 0) (.int .i64 0)
           have hB9 := Below.set3 (b := w.heap.size + 3) (Below.set3 (b := w.heap.size + 2) HBw.out (by omega) (.slice oa M ca) (.slice ob M cb) (.slice oc P cc)) (by omega) (.int .i64 10) (.int .i64 0) (.int .i64 0)
           refine bodyPost_ret (results_row_row rfl _ _ (w.heap.size + 2) (w.heap.size + 3) 44 35 #[.slice oa M ca, .slice ob M cb, .slice oc P cc] #[.int .i64 10, .int .i64 0, .int .i64 0] _ _ rfl n4 rfl n5 Tryz.underlying44 rfl (by kernel_rfl) Tryz.underlying35 rfl (by kernel_rfl)) rfl ?_
           rw [HRA.out, HASK.out]
           exact ⟨.slice oa M ca, .slice ob M cb, rfl, ⟨oa, ca, by rw [HN.out], HA.out.below hB9, by rw [HN.out]; exact hNc, hoa, .inl ⟨rfl, rfl⟩⟩, ⟨ob, cb, by rw [HM.out], HB.out.below hB9, by rw [HM.out]; exact hMc, hob, .inl ⟨rfl, rfl⟩⟩, hB9⟩
         · have h64' : ((M : Int) == 64) = false := by rw [beq_eq_false_iff_ne]; exact h64
           rw [if_neg h64] at HASK
           have dh := sl_hd (w := w3) (p := ⟨w.heap.size, 2, none⟩) (HK0w.out.cell 2)
           change (loadVar 39 _).run Tryz.prog w3 = .ok (.slice oc P cc) w3 at dh
           have e5 : IntKind.i64.wrap ((P : Int) + 1) = (P : Int) + 1 := by rw [IntKind.wrap_i64]; omega
           go_wp2_with fail
           have hq0 : Blk (w3.alloc (.cells #[.int .i64 0, .int .i64 M, .int .i64 ((P : Int) + 1)] 35)) w3.heap.size 35 #[.int .i64 0, .int .i64 M, .int .i64 ((P : Int) + 1)] := Blk.new _ _ _
           have hbq := (Below.refl _ w3).alloc (Nat.le_refl _) (.cells #[.int .i64 0, .int .i64 M, .int .i64 ((P : Int) + 1)] 35)
           have HQa := Lib.hid hq0
           have HK0a := Lib.hid (HK0w.out.alloc (.cells #[.int .i64 0, .int .i64 M, .int .i64 ((P : Int) + 1)] 35))
           have HK1a := Lib.hid (HK1w.out.alloc (.cells #[.int .i64 0, .int .i64 M, .int .i64 ((P : Int) + 1)] 35))
           have HK2a := Lib.hid (HK2w.out.alloc (.cells #[.int .i64 0, .int .i64 M, .int .i64 ((P : Int) + 1)] 35))
           have HK3a := Lib.hid (HK3w.out.alloc (.cells #[.int .i64 0, .int .i64 M, .int .i64 ((P : Int) + 1)] 35))
           have HBa := Lib.hid (HBw.out.trans (hbq.mono HBw.out.size))
           have hqg : w.heap.size + 3 < w3.heap.size := HK3w.out.lt
           clear hq0 hbq
           generalize w3.alloc (.cells #[.int .i64 0, .int .i64 M, .int .i64 ((P : Int) + 1)] 35) = wa at *
           generalize w3.heap.size = gq at *
           clear HK0w HK1w HK2w HK3w HBw dl dh
           have HWc := HK0a
           have HXc := HK1a
           have HLN := Lib.hid HN.out
           have HOLD : Hid (∀ W, Below wa.heap.size wa W → RowG reqK W oa tk) := Lib.hid fun W hW => HA.out.below (HBa.out.trans (hW.mono HBa.out.size))
           have HNIL : Hid (M = 0 → oa = none → ca = 0) := Lib.hid fun _ => hoa
           go_upto_region 19 with fail
           go_cut [] from 86 to 93 (fun wx => ∃ vd, OwnG reqK wx wa.heap.size vd (tk ++ [(⟨rc, rq, rl, rk, rv⟩ : Req)]) ∧ Blk wx w.heap.size 44 #[vd, .slice ob M cb, .slice oc P cc] ∧ World.grownBy wa wx (some w.heap.size))
           case first =>
            refine wp_region_held_drew (S := fun W => (loadVar 58 ⟨w.heap.size + 1, 0, none⟩).run Tryz.prog W = .ok (.agg #[.int .i64 rc, .int .i64 rq, .string rl, .string rk, .string rv]) W) (by kernel_rfl) ?_ (fun hHeld0 => ?_)
            · exact req_load5 (HXc.out.below ((Below.refl _ _).drew) HXc.out.lt)
            have hE0 : Below wa.heap.size wa wa.drew := (Below.refl _ _).drew
            generalize wa.drew = y0 at *
            iterate 2 (apply tkF [1, 4] rfl rfl (by kernel_rfl) (fun _ _ _ h => h) (by rfl); (case hy => (intro w hSw; (try dsimp only at hSw); go_simp; try with_reducible rfl)); (case hS => assumption); (try simp only [Act.put, List.setIfInBounds_toArray, List.set_cons_zero, List.set_cons_succ]))
            refine doH3 (i := 0) (j := 2) (k := 5) rfl rfl rfl (by kernel_rfl) (by rfl) (by rfl) (by rfl) (fun K hK => ?_) (fun K hK => ?_) (fun K hK => ?_)
            · go_simp
              have hO := ownG_lit reqOk y0 wa.heap.size hE0.size
              have hyA := (Below.refl _ y0).alloc (Nat.le_refl _) (.cells #[] 58)
              have hE1 := hE0.trans (hyA.mono hE0.size)
              change OwnG _ (y0.alloc (.cells #[] 58)) _ _ _ at hO
              have hb0 : y0.heap.size < (y0.alloc (.cells #[] 58)).heap.size := by simp
              generalize y0.alloc (.cells #[] 58) = y1 at *
              generalize y0.heap.size = b0 at *
              refine hK.out _ _ (req_load5 (HXc.out.below hE1 HXc.out.lt)) (fun hHeld => ?_)
              clear hK K
              (try simp only [Act.put, List.setIfInBounds_toArray, List.set_cons_zero, List.set_cons_succ])
              refine doH2 (i := 2) (j := 5) rfl rfl (by kernel_rfl) (by rfl) (by rfl) (fun K hK => ?_) (fun K hK => ?_)
              · have hL := sl_req (w := y1) (p := ⟨w.heap.size, 0, none⟩) ((HWc.out.below hE1 HWc.out.lt).cell 0)
                change (loadVar 32 _).run Tryz.prog y1 = .ok (.slice oa M ca) y1 at hL
                go_simp
                refine hK.out _ _ (req_load5 (HXc.out.below hE1 HXc.out.lt)) (fun hHeld => ?_)
                clear hK K
                (try simp only [Act.put, List.setIfInBounds_toArray, List.set_cons_zero, List.set_cons_succ])
                clear hL
                refine doH2 (i := 3) (j := 5) rfl rfl (by kernel_rfl) (by rfl) (by rfl) (fun K hK => ?_) (fun K hK => ?_)
                · obtain ⟨v3, y3, hr3, hO3, hg3⟩ := append_g reqOk hO oa M ca HLN.out (HOLD.out y1 hE1) HNIL.out (by simp; omega) hE1.size
                  have hE3 := hE1.grown hg3 hE1.size (fun j hj => (World.ownsRow.lt hO j hj).1)
                  clear hO
                  have hO := hO3
                  clear hO3
                  rw [List.nil_append] at hO
                  refine Lib.wp_append_run _ _ _ 32 32 rfl _ _ rfl rfl _ _ hr3 ?_
                  clear hr3 hg3
                  refine hK.out _ _ (req_load5 (HXc.out.below hE3 HXc.out.lt)) (fun hHeld => ?_)
                  clear hK K
                  (try simp only [Act.put, List.setIfInBounds_toArray, List.set_cons_zero, List.set_cons_succ])
                  refine doH (i := 5) rfl (by kernel_rfl) (by rfl) (fun K hK => ?_)
                  go_simp
                  have hR := rowG_new reqOk y3 (⟨rc, rq, rl, rk, rv⟩ : Req)
                  have hyA := (Below.refl _ y3).alloc (Nat.le_refl _) (.cells #[.int .i64 rc, .int .i64 rq, .string rl, .string rk, .string rv] 58)
                  have hE4 := hE3.trans (hyA.mono hE3.size)
                  change RowG _ (y3.alloc (.cells #[.int .i64 rc, .int .i64 rq, .string rl, .string rk, .string rv] 58)) _ _ at hR
                  have hO := hO.below hyA
                  have hbl : y3.heap.size < (y3.alloc (.cells #[.int .i64 rc, .int .i64 rq, .string rl, .string rk, .string rv] 58)).heap.size := by simp
                  generalize y3.alloc (.cells #[.int .i64 rc, .int .i64 rq, .string rl, .string rk, .string rv] 58) = y4 at *
                  generalize y3.heap.size = b5 at *
                  refine hK.out _ _ (req_load5 (HXc.out.below hE4 HXc.out.lt)) (fun hHeld => ?_)
                  clear hK K
                  (try simp only [Act.put, List.setIfInBounds_toArray, List.set_cons_zero, List.set_cons_succ])
                  refine doH (i := 6) rfl (by kernel_rfl) (by rfl) (fun K hK => ?_)
                  obtain ⟨v6, y5, hr6, hO6, hg6⟩ := append_g reqOk hO (some ⟨b5, 0, none⟩) 1 1 rfl hR (fun h => absurd h (by decide)) (by rw [HLN.out]; omega) hE4.size
                  have hE5 := hE4.grown hg6 hE4.size (fun j hj => (World.ownsRow.lt hO j hj).1)
                  refine Lib.wp_append_run _ _ _ 32 32 rfl _ _ rfl rfl _ _ hr6 ?_
                  clear hr6 hg6 hO
                  obtain ⟨o6, n6, c6, hv6⟩ : ∃ o n c, v6 = .slice o n c := (by obtain ⟨o, c, h, _⟩ := hO6.form reqOk; exact ⟨_, _, _, h⟩)
                  subst hv6
                  refine hK.out _ _ (req_load5 (HXc.out.below hE5 HXc.out.lt)) (fun hHeld => ?_)
                  clear hK K
                  (try simp only [Act.put, List.setIfInBounds_toArray, List.set_cons_zero, List.set_cons_succ])
                  (apply tkF [7] rfl rfl (by kernel_rfl) (fun _ _ _ h => h) (by rfl); (case hy => (intro w hSw; (try dsimp only at hSw); go_simp; try with_reducible rfl)); (case hS => assumption); (try simp only [Act.put, List.setIfInBounds_toArray, List.set_cons_zero, List.set_cons_succ]))
                  refine doH (i := 8) rfl (by kernel_rfl) (by rfl) (fun K hK => ?_)
                  have hW := HWc.out.below hE5 HWc.out.lt
                  have c8 := hW.cell 0
                  have f8 := hW.frozen 0
                  change y5.cell? _ = some (.slice oa M ca) at c8
                  go_simp
                  have hW8 : Blk (y5.setCell ⟨w.heap.size, 0, none⟩ (.slice o6 n6 c6)) w.heap.size 44 #[.slice o6 n6 c6, .slice ob M cb, .slice oc P cc] := hW.set_ 0 (.slice o6 n6 c6)
                  have hG8 : World.grownBy wa (y5.setCell ⟨w.heap.size, 0, none⟩ (.slice o6 n6 c6)) (some w.heap.size) := grown_trans (only_of_below hE5 (some w.heap.size)) (grownG_setCell y5 ⟨w.heap.size, 0, none⟩ (.slice o6 n6 c6))
                  have hO8 := hO6.grown (grownG_setCell y5 ⟨w.heap.size, 0, none⟩ (.slice o6 n6 c6)) (by cases hv : Value.ownBlock (.slice o6 n6 c6) with | none => exact .inl rfl | some q => refine .inr (fun e => ?_); have h1 := (World.ownsRow.lt hO6 q hv).1; have h2 := HWc.out.lt; injection e with e; have e3 : q = w.heap.size := e; omega)
                  refine hK.out _ _ (req_load5 ((HXc.out.below hE5 HXc.out.lt).far (p := ⟨w.heap.size, 0, none⟩) (by show w.heap.size + 1 ≠ w.heap.size; omega) (.slice o6 n6 c6))) (fun hHeld => ?_)
                  clear hK K
                  (try simp only [Act.put, List.setIfInBounds_toArray, List.set_cons_zero, List.set_cons_succ])
                  refine wpAnyH_done (by kernel_rfl) ?_ _
                  go_wp2_with fail
                  go_meet
                  exact ⟨.slice o6 n6 c6, hO8, hW8, hG8⟩
                · go_simp
                  have hR := rowG_new reqOk y1 (⟨rc, rq, rl, rk, rv⟩ : Req)
                  have hyA := (Below.refl _ y1).alloc (Nat.le_refl _) (.cells #[.int .i64 rc, .int .i64 rq, .string rl, .string rk, .string rv] 58)
                  have hE7 := hE1.trans (hyA.mono hE1.size)
                  change RowG _ (y1.alloc (.cells #[.int .i64 rc, .int .i64 rq, .string rl, .string rk, .string rv] 58)) _ _ at hR
                  have hO := hO.below hyA
                  have hb05 : b0 ≠ y1.heap.size := by omega
                  have hbl : y1.heap.size < (y1.alloc (.cells #[.int .i64 rc, .int .i64 rq, .string rl, .string rk, .string rv] 58)).heap.size := by simp
                  generalize y1.alloc (.cells #[.int .i64 rc, .int .i64 rq, .string rl, .string rk, .string rv] 58) = y7 at *
                  generalize y1.heap.size = b5 at *
                  refine hK.out _ _ (req_load5 (HXc.out.below hE7 HXc.out.lt)) (fun hHeld => ?_)
                  clear hK K
                  (try simp only [Act.put, List.setIfInBounds_toArray, List.set_cons_zero, List.set_cons_succ])
                  refine doH (i := 3) rfl (by kernel_rfl) (by rfl) (fun K hK => ?_)
                  obtain ⟨v3, y8, hr3, hO3, hg3⟩ := append_g reqOk hO oa M ca HLN.out (HOLD.out y7 hE7) HNIL.out (by simp; omega) hE7.size
                  have hE8 := hE7.grown hg3 hE7.size (fun j hj => (World.ownsRow.lt hO j hj).1)
                  have hR := hR.grown hg3 (fun a e => by cases e; intro e2; injection e2 with e2; have e3 : b0 = b5 := e2; omega)
                  clear hO
                  have hO := hO3
                  clear hO3
                  rw [List.nil_append] at hO
                  refine Lib.wp_append_run _ _ _ 32 32 rfl _ _ rfl rfl _ _ hr3 ?_
                  clear hr3 hg3
                  refine hK.out _ _ (req_load5 (HXc.out.below hE8 HXc.out.lt)) (fun hHeld => ?_)
                  clear hK K
                  (try simp only [Act.put, List.setIfInBounds_toArray, List.set_cons_zero, List.set_cons_succ])
                  refine doH (i := 6) rfl (by kernel_rfl) (by rfl) (fun K hK => ?_)
                  obtain ⟨v6, y9, hr6, hO6, hg6⟩ := append_g reqOk hO (some ⟨b5, 0, none⟩) 1 1 rfl hR (fun h => absurd h (by decide)) (by rw [HLN.out]; omega) hE8.size
                  have hE9 := hE8.grown hg6 hE8.size (fun j hj => (World.ownsRow.lt hO j hj).1)
                  refine Lib.wp_append_run _ _ _ 32 32 rfl _ _ rfl rfl _ _ hr6 ?_
                  clear hr6 hg6 hO
                  obtain ⟨o6, n6, c6, hv6⟩ : ∃ o n c, v6 = .slice o n c := (by obtain ⟨o, c, h, _⟩ := hO6.form reqOk; exact ⟨_, _, _, h⟩)
                  subst hv6
                  refine hK.out _ _ (req_load5 (HXc.out.below hE9 HXc.out.lt)) (fun hHeld => ?_)
                  clear hK K
                  (try simp only [Act.put, List.setIfInBounds_toArray, List.set_cons_zero, List.set_cons_succ])
                  (apply tkF [7] rfl rfl (by kernel_rfl) (fun _ _ _ h => h) (by rfl); (case hy => (intro w hSw; (try dsimp only at hSw); go_simp; try with_reducible rfl)); (case hS => assumption); (try simp only [Act.put, List.setIfInBounds_toArray, List.set_cons_zero, List.set_cons_succ]))
                  refine doH (i := 8) rfl (by kernel_rfl) (by rfl) (fun K hK => ?_)
                  have hW := HWc.out.below hE9 HWc.out.lt
                  have c8 := hW.cell 0
                  have f8 := hW.frozen 0
                  change y9.cell? _ = some (.slice oa M ca) at c8
                  go_simp
                  have hW8 : Blk (y9.setCell ⟨w.heap.size, 0, none⟩ (.slice o6 n6 c6)) w.heap.size 44 #[.slice o6 n6 c6, .slice ob M cb, .slice oc P cc] := hW.set_ 0 (.slice o6 n6 c6)
                  have hG8 : World.grownBy wa (y9.setCell ⟨w.heap.size, 0, none⟩ (.slice o6 n6 c6)) (some w.heap.size) := grown_trans (only_of_below hE9 (some w.heap.size)) (grownG_setCell y9 ⟨w.heap.size, 0, none⟩ (.slice o6 n6 c6))
                  have hO8 := hO6.grown (grownG_setCell y9 ⟨w.heap.size, 0, none⟩ (.slice o6 n6 c6)) (by cases hv : Value.ownBlock (.slice o6 n6 c6) with | none => exact .inl rfl | some q => refine .inr (fun e => ?_); have h1 := (World.ownsRow.lt hO6 q hv).1; have h2 := HWc.out.lt; injection e with e; have e3 : q = w.heap.size := e; omega)
                  refine hK.out _ _ (req_load5 ((HXc.out.below hE9 HXc.out.lt).far (p := ⟨w.heap.size, 0, none⟩) (by show w.heap.size + 1 ≠ w.heap.size; omega) (.slice o6 n6 c6))) (fun hHeld => ?_)
                  clear hK K
                  (try simp only [Act.put, List.setIfInBounds_toArray, List.set_cons_zero, List.set_cons_succ])
                  refine wpAnyH_done (by kernel_rfl) ?_ _
                  go_wp2_with fail
                  go_meet
                  exact ⟨.slice o6 n6 c6, hO8, hW8, hG8⟩
              · go_simp
                have hR := rowG_new reqOk y1 (⟨rc, rq, rl, rk, rv⟩ : Req)
                have hyA := (Below.refl _ y1).alloc (Nat.le_refl _) (.cells #[.int .i64 rc, .int .i64 rq, .string rl, .string rk, .string rv] 58)
                have hE11 := hE1.trans (hyA.mono hE1.size)
                change RowG _ (y1.alloc (.cells #[.int .i64 rc, .int .i64 rq, .string rl, .string rk, .string rv] 58)) _ _ at hR
                have hO := hO.below hyA
                have hb05 : b0 ≠ y1.heap.size := by omega
                have hbl : y1.heap.size < (y1.alloc (.cells #[.int .i64 rc, .int .i64 rq, .string rl, .string rk, .string rv] 58)).heap.size := by simp
                generalize y1.alloc (.cells #[.int .i64 rc, .int .i64 rq, .string rl, .string rk, .string rv] 58) = y11 at *
                generalize y1.heap.size = b5 at *
                refine hK.out _ _ (req_load5 (HXc.out.below hE11 HXc.out.lt)) (fun hHeld => ?_)
                clear hK K
                (try simp only [Act.put, List.setIfInBounds_toArray, List.set_cons_zero, List.set_cons_succ])
                refine doH (i := 2) rfl (by kernel_rfl) (by rfl) (fun K hK => ?_)
                have hL := sl_req (w := y11) (p := ⟨w.heap.size, 0, none⟩) ((HWc.out.below hE11 HWc.out.lt).cell 0)
                change (loadVar 32 _).run Tryz.prog y11 = .ok (.slice oa M ca) y11 at hL
                go_simp
                refine hK.out _ _ (req_load5 (HXc.out.below hE11 HXc.out.lt)) (fun hHeld => ?_)
                clear hK K
                (try simp only [Act.put, List.setIfInBounds_toArray, List.set_cons_zero, List.set_cons_succ])
                clear hL
                refine doH (i := 3) rfl (by kernel_rfl) (by rfl) (fun K hK => ?_)
                obtain ⟨v3, y13, hr3, hO3, hg3⟩ := append_g reqOk hO oa M ca HLN.out (HOLD.out y11 hE11) HNIL.out (by simp; omega) hE11.size
                have hE13 := hE11.grown hg3 hE11.size (fun j hj => (World.ownsRow.lt hO j hj).1)
                have hR := hR.grown hg3 (fun a e => by cases e; intro e2; injection e2 with e2; have e3 : b0 = b5 := e2; omega)
                clear hO
                have hO := hO3
                clear hO3
                rw [List.nil_append] at hO
                refine Lib.wp_append_run _ _ _ 32 32 rfl _ _ rfl rfl _ _ hr3 ?_
                clear hr3 hg3
                refine hK.out _ _ (req_load5 (HXc.out.below hE13 HXc.out.lt)) (fun hHeld => ?_)
                clear hK K
                (try simp only [Act.put, List.setIfInBounds_toArray, List.set_cons_zero, List.set_cons_succ])
                refine doH (i := 6) rfl (by kernel_rfl) (by rfl) (fun K hK => ?_)
                obtain ⟨v6, y14, hr6, hO6, hg6⟩ := append_g reqOk hO (some ⟨b5, 0, none⟩) 1 1 rfl hR (fun h => absurd h (by decide)) (by rw [HLN.out]; omega) hE13.size
                have hE14 := hE13.grown hg6 hE13.size (fun j hj => (World.ownsRow.lt hO j hj).1)
                refine Lib.wp_append_run _ _ _ 32 32 rfl _ _ rfl rfl _ _ hr6 ?_
                clear hr6 hg6 hO
                obtain ⟨o6, n6, c6, hv6⟩ : ∃ o n c, v6 = .slice o n c := (by obtain ⟨o, c, h, _⟩ := hO6.form reqOk; exact ⟨_, _, _, h⟩)
                subst hv6
                refine hK.out _ _ (req_load5 (HXc.out.below hE14 HXc.out.lt)) (fun hHeld => ?_)
                clear hK K
                (try simp only [Act.put, List.setIfInBounds_toArray, List.set_cons_zero, List.set_cons_succ])
                (apply tkF [7] rfl rfl (by kernel_rfl) (fun _ _ _ h => h) (by rfl); (case hy => (intro w hSw; (try dsimp only at hSw); go_simp; try with_reducible rfl)); (case hS => assumption); (try simp only [Act.put, List.setIfInBounds_toArray, List.set_cons_zero, List.set_cons_succ]))
                refine doH (i := 8) rfl (by kernel_rfl) (by rfl) (fun K hK => ?_)
                have hW := HWc.out.below hE14 HWc.out.lt
                have c8 := hW.cell 0
                have f8 := hW.frozen 0
                change y14.cell? _ = some (.slice oa M ca) at c8
                go_simp
                have hW8 : Blk (y14.setCell ⟨w.heap.size, 0, none⟩ (.slice o6 n6 c6)) w.heap.size 44 #[.slice o6 n6 c6, .slice ob M cb, .slice oc P cc] := hW.set_ 0 (.slice o6 n6 c6)
                have hG8 : World.grownBy wa (y14.setCell ⟨w.heap.size, 0, none⟩ (.slice o6 n6 c6)) (some w.heap.size) := grown_trans (only_of_below hE14 (some w.heap.size)) (grownG_setCell y14 ⟨w.heap.size, 0, none⟩ (.slice o6 n6 c6))
                have hO8 := hO6.grown (grownG_setCell y14 ⟨w.heap.size, 0, none⟩ (.slice o6 n6 c6)) (by cases hv : Value.ownBlock (.slice o6 n6 c6) with | none => exact .inl rfl | some q => refine .inr (fun e => ?_); have h1 := (World.ownsRow.lt hO6 q hv).1; have h2 := HWc.out.lt; injection e with e; have e3 : q = w.heap.size := e; omega)
                refine hK.out _ _ (req_load5 ((HXc.out.below hE14 HXc.out.lt).far (p := ⟨w.heap.size, 0, none⟩) (by show w.heap.size + 1 ≠ w.heap.size; omega) (.slice o6 n6 c6))) (fun hHeld => ?_)
                clear hK K
                (try simp only [Act.put, List.setIfInBounds_toArray, List.set_cons_zero, List.set_cons_succ])
                refine wpAnyH_done (by kernel_rfl) ?_ _
                go_wp2_with fail
                go_meet
                exact ⟨.slice o6 n6 c6, hO8, hW8, hG8⟩
            · have hL := sl_req (w := y0) (p := ⟨w.heap.size, 0, none⟩) ((HWc.out.below hE0 HWc.out.lt).cell 0)
              change (loadVar 32 _).run Tryz.prog y0 = .ok (.slice oa M ca) y0 at hL
              go_simp
              refine hK.out _ _ (req_load5 (HXc.out.below hE0 HXc.out.lt)) (fun hHeld => ?_)
              clear hK K
              (try simp only [Act.put, List.setIfInBounds_toArray, List.set_cons_zero, List.set_cons_succ])
              clear hL
              refine doH2 (i := 0) (j := 5) rfl rfl (by kernel_rfl) (by rfl) (by rfl) (fun K hK => ?_) (fun K hK => ?_)
              · go_simp
                have hO := ownG_lit reqOk y0 wa.heap.size hE0.size
                have hyA := (Below.refl _ y0).alloc (Nat.le_refl _) (.cells #[] 58)
                have hE17 := hE0.trans (hyA.mono hE0.size)
                change OwnG _ (y0.alloc (.cells #[] 58)) _ _ _ at hO
                have hb0 : y0.heap.size < (y0.alloc (.cells #[] 58)).heap.size := by simp
                generalize y0.alloc (.cells #[] 58) = y17 at *
                generalize y0.heap.size = b0 at *
                refine hK.out _ _ (req_load5 (HXc.out.below hE17 HXc.out.lt)) (fun hHeld => ?_)
                clear hK K
                (try simp only [Act.put, List.setIfInBounds_toArray, List.set_cons_zero, List.set_cons_succ])
                refine doH2 (i := 3) (j := 5) rfl rfl (by kernel_rfl) (by rfl) (by rfl) (fun K hK => ?_) (fun K hK => ?_)
                · obtain ⟨v3, y18, hr3, hO3, hg3⟩ := append_g reqOk hO oa M ca HLN.out (HOLD.out y17 hE17) HNIL.out (by simp; omega) hE17.size
                  have hE18 := hE17.grown hg3 hE17.size (fun j hj => (World.ownsRow.lt hO j hj).1)
                  clear hO
                  have hO := hO3
                  clear hO3
                  rw [List.nil_append] at hO
                  refine Lib.wp_append_run _ _ _ 32 32 rfl _ _ rfl rfl _ _ hr3 ?_
                  clear hr3 hg3
                  refine hK.out _ _ (req_load5 (HXc.out.below hE18 HXc.out.lt)) (fun hHeld => ?_)
                  clear hK K
                  (try simp only [Act.put, List.setIfInBounds_toArray, List.set_cons_zero, List.set_cons_succ])
                  refine doH (i := 5) rfl (by kernel_rfl) (by rfl) (fun K hK => ?_)
                  go_simp
                  have hR := rowG_new reqOk y18 (⟨rc, rq, rl, rk, rv⟩ : Req)
                  have hyA := (Below.refl _ y18).alloc (Nat.le_refl _) (.cells #[.int .i64 rc, .int .i64 rq, .string rl, .string rk, .string rv] 58)
                  have hE19 := hE18.trans (hyA.mono hE18.size)
                  change RowG _ (y18.alloc (.cells #[.int .i64 rc, .int .i64 rq, .string rl, .string rk, .string rv] 58)) _ _ at hR
                  have hO := hO.below hyA
                  have hbl : y18.heap.size < (y18.alloc (.cells #[.int .i64 rc, .int .i64 rq, .string rl, .string rk, .string rv] 58)).heap.size := by simp
                  generalize y18.alloc (.cells #[.int .i64 rc, .int .i64 rq, .string rl, .string rk, .string rv] 58) = y19 at *
                  generalize y18.heap.size = b5 at *
                  refine hK.out _ _ (req_load5 (HXc.out.below hE19 HXc.out.lt)) (fun hHeld => ?_)
                  clear hK K
                  (try simp only [Act.put, List.setIfInBounds_toArray, List.set_cons_zero, List.set_cons_succ])
                  refine doH (i := 6) rfl (by kernel_rfl) (by rfl) (fun K hK => ?_)
                  obtain ⟨v6, y20, hr6, hO6, hg6⟩ := append_g reqOk hO (some ⟨b5, 0, none⟩) 1 1 rfl hR (fun h => absurd h (by decide)) (by rw [HLN.out]; omega) hE19.size
                  have hE20 := hE19.grown hg6 hE19.size (fun j hj => (World.ownsRow.lt hO j hj).1)
                  refine Lib.wp_append_run _ _ _ 32 32 rfl _ _ rfl rfl _ _ hr6 ?_
                  clear hr6 hg6 hO
                  obtain ⟨o6, n6, c6, hv6⟩ : ∃ o n c, v6 = .slice o n c := (by obtain ⟨o, c, h, _⟩ := hO6.form reqOk; exact ⟨_, _, _, h⟩)
                  subst hv6
                  refine hK.out _ _ (req_load5 (HXc.out.below hE20 HXc.out.lt)) (fun hHeld => ?_)
                  clear hK K
                  (try simp only [Act.put, List.setIfInBounds_toArray, List.set_cons_zero, List.set_cons_succ])
                  (apply tkF [7] rfl rfl (by kernel_rfl) (fun _ _ _ h => h) (by rfl); (case hy => (intro w hSw; (try dsimp only at hSw); go_simp; try with_reducible rfl)); (case hS => assumption); (try simp only [Act.put, List.setIfInBounds_toArray, List.set_cons_zero, List.set_cons_succ]))
                  refine doH (i := 8) rfl (by kernel_rfl) (by rfl) (fun K hK => ?_)
                  have hW := HWc.out.below hE20 HWc.out.lt
                  have c8 := hW.cell 0
                  have f8 := hW.frozen 0
                  change y20.cell? _ = some (.slice oa M ca) at c8
                  go_simp
                  have hW8 : Blk (y20.setCell ⟨w.heap.size, 0, none⟩ (.slice o6 n6 c6)) w.heap.size 44 #[.slice o6 n6 c6, .slice ob M cb, .slice oc P cc] := hW.set_ 0 (.slice o6 n6 c6)
                  have hG8 : World.grownBy wa (y20.setCell ⟨w.heap.size, 0, none⟩ (.slice o6 n6 c6)) (some w.heap.size) := grown_trans (only_of_below hE20 (some w.heap.size)) (grownG_setCell y20 ⟨w.heap.size, 0, none⟩ (.slice o6 n6 c6))
                  have hO8 := hO6.grown (grownG_setCell y20 ⟨w.heap.size, 0, none⟩ (.slice o6 n6 c6)) (by cases hv : Value.ownBlock (.slice o6 n6 c6) with | none => exact .inl rfl | some q => refine .inr (fun e => ?_); have h1 := (World.ownsRow.lt hO6 q hv).1; have h2 := HWc.out.lt; injection e with e; have e3 : q = w.heap.size := e; omega)
                  refine hK.out _ _ (req_load5 ((HXc.out.below hE20 HXc.out.lt).far (p := ⟨w.heap.size, 0, none⟩) (by show w.heap.size + 1 ≠ w.heap.size; omega) (.slice o6 n6 c6))) (fun hHeld => ?_)
                  clear hK K
                  (try simp only [Act.put, List.setIfInBounds_toArray, List.set_cons_zero, List.set_cons_succ])
                  refine wpAnyH_done (by kernel_rfl) ?_ _
                  go_wp2_with fail
                  go_meet
                  exact ⟨.slice o6 n6 c6, hO8, hW8, hG8⟩
                · go_simp
                  have hR := rowG_new reqOk y17 (⟨rc, rq, rl, rk, rv⟩ : Req)
                  have hyA := (Below.refl _ y17).alloc (Nat.le_refl _) (.cells #[.int .i64 rc, .int .i64 rq, .string rl, .string rk, .string rv] 58)
                  have hE22 := hE17.trans (hyA.mono hE17.size)
                  change RowG _ (y17.alloc (.cells #[.int .i64 rc, .int .i64 rq, .string rl, .string rk, .string rv] 58)) _ _ at hR
                  have hO := hO.below hyA
                  have hb05 : b0 ≠ y17.heap.size := by omega
                  have hbl : y17.heap.size < (y17.alloc (.cells #[.int .i64 rc, .int .i64 rq, .string rl, .string rk, .string rv] 58)).heap.size := by simp
                  generalize y17.alloc (.cells #[.int .i64 rc, .int .i64 rq, .string rl, .string rk, .string rv] 58) = y22 at *
                  generalize y17.heap.size = b5 at *
                  refine hK.out _ _ (req_load5 (HXc.out.below hE22 HXc.out.lt)) (fun hHeld => ?_)
                  clear hK K
                  (try simp only [Act.put, List.setIfInBounds_toArray, List.set_cons_zero, List.set_cons_succ])
                  refine doH (i := 3) rfl (by kernel_rfl) (by rfl) (fun K hK => ?_)
                  obtain ⟨v3, y23, hr3, hO3, hg3⟩ := append_g reqOk hO oa M ca HLN.out (HOLD.out y22 hE22) HNIL.out (by simp; omega) hE22.size
                  have hE23 := hE22.grown hg3 hE22.size (fun j hj => (World.ownsRow.lt hO j hj).1)
                  have hR := hR.grown hg3 (fun a e => by cases e; intro e2; injection e2 with e2; have e3 : b0 = b5 := e2; omega)
                  clear hO
                  have hO := hO3
                  clear hO3
                  rw [List.nil_append] at hO
                  refine Lib.wp_append_run _ _ _ 32 32 rfl _ _ rfl rfl _ _ hr3 ?_
                  clear hr3 hg3
                  refine hK.out _ _ (req_load5 (HXc.out.below hE23 HXc.out.lt)) (fun hHeld => ?_)
                  clear hK K
                  (try simp only [Act.put, List.setIfInBounds_toArray, List.set_cons_zero, List.set_cons_succ])
                  refine doH (i := 6) rfl (by kernel_rfl) (by rfl) (fun K hK => ?_)
                  obtain ⟨v6, y24, hr6, hO6, hg6⟩ := append_g reqOk hO (some ⟨b5, 0, none⟩) 1 1 rfl hR (fun h => absurd h (by decide)) (by rw [HLN.out]; omega) hE23.size
                  have hE24 := hE23.grown hg6 hE23.size (fun j hj => (World.ownsRow.lt hO j hj).1)
                  refine Lib.wp_append_run _ _ _ 32 32 rfl _ _ rfl rfl _ _ hr6 ?_
                  clear hr6 hg6 hO
                  obtain ⟨o6, n6, c6, hv6⟩ : ∃ o n c, v6 = .slice o n c := (by obtain ⟨o, c, h, _⟩ := hO6.form reqOk; exact ⟨_, _, _, h⟩)
                  subst hv6
                  refine hK.out _ _ (req_load5 (HXc.out.below hE24 HXc.out.lt)) (fun hHeld => ?_)
                  clear hK K
                  (try simp only [Act.put, List.setIfInBounds_toArray, List.set_cons_zero, List.set_cons_succ])
                  (apply tkF [7] rfl rfl (by kernel_rfl) (fun _ _ _ h => h) (by rfl); (case hy => (intro w hSw; (try dsimp only at hSw); go_simp; try with_reducible rfl)); (case hS => assumption); (try simp only [Act.put, List.setIfInBounds_toArray, List.set_cons_zero, List.set_cons_succ]))
                  refine doH (i := 8) rfl (by kernel_rfl) (by rfl) (fun K hK => ?_)
                  have hW := HWc.out.below hE24 HWc.out.lt
                  have c8 := hW.cell 0
                  have f8 := hW.frozen 0
                  change y24.cell? _ = some (.slice oa M ca) at c8
                  go_simp
                  have hW8 : Blk (y24.setCell ⟨w.heap.size, 0, none⟩ (.slice o6 n6 c6)) w.heap.size 44 #[.slice o6 n6 c6, .slice ob M cb, .slice oc P cc] := hW.set_ 0 (.slice o6 n6 c6)
                  have hG8 : World.grownBy wa (y24.setCell ⟨w.heap.size, 0, none⟩ (.slice o6 n6 c6)) (some w.heap.size) := grown_trans (only_of_below hE24 (some w.heap.size)) (grownG_setCell y24 ⟨w.heap.size, 0, none⟩ (.slice o6 n6 c6))
                  have hO8 := hO6.grown (grownG_setCell y24 ⟨w.heap.size, 0, none⟩ (.slice o6 n6 c6)) (by cases hv : Value.ownBlock (.slice o6 n6 c6) with | none => exact .inl rfl | some q => refine .inr (fun e => ?_); have h1 := (World.ownsRow.lt hO6 q hv).1; have h2 := HWc.out.lt; injection e with e; have e3 : q = w.heap.size := e; omega)
                  refine hK.out _ _ (req_load5 ((HXc.out.below hE24 HXc.out.lt).far (p := ⟨w.heap.size, 0, none⟩) (by show w.heap.size + 1 ≠ w.heap.size; omega) (.slice o6 n6 c6))) (fun hHeld => ?_)
                  clear hK K
                  (try simp only [Act.put, List.setIfInBounds_toArray, List.set_cons_zero, List.set_cons_succ])
                  refine wpAnyH_done (by kernel_rfl) ?_ _
                  go_wp2_with fail
                  go_meet
                  exact ⟨.slice o6 n6 c6, hO8, hW8, hG8⟩
              · go_simp
                have hR := rowG_new reqOk y0 (⟨rc, rq, rl, rk, rv⟩ : Req)
                have hyA := (Below.refl _ y0).alloc (Nat.le_refl _) (.cells #[.int .i64 rc, .int .i64 rq, .string rl, .string rk, .string rv] 58)
                have hE26 := hE0.trans (hyA.mono hE0.size)
                change RowG _ (y0.alloc (.cells #[.int .i64 rc, .int .i64 rq, .string rl, .string rk, .string rv] 58)) _ _ at hR
                have hbl : y0.heap.size < (y0.alloc (.cells #[.int .i64 rc, .int .i64 rq, .string rl, .string rk, .string rv] 58)).heap.size := by simp
                generalize y0.alloc (.cells #[.int .i64 rc, .int .i64 rq, .string rl, .string rk, .string rv] 58) = y26 at *
                generalize y0.heap.size = b5 at *
                refine hK.out _ _ (req_load5 (HXc.out.below hE26 HXc.out.lt)) (fun hHeld => ?_)
                clear hK K
                (try simp only [Act.put, List.setIfInBounds_toArray, List.set_cons_zero, List.set_cons_succ])
                refine doH (i := 0) rfl (by kernel_rfl) (by rfl) (fun K hK => ?_)
                go_simp
                have hO := ownG_lit reqOk y26 wa.heap.size hE26.size
                have hyA := (Below.refl _ y26).alloc (Nat.le_refl _) (.cells #[] 58)
                have hE27 := hE26.trans (hyA.mono hE26.size)
                change OwnG _ (y26.alloc (.cells #[] 58)) _ _ _ at hO
                have hR := hR.below hyA
                have hb05 : y26.heap.size ≠ b5 := by omega
                have hb0 : y26.heap.size < (y26.alloc (.cells #[] 58)).heap.size := by simp
                generalize y26.alloc (.cells #[] 58) = y27 at *
                generalize y26.heap.size = b0 at *
                have hbl : b5 < y27.heap.size := by omega
                refine hK.out _ _ (req_load5 (HXc.out.below hE27 HXc.out.lt)) (fun hHeld => ?_)
                clear hK K
                (try simp only [Act.put, List.setIfInBounds_toArray, List.set_cons_zero, List.set_cons_succ])
                refine doH (i := 3) rfl (by kernel_rfl) (by rfl) (fun K hK => ?_)
                obtain ⟨v3, y28, hr3, hO3, hg3⟩ := append_g reqOk hO oa M ca HLN.out (HOLD.out y27 hE27) HNIL.out (by simp; omega) hE27.size
                have hE28 := hE27.grown hg3 hE27.size (fun j hj => (World.ownsRow.lt hO j hj).1)
                have hR := hR.grown hg3 (fun a e => by cases e; intro e2; injection e2 with e2; have e3 : b0 = b5 := e2; omega)
                clear hO
                have hO := hO3
                clear hO3
                rw [List.nil_append] at hO
                refine Lib.wp_append_run _ _ _ 32 32 rfl _ _ rfl rfl _ _ hr3 ?_
                clear hr3 hg3
                refine hK.out _ _ (req_load5 (HXc.out.below hE28 HXc.out.lt)) (fun hHeld => ?_)
                clear hK K
                (try simp only [Act.put, List.setIfInBounds_toArray, List.set_cons_zero, List.set_cons_succ])
                refine doH (i := 6) rfl (by kernel_rfl) (by rfl) (fun K hK => ?_)
                obtain ⟨v6, y29, hr6, hO6, hg6⟩ := append_g reqOk hO (some ⟨b5, 0, none⟩) 1 1 rfl hR (fun h => absurd h (by decide)) (by rw [HLN.out]; omega) hE28.size
                have hE29 := hE28.grown hg6 hE28.size (fun j hj => (World.ownsRow.lt hO j hj).1)
                refine Lib.wp_append_run _ _ _ 32 32 rfl _ _ rfl rfl _ _ hr6 ?_
                clear hr6 hg6 hO
                obtain ⟨o6, n6, c6, hv6⟩ : ∃ o n c, v6 = .slice o n c := (by obtain ⟨o, c, h, _⟩ := hO6.form reqOk; exact ⟨_, _, _, h⟩)
                subst hv6
                refine hK.out _ _ (req_load5 (HXc.out.below hE29 HXc.out.lt)) (fun hHeld => ?_)
                clear hK K
                (try simp only [Act.put, List.setIfInBounds_toArray, List.set_cons_zero, List.set_cons_succ])
                (apply tkF [7] rfl rfl (by kernel_rfl) (fun _ _ _ h => h) (by rfl); (case hy => (intro w hSw; (try dsimp only at hSw); go_simp; try with_reducible rfl)); (case hS => assumption); (try simp only [Act.put, List.setIfInBounds_toArray, List.set_cons_zero, List.set_cons_succ]))
                refine doH (i := 8) rfl (by kernel_rfl) (by rfl) (fun K hK => ?_)
                have hW := HWc.out.below hE29 HWc.out.lt
                have c8 := hW.cell 0
                have f8 := hW.frozen 0
                change y29.cell? _ = some (.slice oa M ca) at c8
                go_simp
                have hW8 : Blk (y29.setCell ⟨w.heap.size, 0, none⟩ (.slice o6 n6 c6)) w.heap.size 44 #[.slice o6 n6 c6, .slice ob M cb, .slice oc P cc] := hW.set_ 0 (.slice o6 n6 c6)
                have hG8 : World.grownBy wa (y29.setCell ⟨w.heap.size, 0, none⟩ (.slice o6 n6 c6)) (some w.heap.size) := grown_trans (only_of_below hE29 (some w.heap.size)) (grownG_setCell y29 ⟨w.heap.size, 0, none⟩ (.slice o6 n6 c6))
                have hO8 := hO6.grown (grownG_setCell y29 ⟨w.heap.size, 0, none⟩ (.slice o6 n6 c6)) (by cases hv : Value.ownBlock (.slice o6 n6 c6) with | none => exact .inl rfl | some q => refine .inr (fun e => ?_); have h1 := (World.ownsRow.lt hO6 q hv).1; have h2 := HWc.out.lt; injection e with e; have e3 : q = w.heap.size := e; omega)
                refine hK.out _ _ (req_load5 ((HXc.out.below hE29 HXc.out.lt).far (p := ⟨w.heap.size, 0, none⟩) (by show w.heap.size + 1 ≠ w.heap.size; omega) (.slice o6 n6 c6))) (fun hHeld => ?_)
                clear hK K
                (try simp only [Act.put, List.setIfInBounds_toArray, List.set_cons_zero, List.set_cons_succ])
                refine wpAnyH_done (by kernel_rfl) ?_ _
                go_wp2_with fail
                go_meet
                exact ⟨.slice o6 n6 c6, hO8, hW8, hG8⟩
            · go_simp
              have hR := rowG_new reqOk y0 (⟨rc, rq, rl, rk, rv⟩ : Req)
              have hyA := (Below.refl _ y0).alloc (Nat.le_refl _) (.cells #[.int .i64 rc, .int .i64 rq, .string rl, .string rk, .string rv] 58)
              have hE31 := hE0.trans (hyA.mono hE0.size)
              change RowG _ (y0.alloc (.cells #[.int .i64 rc, .int .i64 rq, .string rl, .string rk, .string rv] 58)) _ _ at hR
              have hbl : y0.heap.size < (y0.alloc (.cells #[.int .i64 rc, .int .i64 rq, .string rl, .string rk, .string rv] 58)).heap.size := by simp
              generalize y0.alloc (.cells #[.int .i64 rc, .int .i64 rq, .string rl, .string rk, .string rv] 58) = y31 at *
              generalize y0.heap.size = b5 at *
              refine hK.out _ _ (req_load5 (HXc.out.below hE31 HXc.out.lt)) (fun hHeld => ?_)
              clear hK K
              (try simp only [Act.put, List.setIfInBounds_toArray, List.set_cons_zero, List.set_cons_succ])
              refine doH2 (i := 0) (j := 2) rfl rfl (by kernel_rfl) (by rfl) (by rfl) (fun K hK => ?_) (fun K hK => ?_)
              · go_simp
                have hO := ownG_lit reqOk y31 wa.heap.size hE31.size
                have hyA := (Below.refl _ y31).alloc (Nat.le_refl _) (.cells #[] 58)
                have hE32 := hE31.trans (hyA.mono hE31.size)
                change OwnG _ (y31.alloc (.cells #[] 58)) _ _ _ at hO
                have hR := hR.below hyA
                have hb05 : y31.heap.size ≠ b5 := by omega
                have hb0 : y31.heap.size < (y31.alloc (.cells #[] 58)).heap.size := by simp
                generalize y31.alloc (.cells #[] 58) = y32 at *
                generalize y31.heap.size = b0 at *
                have hbl : b5 < y32.heap.size := by omega
                refine hK.out _ _ (req_load5 (HXc.out.below hE32 HXc.out.lt)) (fun hHeld => ?_)
                clear hK K
                (try simp only [Act.put, List.setIfInBounds_toArray, List.set_cons_zero, List.set_cons_succ])
                refine doH (i := 2) rfl (by kernel_rfl) (by rfl) (fun K hK => ?_)
                have hL := sl_req (w := y32) (p := ⟨w.heap.size, 0, none⟩) ((HWc.out.below hE32 HWc.out.lt).cell 0)
                change (loadVar 32 _).run Tryz.prog y32 = .ok (.slice oa M ca) y32 at hL
                go_simp
                refine hK.out _ _ (req_load5 (HXc.out.below hE32 HXc.out.lt)) (fun hHeld => ?_)
                clear hK K
                (try simp only [Act.put, List.setIfInBounds_toArray, List.set_cons_zero, List.set_cons_succ])
                clear hL
                refine doH (i := 3) rfl (by kernel_rfl) (by rfl) (fun K hK => ?_)
                obtain ⟨v3, y34, hr3, hO3, hg3⟩ := append_g reqOk hO oa M ca HLN.out (HOLD.out y32 hE32) HNIL.out (by simp; omega) hE32.size
                have hE34 := hE32.grown hg3 hE32.size (fun j hj => (World.ownsRow.lt hO j hj).1)
                have hR := hR.grown hg3 (fun a e => by cases e; intro e2; injection e2 with e2; have e3 : b0 = b5 := e2; omega)
                clear hO
                have hO := hO3
                clear hO3
                rw [List.nil_append] at hO
                refine Lib.wp_append_run _ _ _ 32 32 rfl _ _ rfl rfl _ _ hr3 ?_
                clear hr3 hg3
                refine hK.out _ _ (req_load5 (HXc.out.below hE34 HXc.out.lt)) (fun hHeld => ?_)
                clear hK K
                (try simp only [Act.put, List.setIfInBounds_toArray, List.set_cons_zero, List.set_cons_succ])
                refine doH (i := 6) rfl (by kernel_rfl) (by rfl) (fun K hK => ?_)
                obtain ⟨v6, y35, hr6, hO6, hg6⟩ := append_g reqOk hO (some ⟨b5, 0, none⟩) 1 1 rfl hR (fun h => absurd h (by decide)) (by rw [HLN.out]; omega) hE34.size
                have hE35 := hE34.grown hg6 hE34.size (fun j hj => (World.ownsRow.lt hO j hj).1)
                refine Lib.wp_append_run _ _ _ 32 32 rfl _ _ rfl rfl _ _ hr6 ?_
                clear hr6 hg6 hO
                obtain ⟨o6, n6, c6, hv6⟩ : ∃ o n c, v6 = .slice o n c := (by obtain ⟨o, c, h, _⟩ := hO6.form reqOk; exact ⟨_, _, _, h⟩)
                subst hv6
                refine hK.out _ _ (req_load5 (HXc.out.below hE35 HXc.out.lt)) (fun hHeld => ?_)
                clear hK K
                (try simp only [Act.put, List.setIfInBounds_toArray, List.set_cons_zero, List.set_cons_succ])
                (apply tkF [7] rfl rfl (by kernel_rfl) (fun _ _ _ h => h) (by rfl); (case hy => (intro w hSw; (try dsimp only at hSw); go_simp; try with_reducible rfl)); (case hS => assumption); (try simp only [Act.put, List.setIfInBounds_toArray, List.set_cons_zero, List.set_cons_succ]))
                refine doH (i := 8) rfl (by kernel_rfl) (by rfl) (fun K hK => ?_)
                have hW := HWc.out.below hE35 HWc.out.lt
                have c8 := hW.cell 0
                have f8 := hW.frozen 0
                change y35.cell? _ = some (.slice oa M ca) at c8
                go_simp
                have hW8 : Blk (y35.setCell ⟨w.heap.size, 0, none⟩ (.slice o6 n6 c6)) w.heap.size 44 #[.slice o6 n6 c6, .slice ob M cb, .slice oc P cc] := hW.set_ 0 (.slice o6 n6 c6)
                have hG8 : World.grownBy wa (y35.setCell ⟨w.heap.size, 0, none⟩ (.slice o6 n6 c6)) (some w.heap.size) := grown_trans (only_of_below hE35 (some w.heap.size)) (grownG_setCell y35 ⟨w.heap.size, 0, none⟩ (.slice o6 n6 c6))
                have hO8 := hO6.grown (grownG_setCell y35 ⟨w.heap.size, 0, none⟩ (.slice o6 n6 c6)) (by cases hv : Value.ownBlock (.slice o6 n6 c6) with | none => exact .inl rfl | some q => refine .inr (fun e => ?_); have h1 := (World.ownsRow.lt hO6 q hv).1; have h2 := HWc.out.lt; injection e with e; have e3 : q = w.heap.size := e; omega)
                refine hK.out _ _ (req_load5 ((HXc.out.below hE35 HXc.out.lt).far (p := ⟨w.heap.size, 0, none⟩) (by show w.heap.size + 1 ≠ w.heap.size; omega) (.slice o6 n6 c6))) (fun hHeld => ?_)
                clear hK K
                (try simp only [Act.put, List.setIfInBounds_toArray, List.set_cons_zero, List.set_cons_succ])
                refine wpAnyH_done (by kernel_rfl) ?_ _
                go_wp2_with fail
                go_meet
                exact ⟨.slice o6 n6 c6, hO8, hW8, hG8⟩
              · have hL := sl_req (w := y31) (p := ⟨w.heap.size, 0, none⟩) ((HWc.out.below hE31 HWc.out.lt).cell 0)
                change (loadVar 32 _).run Tryz.prog y31 = .ok (.slice oa M ca) y31 at hL
                go_simp
                refine hK.out _ _ (req_load5 (HXc.out.below hE31 HXc.out.lt)) (fun hHeld => ?_)
                clear hK K
                (try simp only [Act.put, List.setIfInBounds_toArray, List.set_cons_zero, List.set_cons_succ])
                clear hL
                refine doH (i := 0) rfl (by kernel_rfl) (by rfl) (fun K hK => ?_)
                go_simp
                have hO := ownG_lit reqOk y31 wa.heap.size hE31.size
                have hyA := (Below.refl _ y31).alloc (Nat.le_refl _) (.cells #[] 58)
                have hE38 := hE31.trans (hyA.mono hE31.size)
                change OwnG _ (y31.alloc (.cells #[] 58)) _ _ _ at hO
                have hR := hR.below hyA
                have hb05 : y31.heap.size ≠ b5 := by omega
                have hb0 : y31.heap.size < (y31.alloc (.cells #[] 58)).heap.size := by simp
                generalize y31.alloc (.cells #[] 58) = y38 at *
                generalize y31.heap.size = b0 at *
                have hbl : b5 < y38.heap.size := by omega
                refine hK.out _ _ (req_load5 (HXc.out.below hE38 HXc.out.lt)) (fun hHeld => ?_)
                clear hK K
                (try simp only [Act.put, List.setIfInBounds_toArray, List.set_cons_zero, List.set_cons_succ])
                refine doH (i := 3) rfl (by kernel_rfl) (by rfl) (fun K hK => ?_)
                obtain ⟨v3, y39, hr3, hO3, hg3⟩ := append_g reqOk hO oa M ca HLN.out (HOLD.out y38 hE38) HNIL.out (by simp; omega) hE38.size
                have hE39 := hE38.grown hg3 hE38.size (fun j hj => (World.ownsRow.lt hO j hj).1)
                have hR := hR.grown hg3 (fun a e => by cases e; intro e2; injection e2 with e2; have e3 : b0 = b5 := e2; omega)
                clear hO
                have hO := hO3
                clear hO3
                rw [List.nil_append] at hO
                refine Lib.wp_append_run _ _ _ 32 32 rfl _ _ rfl rfl _ _ hr3 ?_
                clear hr3 hg3
                refine hK.out _ _ (req_load5 (HXc.out.below hE39 HXc.out.lt)) (fun hHeld => ?_)
                clear hK K
                (try simp only [Act.put, List.setIfInBounds_toArray, List.set_cons_zero, List.set_cons_succ])
                refine doH (i := 6) rfl (by kernel_rfl) (by rfl) (fun K hK => ?_)
                obtain ⟨v6, y40, hr6, hO6, hg6⟩ := append_g reqOk hO (some ⟨b5, 0, none⟩) 1 1 rfl hR (fun h => absurd h (by decide)) (by rw [HLN.out]; omega) hE39.size
                have hE40 := hE39.grown hg6 hE39.size (fun j hj => (World.ownsRow.lt hO j hj).1)
                refine Lib.wp_append_run _ _ _ 32 32 rfl _ _ rfl rfl _ _ hr6 ?_
                clear hr6 hg6 hO
                obtain ⟨o6, n6, c6, hv6⟩ : ∃ o n c, v6 = .slice o n c := (by obtain ⟨o, c, h, _⟩ := hO6.form reqOk; exact ⟨_, _, _, h⟩)
                subst hv6
                refine hK.out _ _ (req_load5 (HXc.out.below hE40 HXc.out.lt)) (fun hHeld => ?_)
                clear hK K
                (try simp only [Act.put, List.setIfInBounds_toArray, List.set_cons_zero, List.set_cons_succ])
                (apply tkF [7] rfl rfl (by kernel_rfl) (fun _ _ _ h => h) (by rfl); (case hy => (intro w hSw; (try dsimp only at hSw); go_simp; try with_reducible rfl)); (case hS => assumption); (try simp only [Act.put, List.setIfInBounds_toArray, List.set_cons_zero, List.set_cons_succ]))
                refine doH (i := 8) rfl (by kernel_rfl) (by rfl) (fun K hK => ?_)
                have hW := HWc.out.below hE40 HWc.out.lt
                have c8 := hW.cell 0
                have f8 := hW.frozen 0
                change y40.cell? _ = some (.slice oa M ca) at c8
                go_simp
                have hW8 : Blk (y40.setCell ⟨w.heap.size, 0, none⟩ (.slice o6 n6 c6)) w.heap.size 44 #[.slice o6 n6 c6, .slice ob M cb, .slice oc P cc] := hW.set_ 0 (.slice o6 n6 c6)
                have hG8 : World.grownBy wa (y40.setCell ⟨w.heap.size, 0, none⟩ (.slice o6 n6 c6)) (some w.heap.size) := grown_trans (only_of_below hE40 (some w.heap.size)) (grownG_setCell y40 ⟨w.heap.size, 0, none⟩ (.slice o6 n6 c6))
                have hO8 := hO6.grown (grownG_setCell y40 ⟨w.heap.size, 0, none⟩ (.slice o6 n6 c6)) (by cases hv : Value.ownBlock (.slice o6 n6 c6) with | none => exact .inl rfl | some q => refine .inr (fun e => ?_); have h1 := (World.ownsRow.lt hO6 q hv).1; have h2 := HWc.out.lt; injection e with e; have e3 : q = w.heap.size := e; omega)
                refine hK.out _ _ (req_load5 ((HXc.out.below hE40 HXc.out.lt).far (p := ⟨w.heap.size, 0, none⟩) (by show w.heap.size + 1 ≠ w.heap.size; omega) (.slice o6 n6 c6))) (fun hHeld => ?_)
                clear hK K
                (try simp only [Act.put, List.setIfInBounds_toArray, List.set_cons_zero, List.set_cons_succ])
                refine wpAnyH_done (by kernel_rfl) ?_ _
                go_wp2_with fail
                go_meet
                exact ⟨.slice o6 n6 c6, hO8, hW8, hG8⟩
           case rest =>
            obtain ⟨va, hO, hW, hG⟩ := hcut
            obtain ⟨na, ra, cra, hva⟩ : ∃ o n c, va = .slice o n c := (by obtain ⟨o, c, h, _⟩ := hO.form reqOk; exact ⟨_, _, _, h⟩)
            subst hva
            have HOa := Lib.hid hO
            have HK0b := Lib.hid hW
            have HK2b := Lib.hid (HK2a.out.grown hG (fun e => by injection e; omega))
            have HK3b := Lib.hid (HK3a.out.grown hG (fun e => by injection e; omega))
            have HQb := Lib.hid (HQa.out.grown hG (fun e => by injection e; omega))
            have HBb := Lib.hid (HBa.out.grown hG HBa.out.size (fun j hj => by injection hj; omega))
            have hsz := hG.size
            have hlw := HK3a.out.lt
            clear hO hW hG HWc HXc HLN HOLD HNIL HK0a HK1a HK2a HK3a HQa HBa
            obtain ⟨ba, hba⟩ : ∃ ba, wa.heap.size = ba := ⟨_, rfl⟩
            rw [hba] at HOa hsz hlw
            clear hba
            generalize wc = wb at *
            have HWc := HK0b
            have HXc := HQb
            have HLN := Lib.hid HM.out
            have HOLD : Hid (∀ W, Below wb.heap.size wb W → RowG repK W ob rp) := Lib.hid fun W hW => HB.out.below (HBb.out.trans (hW.mono HBb.out.size))
            have HNIL : Hid (M = 0 → ob = none → cb = 0) := Lib.hid fun _ => hob
            go_upto_region 20 with fail
            go_cut [] from 94 to 101 (fun wx => ∃ vd, OwnG repK wx wb.heap.size vd (rp ++ [(⟨0, M, (P : Int) + 1⟩ : Rep)]) ∧ Blk wx w.heap.size 44 #[.slice na ra cra, vd, .slice oc P cc] ∧ World.grownBy wb wx (some w.heap.size))
            case first =>
             refine wp_region_held_drew (S := fun W => (loadVar 35 ⟨gq, 0, none⟩).run Tryz.prog W = .ok (.agg #[.int .i64 0, .int .i64 M, .int .i64 ((P : Int) + 1)]) W) (by kernel_rfl) ?_ (fun hHeld0 => ?_)
             · exact rep_load3 (HXc.out.below ((Below.refl _ _).drew) HXc.out.lt)
             have hE0 : Below wb.heap.size wb wb.drew := (Below.refl _ _).drew
             generalize wb.drew = y0 at *
             iterate 2 (apply tkF [1, 4] rfl rfl (by kernel_rfl) (fun _ _ _ h => h) (by rfl); (case hy => (intro w hSw; (try dsimp only at hSw); go_simp; try with_reducible rfl)); (case hS => assumption); (try simp only [Act.put, List.setIfInBounds_toArray, List.set_cons_zero, List.set_cons_succ]))
             refine doH3 (i := 0) (j := 2) (k := 5) rfl rfl rfl (by kernel_rfl) (by rfl) (by rfl) (by rfl) (fun K hK => ?_) (fun K hK => ?_) (fun K hK => ?_)
             · go_simp
               have hO := ownG_lit repOk y0 wb.heap.size hE0.size
               have hyA := (Below.refl _ y0).alloc (Nat.le_refl _) (.cells #[] 35)
               have hE1 := hE0.trans (hyA.mono hE0.size)
               change OwnG _ (y0.alloc (.cells #[] 35)) _ _ _ at hO
               have hb0 : y0.heap.size < (y0.alloc (.cells #[] 35)).heap.size := by simp
               generalize y0.alloc (.cells #[] 35) = y1 at *
               generalize y0.heap.size = b0 at *
               refine hK.out _ _ (rep_load3 (HXc.out.below hE1 HXc.out.lt)) (fun hHeld => ?_)
               clear hK K
               (try simp only [Act.put, List.setIfInBounds_toArray, List.set_cons_zero, List.set_cons_succ])
               refine doH2 (i := 2) (j := 5) rfl rfl (by kernel_rfl) (by rfl) (by rfl) (fun K hK => ?_) (fun K hK => ?_)
               · have hL := sl_rep (w := y1) (p := ⟨w.heap.size, 1, none⟩) ((HWc.out.below hE1 HWc.out.lt).cell 1)
                 change (loadVar 42 _).run Tryz.prog y1 = .ok (.slice ob M cb) y1 at hL
                 go_simp
                 refine hK.out _ _ (rep_load3 (HXc.out.below hE1 HXc.out.lt)) (fun hHeld => ?_)
                 clear hK K
                 (try simp only [Act.put, List.setIfInBounds_toArray, List.set_cons_zero, List.set_cons_succ])
                 clear hL
                 refine doH2 (i := 3) (j := 5) rfl rfl (by kernel_rfl) (by rfl) (by rfl) (fun K hK => ?_) (fun K hK => ?_)
                 · obtain ⟨v3, y3, hr3, hO3, hg3⟩ := append_g repOk hO ob M cb HLN.out (HOLD.out y1 hE1) HNIL.out (by simp; omega) hE1.size
                   have hE3 := hE1.grown hg3 hE1.size (fun j hj => (World.ownsRow.lt hO j hj).1)
                   clear hO
                   have hO := hO3
                   clear hO3
                   rw [List.nil_append] at hO
                   refine Lib.wp_append_run _ _ _ 42 42 rfl _ _ rfl rfl _ _ hr3 ?_
                   clear hr3 hg3
                   refine hK.out _ _ (rep_load3 (HXc.out.below hE3 HXc.out.lt)) (fun hHeld => ?_)
                   clear hK K
                   (try simp only [Act.put, List.setIfInBounds_toArray, List.set_cons_zero, List.set_cons_succ])
                   refine doH (i := 5) rfl (by kernel_rfl) (by rfl) (fun K hK => ?_)
                   go_simp
                   have hR := rowG_new repOk y3 (⟨0, M, (P : Int) + 1⟩ : Rep)
                   have hyA := (Below.refl _ y3).alloc (Nat.le_refl _) (.cells #[.int .i64 0, .int .i64 M, .int .i64 ((P : Int) + 1)] 35)
                   have hE4 := hE3.trans (hyA.mono hE3.size)
                   change RowG _ (y3.alloc (.cells #[.int .i64 0, .int .i64 M, .int .i64 ((P : Int) + 1)] 35)) _ _ at hR
                   have hO := hO.below hyA
                   have hbl : y3.heap.size < (y3.alloc (.cells #[.int .i64 0, .int .i64 M, .int .i64 ((P : Int) + 1)] 35)).heap.size := by simp
                   generalize y3.alloc (.cells #[.int .i64 0, .int .i64 M, .int .i64 ((P : Int) + 1)] 35) = y4 at *
                   generalize y3.heap.size = b5 at *
                   refine hK.out _ _ (rep_load3 (HXc.out.below hE4 HXc.out.lt)) (fun hHeld => ?_)
                   clear hK K
                   (try simp only [Act.put, List.setIfInBounds_toArray, List.set_cons_zero, List.set_cons_succ])
                   refine doH (i := 6) rfl (by kernel_rfl) (by rfl) (fun K hK => ?_)
                   obtain ⟨v6, y5, hr6, hO6, hg6⟩ := append_g repOk hO (some ⟨b5, 0, none⟩) 1 1 rfl hR (fun h => absurd h (by decide)) (by rw [HLN.out]; omega) hE4.size
                   have hE5 := hE4.grown hg6 hE4.size (fun j hj => (World.ownsRow.lt hO j hj).1)
                   refine Lib.wp_append_run _ _ _ 42 42 rfl _ _ rfl rfl _ _ hr6 ?_
                   clear hr6 hg6 hO
                   obtain ⟨o6, n6, c6, hv6⟩ : ∃ o n c, v6 = .slice o n c := (by obtain ⟨o, c, h, _⟩ := hO6.form repOk; exact ⟨_, _, _, h⟩)
                   subst hv6
                   refine hK.out _ _ (rep_load3 (HXc.out.below hE5 HXc.out.lt)) (fun hHeld => ?_)
                   clear hK K
                   (try simp only [Act.put, List.setIfInBounds_toArray, List.set_cons_zero, List.set_cons_succ])
                   (apply tkF [7] rfl rfl (by kernel_rfl) (fun _ _ _ h => h) (by rfl); (case hy => (intro w hSw; (try dsimp only at hSw); go_simp; try with_reducible rfl)); (case hS => assumption); (try simp only [Act.put, List.setIfInBounds_toArray, List.set_cons_zero, List.set_cons_succ]))
                   refine doH (i := 8) rfl (by kernel_rfl) (by rfl) (fun K hK => ?_)
                   have hW := HWc.out.below hE5 HWc.out.lt
                   have c8 := hW.cell 1
                   have f8 := hW.frozen 1
                   change y5.cell? _ = some (.slice ob M cb) at c8
                   go_simp
                   have hW8 : Blk (y5.setCell ⟨w.heap.size, 1, none⟩ (.slice o6 n6 c6)) w.heap.size 44 #[.slice na ra cra, .slice o6 n6 c6, .slice oc P cc] := hW.set_ 1 (.slice o6 n6 c6)
                   have hG8 : World.grownBy wb (y5.setCell ⟨w.heap.size, 1, none⟩ (.slice o6 n6 c6)) (some w.heap.size) := grown_trans (only_of_below hE5 (some w.heap.size)) (grownG_setCell y5 ⟨w.heap.size, 1, none⟩ (.slice o6 n6 c6))
                   have hO8 := hO6.grown (grownG_setCell y5 ⟨w.heap.size, 1, none⟩ (.slice o6 n6 c6)) (by cases hv : Value.ownBlock (.slice o6 n6 c6) with | none => exact .inl rfl | some q => refine .inr (fun e => ?_); have h1 := (World.ownsRow.lt hO6 q hv).1; have h2 := HWc.out.lt; injection e with e; have e3 : q = w.heap.size := e; omega)
                   refine hK.out _ _ (rep_load3 ((HXc.out.below hE5 HXc.out.lt).far (p := ⟨w.heap.size, 1, none⟩) (by show gq ≠ w.heap.size; omega) (.slice o6 n6 c6))) (fun hHeld => ?_)
                   clear hK K
                   (try simp only [Act.put, List.setIfInBounds_toArray, List.set_cons_zero, List.set_cons_succ])
                   refine wpAnyH_done (by kernel_rfl) ?_ _
                   go_wp2_with fail
                   go_meet
                   exact ⟨.slice o6 n6 c6, hO8, hW8, hG8⟩
                 · go_simp
                   have hR := rowG_new repOk y1 (⟨0, M, (P : Int) + 1⟩ : Rep)
                   have hyA := (Below.refl _ y1).alloc (Nat.le_refl _) (.cells #[.int .i64 0, .int .i64 M, .int .i64 ((P : Int) + 1)] 35)
                   have hE7 := hE1.trans (hyA.mono hE1.size)
                   change RowG _ (y1.alloc (.cells #[.int .i64 0, .int .i64 M, .int .i64 ((P : Int) + 1)] 35)) _ _ at hR
                   have hO := hO.below hyA
                   have hb05 : b0 ≠ y1.heap.size := by omega
                   have hbl : y1.heap.size < (y1.alloc (.cells #[.int .i64 0, .int .i64 M, .int .i64 ((P : Int) + 1)] 35)).heap.size := by simp
                   generalize y1.alloc (.cells #[.int .i64 0, .int .i64 M, .int .i64 ((P : Int) + 1)] 35) = y7 at *
                   generalize y1.heap.size = b5 at *
                   refine hK.out _ _ (rep_load3 (HXc.out.below hE7 HXc.out.lt)) (fun hHeld => ?_)
                   clear hK K
                   (try simp only [Act.put, List.setIfInBounds_toArray, List.set_cons_zero, List.set_cons_succ])
                   refine doH (i := 3) rfl (by kernel_rfl) (by rfl) (fun K hK => ?_)
                   obtain ⟨v3, y8, hr3, hO3, hg3⟩ := append_g repOk hO ob M cb HLN.out (HOLD.out y7 hE7) HNIL.out (by simp; omega) hE7.size
                   have hE8 := hE7.grown hg3 hE7.size (fun j hj => (World.ownsRow.lt hO j hj).1)
                   have hR := hR.grown hg3 (fun a e => by cases e; intro e2; injection e2 with e2; have e3 : b0 = b5 := e2; omega)
                   clear hO
                   have hO := hO3
                   clear hO3
                   rw [List.nil_append] at hO
                   refine Lib.wp_append_run _ _ _ 42 42 rfl _ _ rfl rfl _ _ hr3 ?_
                   clear hr3 hg3
                   refine hK.out _ _ (rep_load3 (HXc.out.below hE8 HXc.out.lt)) (fun hHeld => ?_)
                   clear hK K
                   (try simp only [Act.put, List.setIfInBounds_toArray, List.set_cons_zero, List.set_cons_succ])
                   refine doH (i := 6) rfl (by kernel_rfl) (by rfl) (fun K hK => ?_)
                   obtain ⟨v6, y9, hr6, hO6, hg6⟩ := append_g repOk hO (some ⟨b5, 0, none⟩) 1 1 rfl hR (fun h => absurd h (by decide)) (by rw [HLN.out]; omega) hE8.size
                   have hE9 := hE8.grown hg6 hE8.size (fun j hj => (World.ownsRow.lt hO j hj).1)
                   refine Lib.wp_append_run _ _ _ 42 42 rfl _ _ rfl rfl _ _ hr6 ?_
                   clear hr6 hg6 hO
                   obtain ⟨o6, n6, c6, hv6⟩ : ∃ o n c, v6 = .slice o n c := (by obtain ⟨o, c, h, _⟩ := hO6.form repOk; exact ⟨_, _, _, h⟩)
                   subst hv6
                   refine hK.out _ _ (rep_load3 (HXc.out.below hE9 HXc.out.lt)) (fun hHeld => ?_)
                   clear hK K
                   (try simp only [Act.put, List.setIfInBounds_toArray, List.set_cons_zero, List.set_cons_succ])
                   (apply tkF [7] rfl rfl (by kernel_rfl) (fun _ _ _ h => h) (by rfl); (case hy => (intro w hSw; (try dsimp only at hSw); go_simp; try with_reducible rfl)); (case hS => assumption); (try simp only [Act.put, List.setIfInBounds_toArray, List.set_cons_zero, List.set_cons_succ]))
                   refine doH (i := 8) rfl (by kernel_rfl) (by rfl) (fun K hK => ?_)
                   have hW := HWc.out.below hE9 HWc.out.lt
                   have c8 := hW.cell 1
                   have f8 := hW.frozen 1
                   change y9.cell? _ = some (.slice ob M cb) at c8
                   go_simp
                   have hW8 : Blk (y9.setCell ⟨w.heap.size, 1, none⟩ (.slice o6 n6 c6)) w.heap.size 44 #[.slice na ra cra, .slice o6 n6 c6, .slice oc P cc] := hW.set_ 1 (.slice o6 n6 c6)
                   have hG8 : World.grownBy wb (y9.setCell ⟨w.heap.size, 1, none⟩ (.slice o6 n6 c6)) (some w.heap.size) := grown_trans (only_of_below hE9 (some w.heap.size)) (grownG_setCell y9 ⟨w.heap.size, 1, none⟩ (.slice o6 n6 c6))
                   have hO8 := hO6.grown (grownG_setCell y9 ⟨w.heap.size, 1, none⟩ (.slice o6 n6 c6)) (by cases hv : Value.ownBlock (.slice o6 n6 c6) with | none => exact .inl rfl | some q => refine .inr (fun e => ?_); have h1 := (World.ownsRow.lt hO6 q hv).1; have h2 := HWc.out.lt; injection e with e; have e3 : q = w.heap.size := e; omega)
                   refine hK.out _ _ (rep_load3 ((HXc.out.below hE9 HXc.out.lt).far (p := ⟨w.heap.size, 1, none⟩) (by show gq ≠ w.heap.size; omega) (.slice o6 n6 c6))) (fun hHeld => ?_)
                   clear hK K
                   (try simp only [Act.put, List.setIfInBounds_toArray, List.set_cons_zero, List.set_cons_succ])
                   refine wpAnyH_done (by kernel_rfl) ?_ _
                   go_wp2_with fail
                   go_meet
                   exact ⟨.slice o6 n6 c6, hO8, hW8, hG8⟩
               · go_simp
                 have hR := rowG_new repOk y1 (⟨0, M, (P : Int) + 1⟩ : Rep)
                 have hyA := (Below.refl _ y1).alloc (Nat.le_refl _) (.cells #[.int .i64 0, .int .i64 M, .int .i64 ((P : Int) + 1)] 35)
                 have hE11 := hE1.trans (hyA.mono hE1.size)
                 change RowG _ (y1.alloc (.cells #[.int .i64 0, .int .i64 M, .int .i64 ((P : Int) + 1)] 35)) _ _ at hR
                 have hO := hO.below hyA
                 have hb05 : b0 ≠ y1.heap.size := by omega
                 have hbl : y1.heap.size < (y1.alloc (.cells #[.int .i64 0, .int .i64 M, .int .i64 ((P : Int) + 1)] 35)).heap.size := by simp
                 generalize y1.alloc (.cells #[.int .i64 0, .int .i64 M, .int .i64 ((P : Int) + 1)] 35) = y11 at *
                 generalize y1.heap.size = b5 at *
                 refine hK.out _ _ (rep_load3 (HXc.out.below hE11 HXc.out.lt)) (fun hHeld => ?_)
                 clear hK K
                 (try simp only [Act.put, List.setIfInBounds_toArray, List.set_cons_zero, List.set_cons_succ])
                 refine doH (i := 2) rfl (by kernel_rfl) (by rfl) (fun K hK => ?_)
                 have hL := sl_rep (w := y11) (p := ⟨w.heap.size, 1, none⟩) ((HWc.out.below hE11 HWc.out.lt).cell 1)
                 change (loadVar 42 _).run Tryz.prog y11 = .ok (.slice ob M cb) y11 at hL
                 go_simp
                 refine hK.out _ _ (rep_load3 (HXc.out.below hE11 HXc.out.lt)) (fun hHeld => ?_)
                 clear hK K
                 (try simp only [Act.put, List.setIfInBounds_toArray, List.set_cons_zero, List.set_cons_succ])
                 clear hL
                 refine doH (i := 3) rfl (by kernel_rfl) (by rfl) (fun K hK => ?_)
                 obtain ⟨v3, y13, hr3, hO3, hg3⟩ := append_g repOk hO ob M cb HLN.out (HOLD.out y11 hE11) HNIL.out (by simp; omega) hE11.size
                 have hE13 := hE11.grown hg3 hE11.size (fun j hj => (World.ownsRow.lt hO j hj).1)
                 have hR := hR.grown hg3 (fun a e => by cases e; intro e2; injection e2 with e2; have e3 : b0 = b5 := e2; omega)
                 clear hO
                 have hO := hO3
                 clear hO3
                 rw [List.nil_append] at hO
                 refine Lib.wp_append_run _ _ _ 42 42 rfl _ _ rfl rfl _ _ hr3 ?_
                 clear hr3 hg3
                 refine hK.out _ _ (rep_load3 (HXc.out.below hE13 HXc.out.lt)) (fun hHeld => ?_)
                 clear hK K
                 (try simp only [Act.put, List.setIfInBounds_toArray, List.set_cons_zero, List.set_cons_succ])
                 refine doH (i := 6) rfl (by kernel_rfl) (by rfl) (fun K hK => ?_)
                 obtain ⟨v6, y14, hr6, hO6, hg6⟩ := append_g repOk hO (some ⟨b5, 0, none⟩) 1 1 rfl hR (fun h => absurd h (by decide)) (by rw [HLN.out]; omega) hE13.size
                 have hE14 := hE13.grown hg6 hE13.size (fun j hj => (World.ownsRow.lt hO j hj).1)
                 refine Lib.wp_append_run _ _ _ 42 42 rfl _ _ rfl rfl _ _ hr6 ?_
                 clear hr6 hg6 hO
                 obtain ⟨o6, n6, c6, hv6⟩ : ∃ o n c, v6 = .slice o n c := (by obtain ⟨o, c, h, _⟩ := hO6.form repOk; exact ⟨_, _, _, h⟩)
                 subst hv6
                 refine hK.out _ _ (rep_load3 (HXc.out.below hE14 HXc.out.lt)) (fun hHeld => ?_)
                 clear hK K
                 (try simp only [Act.put, List.setIfInBounds_toArray, List.set_cons_zero, List.set_cons_succ])
                 (apply tkF [7] rfl rfl (by kernel_rfl) (fun _ _ _ h => h) (by rfl); (case hy => (intro w hSw; (try dsimp only at hSw); go_simp; try with_reducible rfl)); (case hS => assumption); (try simp only [Act.put, List.setIfInBounds_toArray, List.set_cons_zero, List.set_cons_succ]))
                 refine doH (i := 8) rfl (by kernel_rfl) (by rfl) (fun K hK => ?_)
                 have hW := HWc.out.below hE14 HWc.out.lt
                 have c8 := hW.cell 1
                 have f8 := hW.frozen 1
                 change y14.cell? _ = some (.slice ob M cb) at c8
                 go_simp
                 have hW8 : Blk (y14.setCell ⟨w.heap.size, 1, none⟩ (.slice o6 n6 c6)) w.heap.size 44 #[.slice na ra cra, .slice o6 n6 c6, .slice oc P cc] := hW.set_ 1 (.slice o6 n6 c6)
                 have hG8 : World.grownBy wb (y14.setCell ⟨w.heap.size, 1, none⟩ (.slice o6 n6 c6)) (some w.heap.size) := grown_trans (only_of_below hE14 (some w.heap.size)) (grownG_setCell y14 ⟨w.heap.size, 1, none⟩ (.slice o6 n6 c6))
                 have hO8 := hO6.grown (grownG_setCell y14 ⟨w.heap.size, 1, none⟩ (.slice o6 n6 c6)) (by cases hv : Value.ownBlock (.slice o6 n6 c6) with | none => exact .inl rfl | some q => refine .inr (fun e => ?_); have h1 := (World.ownsRow.lt hO6 q hv).1; have h2 := HWc.out.lt; injection e with e; have e3 : q = w.heap.size := e; omega)
                 refine hK.out _ _ (rep_load3 ((HXc.out.below hE14 HXc.out.lt).far (p := ⟨w.heap.size, 1, none⟩) (by show gq ≠ w.heap.size; omega) (.slice o6 n6 c6))) (fun hHeld => ?_)
                 clear hK K
                 (try simp only [Act.put, List.setIfInBounds_toArray, List.set_cons_zero, List.set_cons_succ])
                 refine wpAnyH_done (by kernel_rfl) ?_ _
                 go_wp2_with fail
                 go_meet
                 exact ⟨.slice o6 n6 c6, hO8, hW8, hG8⟩
             · have hL := sl_rep (w := y0) (p := ⟨w.heap.size, 1, none⟩) ((HWc.out.below hE0 HWc.out.lt).cell 1)
               change (loadVar 42 _).run Tryz.prog y0 = .ok (.slice ob M cb) y0 at hL
               go_simp
               refine hK.out _ _ (rep_load3 (HXc.out.below hE0 HXc.out.lt)) (fun hHeld => ?_)
               clear hK K
               (try simp only [Act.put, List.setIfInBounds_toArray, List.set_cons_zero, List.set_cons_succ])
               clear hL
               refine doH2 (i := 0) (j := 5) rfl rfl (by kernel_rfl) (by rfl) (by rfl) (fun K hK => ?_) (fun K hK => ?_)
               · go_simp
                 have hO := ownG_lit repOk y0 wb.heap.size hE0.size
                 have hyA := (Below.refl _ y0).alloc (Nat.le_refl _) (.cells #[] 35)
                 have hE17 := hE0.trans (hyA.mono hE0.size)
                 change OwnG _ (y0.alloc (.cells #[] 35)) _ _ _ at hO
                 have hb0 : y0.heap.size < (y0.alloc (.cells #[] 35)).heap.size := by simp
                 generalize y0.alloc (.cells #[] 35) = y17 at *
                 generalize y0.heap.size = b0 at *
                 refine hK.out _ _ (rep_load3 (HXc.out.below hE17 HXc.out.lt)) (fun hHeld => ?_)
                 clear hK K
                 (try simp only [Act.put, List.setIfInBounds_toArray, List.set_cons_zero, List.set_cons_succ])
                 refine doH2 (i := 3) (j := 5) rfl rfl (by kernel_rfl) (by rfl) (by rfl) (fun K hK => ?_) (fun K hK => ?_)
                 · obtain ⟨v3, y18, hr3, hO3, hg3⟩ := append_g repOk hO ob M cb HLN.out (HOLD.out y17 hE17) HNIL.out (by simp; omega) hE17.size
                   have hE18 := hE17.grown hg3 hE17.size (fun j hj => (World.ownsRow.lt hO j hj).1)
                   clear hO
                   have hO := hO3
                   clear hO3
                   rw [List.nil_append] at hO
                   refine Lib.wp_append_run _ _ _ 42 42 rfl _ _ rfl rfl _ _ hr3 ?_
                   clear hr3 hg3
                   refine hK.out _ _ (rep_load3 (HXc.out.below hE18 HXc.out.lt)) (fun hHeld => ?_)
                   clear hK K
                   (try simp only [Act.put, List.setIfInBounds_toArray, List.set_cons_zero, List.set_cons_succ])
                   refine doH (i := 5) rfl (by kernel_rfl) (by rfl) (fun K hK => ?_)
                   go_simp
                   have hR := rowG_new repOk y18 (⟨0, M, (P : Int) + 1⟩ : Rep)
                   have hyA := (Below.refl _ y18).alloc (Nat.le_refl _) (.cells #[.int .i64 0, .int .i64 M, .int .i64 ((P : Int) + 1)] 35)
                   have hE19 := hE18.trans (hyA.mono hE18.size)
                   change RowG _ (y18.alloc (.cells #[.int .i64 0, .int .i64 M, .int .i64 ((P : Int) + 1)] 35)) _ _ at hR
                   have hO := hO.below hyA
                   have hbl : y18.heap.size < (y18.alloc (.cells #[.int .i64 0, .int .i64 M, .int .i64 ((P : Int) + 1)] 35)).heap.size := by simp
                   generalize y18.alloc (.cells #[.int .i64 0, .int .i64 M, .int .i64 ((P : Int) + 1)] 35) = y19 at *
                   generalize y18.heap.size = b5 at *
                   refine hK.out _ _ (rep_load3 (HXc.out.below hE19 HXc.out.lt)) (fun hHeld => ?_)
                   clear hK K
                   (try simp only [Act.put, List.setIfInBounds_toArray, List.set_cons_zero, List.set_cons_succ])
                   refine doH (i := 6) rfl (by kernel_rfl) (by rfl) (fun K hK => ?_)
                   obtain ⟨v6, y20, hr6, hO6, hg6⟩ := append_g repOk hO (some ⟨b5, 0, none⟩) 1 1 rfl hR (fun h => absurd h (by decide)) (by rw [HLN.out]; omega) hE19.size
                   have hE20 := hE19.grown hg6 hE19.size (fun j hj => (World.ownsRow.lt hO j hj).1)
                   refine Lib.wp_append_run _ _ _ 42 42 rfl _ _ rfl rfl _ _ hr6 ?_
                   clear hr6 hg6 hO
                   obtain ⟨o6, n6, c6, hv6⟩ : ∃ o n c, v6 = .slice o n c := (by obtain ⟨o, c, h, _⟩ := hO6.form repOk; exact ⟨_, _, _, h⟩)
                   subst hv6
                   refine hK.out _ _ (rep_load3 (HXc.out.below hE20 HXc.out.lt)) (fun hHeld => ?_)
                   clear hK K
                   (try simp only [Act.put, List.setIfInBounds_toArray, List.set_cons_zero, List.set_cons_succ])
                   (apply tkF [7] rfl rfl (by kernel_rfl) (fun _ _ _ h => h) (by rfl); (case hy => (intro w hSw; (try dsimp only at hSw); go_simp; try with_reducible rfl)); (case hS => assumption); (try simp only [Act.put, List.setIfInBounds_toArray, List.set_cons_zero, List.set_cons_succ]))
                   refine doH (i := 8) rfl (by kernel_rfl) (by rfl) (fun K hK => ?_)
                   have hW := HWc.out.below hE20 HWc.out.lt
                   have c8 := hW.cell 1
                   have f8 := hW.frozen 1
                   change y20.cell? _ = some (.slice ob M cb) at c8
                   go_simp
                   have hW8 : Blk (y20.setCell ⟨w.heap.size, 1, none⟩ (.slice o6 n6 c6)) w.heap.size 44 #[.slice na ra cra, .slice o6 n6 c6, .slice oc P cc] := hW.set_ 1 (.slice o6 n6 c6)
                   have hG8 : World.grownBy wb (y20.setCell ⟨w.heap.size, 1, none⟩ (.slice o6 n6 c6)) (some w.heap.size) := grown_trans (only_of_below hE20 (some w.heap.size)) (grownG_setCell y20 ⟨w.heap.size, 1, none⟩ (.slice o6 n6 c6))
                   have hO8 := hO6.grown (grownG_setCell y20 ⟨w.heap.size, 1, none⟩ (.slice o6 n6 c6)) (by cases hv : Value.ownBlock (.slice o6 n6 c6) with | none => exact .inl rfl | some q => refine .inr (fun e => ?_); have h1 := (World.ownsRow.lt hO6 q hv).1; have h2 := HWc.out.lt; injection e with e; have e3 : q = w.heap.size := e; omega)
                   refine hK.out _ _ (rep_load3 ((HXc.out.below hE20 HXc.out.lt).far (p := ⟨w.heap.size, 1, none⟩) (by show gq ≠ w.heap.size; omega) (.slice o6 n6 c6))) (fun hHeld => ?_)
                   clear hK K
                   (try simp only [Act.put, List.setIfInBounds_toArray, List.set_cons_zero, List.set_cons_succ])
                   refine wpAnyH_done (by kernel_rfl) ?_ _
                   go_wp2_with fail
                   go_meet
                   exact ⟨.slice o6 n6 c6, hO8, hW8, hG8⟩
                 · go_simp
                   have hR := rowG_new repOk y17 (⟨0, M, (P : Int) + 1⟩ : Rep)
                   have hyA := (Below.refl _ y17).alloc (Nat.le_refl _) (.cells #[.int .i64 0, .int .i64 M, .int .i64 ((P : Int) + 1)] 35)
                   have hE22 := hE17.trans (hyA.mono hE17.size)
                   change RowG _ (y17.alloc (.cells #[.int .i64 0, .int .i64 M, .int .i64 ((P : Int) + 1)] 35)) _ _ at hR
                   have hO := hO.below hyA
                   have hb05 : b0 ≠ y17.heap.size := by omega
                   have hbl : y17.heap.size < (y17.alloc (.cells #[.int .i64 0, .int .i64 M, .int .i64 ((P : Int) + 1)] 35)).heap.size := by simp
                   generalize y17.alloc (.cells #[.int .i64 0, .int .i64 M, .int .i64 ((P : Int) + 1)] 35) = y22 at *
                   generalize y17.heap.size = b5 at *
                   refine hK.out _ _ (rep_load3 (HXc.out.below hE22 HXc.out.lt)) (fun hHeld => ?_)
                   clear hK K
                   (try simp only [Act.put, List.setIfInBounds_toArray, List.set_cons_zero, List.set_cons_succ])
                   refine doH (i := 3) rfl (by kernel_rfl) (by rfl) (fun K hK => ?_)
                   obtain ⟨v3, y23, hr3, hO3, hg3⟩ := append_g repOk hO ob M cb HLN.out (HOLD.out y22 hE22) HNIL.out (by simp; omega) hE22.size
                   have hE23 := hE22.grown hg3 hE22.size (fun j hj => (World.ownsRow.lt hO j hj).1)
                   have hR := hR.grown hg3 (fun a e => by cases e; intro e2; injection e2 with e2; have e3 : b0 = b5 := e2; omega)
                   clear hO
                   have hO := hO3
                   clear hO3
                   rw [List.nil_append] at hO
                   refine Lib.wp_append_run _ _ _ 42 42 rfl _ _ rfl rfl _ _ hr3 ?_
                   clear hr3 hg3
                   refine hK.out _ _ (rep_load3 (HXc.out.below hE23 HXc.out.lt)) (fun hHeld => ?_)
                   clear hK K
                   (try simp only [Act.put, List.setIfInBounds_toArray, List.set_cons_zero, List.set_cons_succ])
                   refine doH (i := 6) rfl (by kernel_rfl) (by rfl) (fun K hK => ?_)
                   obtain ⟨v6, y24, hr6, hO6, hg6⟩ := append_g repOk hO (some ⟨b5, 0, none⟩) 1 1 rfl hR (fun h => absurd h (by decide)) (by rw [HLN.out]; omega) hE23.size
                   have hE24 := hE23.grown hg6 hE23.size (fun j hj => (World.ownsRow.lt hO j hj).1)
                   refine Lib.wp_append_run _ _ _ 42 42 rfl _ _ rfl rfl _ _ hr6 ?_
                   clear hr6 hg6 hO
                   obtain ⟨o6, n6, c6, hv6⟩ : ∃ o n c, v6 = .slice o n c := (by obtain ⟨o, c, h, _⟩ := hO6.form repOk; exact ⟨_, _, _, h⟩)
                   subst hv6
                   refine hK.out _ _ (rep_load3 (HXc.out.below hE24 HXc.out.lt)) (fun hHeld => ?_)
                   clear hK K
                   (try simp only [Act.put, List.setIfInBounds_toArray, List.set_cons_zero, List.set_cons_succ])
                   (apply tkF [7] rfl rfl (by kernel_rfl) (fun _ _ _ h => h) (by rfl); (case hy => (intro w hSw; (try dsimp only at hSw); go_simp; try with_reducible rfl)); (case hS => assumption); (try simp only [Act.put, List.setIfInBounds_toArray, List.set_cons_zero, List.set_cons_succ]))
                   refine doH (i := 8) rfl (by kernel_rfl) (by rfl) (fun K hK => ?_)
                   have hW := HWc.out.below hE24 HWc.out.lt
                   have c8 := hW.cell 1
                   have f8 := hW.frozen 1
                   change y24.cell? _ = some (.slice ob M cb) at c8
                   go_simp
                   have hW8 : Blk (y24.setCell ⟨w.heap.size, 1, none⟩ (.slice o6 n6 c6)) w.heap.size 44 #[.slice na ra cra, .slice o6 n6 c6, .slice oc P cc] := hW.set_ 1 (.slice o6 n6 c6)
                   have hG8 : World.grownBy wb (y24.setCell ⟨w.heap.size, 1, none⟩ (.slice o6 n6 c6)) (some w.heap.size) := grown_trans (only_of_below hE24 (some w.heap.size)) (grownG_setCell y24 ⟨w.heap.size, 1, none⟩ (.slice o6 n6 c6))
                   have hO8 := hO6.grown (grownG_setCell y24 ⟨w.heap.size, 1, none⟩ (.slice o6 n6 c6)) (by cases hv : Value.ownBlock (.slice o6 n6 c6) with | none => exact .inl rfl | some q => refine .inr (fun e => ?_); have h1 := (World.ownsRow.lt hO6 q hv).1; have h2 := HWc.out.lt; injection e with e; have e3 : q = w.heap.size := e; omega)
                   refine hK.out _ _ (rep_load3 ((HXc.out.below hE24 HXc.out.lt).far (p := ⟨w.heap.size, 1, none⟩) (by show gq ≠ w.heap.size; omega) (.slice o6 n6 c6))) (fun hHeld => ?_)
                   clear hK K
                   (try simp only [Act.put, List.setIfInBounds_toArray, List.set_cons_zero, List.set_cons_succ])
                   refine wpAnyH_done (by kernel_rfl) ?_ _
                   go_wp2_with fail
                   go_meet
                   exact ⟨.slice o6 n6 c6, hO8, hW8, hG8⟩
               · go_simp
                 have hR := rowG_new repOk y0 (⟨0, M, (P : Int) + 1⟩ : Rep)
                 have hyA := (Below.refl _ y0).alloc (Nat.le_refl _) (.cells #[.int .i64 0, .int .i64 M, .int .i64 ((P : Int) + 1)] 35)
                 have hE26 := hE0.trans (hyA.mono hE0.size)
                 change RowG _ (y0.alloc (.cells #[.int .i64 0, .int .i64 M, .int .i64 ((P : Int) + 1)] 35)) _ _ at hR
                 have hbl : y0.heap.size < (y0.alloc (.cells #[.int .i64 0, .int .i64 M, .int .i64 ((P : Int) + 1)] 35)).heap.size := by simp
                 generalize y0.alloc (.cells #[.int .i64 0, .int .i64 M, .int .i64 ((P : Int) + 1)] 35) = y26 at *
                 generalize y0.heap.size = b5 at *
                 refine hK.out _ _ (rep_load3 (HXc.out.below hE26 HXc.out.lt)) (fun hHeld => ?_)
                 clear hK K
                 (try simp only [Act.put, List.setIfInBounds_toArray, List.set_cons_zero, List.set_cons_succ])
                 refine doH (i := 0) rfl (by kernel_rfl) (by rfl) (fun K hK => ?_)
                 go_simp
                 have hO := ownG_lit repOk y26 wb.heap.size hE26.size
                 have hyA := (Below.refl _ y26).alloc (Nat.le_refl _) (.cells #[] 35)
                 have hE27 := hE26.trans (hyA.mono hE26.size)
                 change OwnG _ (y26.alloc (.cells #[] 35)) _ _ _ at hO
                 have hR := hR.below hyA
                 have hb05 : y26.heap.size ≠ b5 := by omega
                 have hb0 : y26.heap.size < (y26.alloc (.cells #[] 35)).heap.size := by simp
                 generalize y26.alloc (.cells #[] 35) = y27 at *
                 generalize y26.heap.size = b0 at *
                 have hbl : b5 < y27.heap.size := by omega
                 refine hK.out _ _ (rep_load3 (HXc.out.below hE27 HXc.out.lt)) (fun hHeld => ?_)
                 clear hK K
                 (try simp only [Act.put, List.setIfInBounds_toArray, List.set_cons_zero, List.set_cons_succ])
                 refine doH (i := 3) rfl (by kernel_rfl) (by rfl) (fun K hK => ?_)
                 obtain ⟨v3, y28, hr3, hO3, hg3⟩ := append_g repOk hO ob M cb HLN.out (HOLD.out y27 hE27) HNIL.out (by simp; omega) hE27.size
                 have hE28 := hE27.grown hg3 hE27.size (fun j hj => (World.ownsRow.lt hO j hj).1)
                 have hR := hR.grown hg3 (fun a e => by cases e; intro e2; injection e2 with e2; have e3 : b0 = b5 := e2; omega)
                 clear hO
                 have hO := hO3
                 clear hO3
                 rw [List.nil_append] at hO
                 refine Lib.wp_append_run _ _ _ 42 42 rfl _ _ rfl rfl _ _ hr3 ?_
                 clear hr3 hg3
                 refine hK.out _ _ (rep_load3 (HXc.out.below hE28 HXc.out.lt)) (fun hHeld => ?_)
                 clear hK K
                 (try simp only [Act.put, List.setIfInBounds_toArray, List.set_cons_zero, List.set_cons_succ])
                 refine doH (i := 6) rfl (by kernel_rfl) (by rfl) (fun K hK => ?_)
                 obtain ⟨v6, y29, hr6, hO6, hg6⟩ := append_g repOk hO (some ⟨b5, 0, none⟩) 1 1 rfl hR (fun h => absurd h (by decide)) (by rw [HLN.out]; omega) hE28.size
                 have hE29 := hE28.grown hg6 hE28.size (fun j hj => (World.ownsRow.lt hO j hj).1)
                 refine Lib.wp_append_run _ _ _ 42 42 rfl _ _ rfl rfl _ _ hr6 ?_
                 clear hr6 hg6 hO
                 obtain ⟨o6, n6, c6, hv6⟩ : ∃ o n c, v6 = .slice o n c := (by obtain ⟨o, c, h, _⟩ := hO6.form repOk; exact ⟨_, _, _, h⟩)
                 subst hv6
                 refine hK.out _ _ (rep_load3 (HXc.out.below hE29 HXc.out.lt)) (fun hHeld => ?_)
                 clear hK K
                 (try simp only [Act.put, List.setIfInBounds_toArray, List.set_cons_zero, List.set_cons_succ])
                 (apply tkF [7] rfl rfl (by kernel_rfl) (fun _ _ _ h => h) (by rfl); (case hy => (intro w hSw; (try dsimp only at hSw); go_simp; try with_reducible rfl)); (case hS => assumption); (try simp only [Act.put, List.setIfInBounds_toArray, List.set_cons_zero, List.set_cons_succ]))
                 refine doH (i := 8) rfl (by kernel_rfl) (by rfl) (fun K hK => ?_)
                 have hW := HWc.out.below hE29 HWc.out.lt
                 have c8 := hW.cell 1
                 have f8 := hW.frozen 1
                 change y29.cell? _ = some (.slice ob M cb) at c8
                 go_simp
                 have hW8 : Blk (y29.setCell ⟨w.heap.size, 1, none⟩ (.slice o6 n6 c6)) w.heap.size 44 #[.slice na ra cra, .slice o6 n6 c6, .slice oc P cc] := hW.set_ 1 (.slice o6 n6 c6)
                 have hG8 : World.grownBy wb (y29.setCell ⟨w.heap.size, 1, none⟩ (.slice o6 n6 c6)) (some w.heap.size) := grown_trans (only_of_below hE29 (some w.heap.size)) (grownG_setCell y29 ⟨w.heap.size, 1, none⟩ (.slice o6 n6 c6))
                 have hO8 := hO6.grown (grownG_setCell y29 ⟨w.heap.size, 1, none⟩ (.slice o6 n6 c6)) (by cases hv : Value.ownBlock (.slice o6 n6 c6) with | none => exact .inl rfl | some q => refine .inr (fun e => ?_); have h1 := (World.ownsRow.lt hO6 q hv).1; have h2 := HWc.out.lt; injection e with e; have e3 : q = w.heap.size := e; omega)
                 refine hK.out _ _ (rep_load3 ((HXc.out.below hE29 HXc.out.lt).far (p := ⟨w.heap.size, 1, none⟩) (by show gq ≠ w.heap.size; omega) (.slice o6 n6 c6))) (fun hHeld => ?_)
                 clear hK K
                 (try simp only [Act.put, List.setIfInBounds_toArray, List.set_cons_zero, List.set_cons_succ])
                 refine wpAnyH_done (by kernel_rfl) ?_ _
                 go_wp2_with fail
                 go_meet
                 exact ⟨.slice o6 n6 c6, hO8, hW8, hG8⟩
             · go_simp
               have hR := rowG_new repOk y0 (⟨0, M, (P : Int) + 1⟩ : Rep)
               have hyA := (Below.refl _ y0).alloc (Nat.le_refl _) (.cells #[.int .i64 0, .int .i64 M, .int .i64 ((P : Int) + 1)] 35)
               have hE31 := hE0.trans (hyA.mono hE0.size)
               change RowG _ (y0.alloc (.cells #[.int .i64 0, .int .i64 M, .int .i64 ((P : Int) + 1)] 35)) _ _ at hR
               have hbl : y0.heap.size < (y0.alloc (.cells #[.int .i64 0, .int .i64 M, .int .i64 ((P : Int) + 1)] 35)).heap.size := by simp
               generalize y0.alloc (.cells #[.int .i64 0, .int .i64 M, .int .i64 ((P : Int) + 1)] 35) = y31 at *
               generalize y0.heap.size = b5 at *
               refine hK.out _ _ (rep_load3 (HXc.out.below hE31 HXc.out.lt)) (fun hHeld => ?_)
               clear hK K
               (try simp only [Act.put, List.setIfInBounds_toArray, List.set_cons_zero, List.set_cons_succ])
               refine doH2 (i := 0) (j := 2) rfl rfl (by kernel_rfl) (by rfl) (by rfl) (fun K hK => ?_) (fun K hK => ?_)
               · go_simp
                 have hO := ownG_lit repOk y31 wb.heap.size hE31.size
                 have hyA := (Below.refl _ y31).alloc (Nat.le_refl _) (.cells #[] 35)
                 have hE32 := hE31.trans (hyA.mono hE31.size)
                 change OwnG _ (y31.alloc (.cells #[] 35)) _ _ _ at hO
                 have hR := hR.below hyA
                 have hb05 : y31.heap.size ≠ b5 := by omega
                 have hb0 : y31.heap.size < (y31.alloc (.cells #[] 35)).heap.size := by simp
                 generalize y31.alloc (.cells #[] 35) = y32 at *
                 generalize y31.heap.size = b0 at *
                 have hbl : b5 < y32.heap.size := by omega
                 refine hK.out _ _ (rep_load3 (HXc.out.below hE32 HXc.out.lt)) (fun hHeld => ?_)
                 clear hK K
                 (try simp only [Act.put, List.setIfInBounds_toArray, List.set_cons_zero, List.set_cons_succ])
                 refine doH (i := 2) rfl (by kernel_rfl) (by rfl) (fun K hK => ?_)
                 have hL := sl_rep (w := y32) (p := ⟨w.heap.size, 1, none⟩) ((HWc.out.below hE32 HWc.out.lt).cell 1)
                 change (loadVar 42 _).run Tryz.prog y32 = .ok (.slice ob M cb) y32 at hL
                 go_simp
                 refine hK.out _ _ (rep_load3 (HXc.out.below hE32 HXc.out.lt)) (fun hHeld => ?_)
                 clear hK K
                 (try simp only [Act.put, List.setIfInBounds_toArray, List.set_cons_zero, List.set_cons_succ])
                 clear hL
                 refine doH (i := 3) rfl (by kernel_rfl) (by rfl) (fun K hK => ?_)
                 obtain ⟨v3, y34, hr3, hO3, hg3⟩ := append_g repOk hO ob M cb HLN.out (HOLD.out y32 hE32) HNIL.out (by simp; omega) hE32.size
                 have hE34 := hE32.grown hg3 hE32.size (fun j hj => (World.ownsRow.lt hO j hj).1)
                 have hR := hR.grown hg3 (fun a e => by cases e; intro e2; injection e2 with e2; have e3 : b0 = b5 := e2; omega)
                 clear hO
                 have hO := hO3
                 clear hO3
                 rw [List.nil_append] at hO
                 refine Lib.wp_append_run _ _ _ 42 42 rfl _ _ rfl rfl _ _ hr3 ?_
                 clear hr3 hg3
                 refine hK.out _ _ (rep_load3 (HXc.out.below hE34 HXc.out.lt)) (fun hHeld => ?_)
                 clear hK K
                 (try simp only [Act.put, List.setIfInBounds_toArray, List.set_cons_zero, List.set_cons_succ])
                 refine doH (i := 6) rfl (by kernel_rfl) (by rfl) (fun K hK => ?_)
                 obtain ⟨v6, y35, hr6, hO6, hg6⟩ := append_g repOk hO (some ⟨b5, 0, none⟩) 1 1 rfl hR (fun h => absurd h (by decide)) (by rw [HLN.out]; omega) hE34.size
                 have hE35 := hE34.grown hg6 hE34.size (fun j hj => (World.ownsRow.lt hO j hj).1)
                 refine Lib.wp_append_run _ _ _ 42 42 rfl _ _ rfl rfl _ _ hr6 ?_
                 clear hr6 hg6 hO
                 obtain ⟨o6, n6, c6, hv6⟩ : ∃ o n c, v6 = .slice o n c := (by obtain ⟨o, c, h, _⟩ := hO6.form repOk; exact ⟨_, _, _, h⟩)
                 subst hv6
                 refine hK.out _ _ (rep_load3 (HXc.out.below hE35 HXc.out.lt)) (fun hHeld => ?_)
                 clear hK K
                 (try simp only [Act.put, List.setIfInBounds_toArray, List.set_cons_zero, List.set_cons_succ])
                 (apply tkF [7] rfl rfl (by kernel_rfl) (fun _ _ _ h => h) (by rfl); (case hy => (intro w hSw; (try dsimp only at hSw); go_simp; try with_reducible rfl)); (case hS => assumption); (try simp only [Act.put, List.setIfInBounds_toArray, List.set_cons_zero, List.set_cons_succ]))
                 refine doH (i := 8) rfl (by kernel_rfl) (by rfl) (fun K hK => ?_)
                 have hW := HWc.out.below hE35 HWc.out.lt
                 have c8 := hW.cell 1
                 have f8 := hW.frozen 1
                 change y35.cell? _ = some (.slice ob M cb) at c8
                 go_simp
                 have hW8 : Blk (y35.setCell ⟨w.heap.size, 1, none⟩ (.slice o6 n6 c6)) w.heap.size 44 #[.slice na ra cra, .slice o6 n6 c6, .slice oc P cc] := hW.set_ 1 (.slice o6 n6 c6)
                 have hG8 : World.grownBy wb (y35.setCell ⟨w.heap.size, 1, none⟩ (.slice o6 n6 c6)) (some w.heap.size) := grown_trans (only_of_below hE35 (some w.heap.size)) (grownG_setCell y35 ⟨w.heap.size, 1, none⟩ (.slice o6 n6 c6))
                 have hO8 := hO6.grown (grownG_setCell y35 ⟨w.heap.size, 1, none⟩ (.slice o6 n6 c6)) (by cases hv : Value.ownBlock (.slice o6 n6 c6) with | none => exact .inl rfl | some q => refine .inr (fun e => ?_); have h1 := (World.ownsRow.lt hO6 q hv).1; have h2 := HWc.out.lt; injection e with e; have e3 : q = w.heap.size := e; omega)
                 refine hK.out _ _ (rep_load3 ((HXc.out.below hE35 HXc.out.lt).far (p := ⟨w.heap.size, 1, none⟩) (by show gq ≠ w.heap.size; omega) (.slice o6 n6 c6))) (fun hHeld => ?_)
                 clear hK K
                 (try simp only [Act.put, List.setIfInBounds_toArray, List.set_cons_zero, List.set_cons_succ])
                 refine wpAnyH_done (by kernel_rfl) ?_ _
                 go_wp2_with fail
                 go_meet
                 exact ⟨.slice o6 n6 c6, hO8, hW8, hG8⟩
               · have hL := sl_rep (w := y31) (p := ⟨w.heap.size, 1, none⟩) ((HWc.out.below hE31 HWc.out.lt).cell 1)
                 change (loadVar 42 _).run Tryz.prog y31 = .ok (.slice ob M cb) y31 at hL
                 go_simp
                 refine hK.out _ _ (rep_load3 (HXc.out.below hE31 HXc.out.lt)) (fun hHeld => ?_)
                 clear hK K
                 (try simp only [Act.put, List.setIfInBounds_toArray, List.set_cons_zero, List.set_cons_succ])
                 clear hL
                 refine doH (i := 0) rfl (by kernel_rfl) (by rfl) (fun K hK => ?_)
                 go_simp
                 have hO := ownG_lit repOk y31 wb.heap.size hE31.size
                 have hyA := (Below.refl _ y31).alloc (Nat.le_refl _) (.cells #[] 35)
                 have hE38 := hE31.trans (hyA.mono hE31.size)
                 change OwnG _ (y31.alloc (.cells #[] 35)) _ _ _ at hO
                 have hR := hR.below hyA
                 have hb05 : y31.heap.size ≠ b5 := by omega
                 have hb0 : y31.heap.size < (y31.alloc (.cells #[] 35)).heap.size := by simp
                 generalize y31.alloc (.cells #[] 35) = y38 at *
                 generalize y31.heap.size = b0 at *
                 have hbl : b5 < y38.heap.size := by omega
                 refine hK.out _ _ (rep_load3 (HXc.out.below hE38 HXc.out.lt)) (fun hHeld => ?_)
                 clear hK K
                 (try simp only [Act.put, List.setIfInBounds_toArray, List.set_cons_zero, List.set_cons_succ])
                 refine doH (i := 3) rfl (by kernel_rfl) (by rfl) (fun K hK => ?_)
                 obtain ⟨v3, y39, hr3, hO3, hg3⟩ := append_g repOk hO ob M cb HLN.out (HOLD.out y38 hE38) HNIL.out (by simp; omega) hE38.size
                 have hE39 := hE38.grown hg3 hE38.size (fun j hj => (World.ownsRow.lt hO j hj).1)
                 have hR := hR.grown hg3 (fun a e => by cases e; intro e2; injection e2 with e2; have e3 : b0 = b5 := e2; omega)
                 clear hO
                 have hO := hO3
                 clear hO3
                 rw [List.nil_append] at hO
                 refine Lib.wp_append_run _ _ _ 42 42 rfl _ _ rfl rfl _ _ hr3 ?_
                 clear hr3 hg3
                 refine hK.out _ _ (rep_load3 (HXc.out.below hE39 HXc.out.lt)) (fun hHeld => ?_)
                 clear hK K
                 (try simp only [Act.put, List.setIfInBounds_toArray, List.set_cons_zero, List.set_cons_succ])
                 refine doH (i := 6) rfl (by kernel_rfl) (by rfl) (fun K hK => ?_)
                 obtain ⟨v6, y40, hr6, hO6, hg6⟩ := append_g repOk hO (some ⟨b5, 0, none⟩) 1 1 rfl hR (fun h => absurd h (by decide)) (by rw [HLN.out]; omega) hE39.size
                 have hE40 := hE39.grown hg6 hE39.size (fun j hj => (World.ownsRow.lt hO j hj).1)
                 refine Lib.wp_append_run _ _ _ 42 42 rfl _ _ rfl rfl _ _ hr6 ?_
                 clear hr6 hg6 hO
                 obtain ⟨o6, n6, c6, hv6⟩ : ∃ o n c, v6 = .slice o n c := (by obtain ⟨o, c, h, _⟩ := hO6.form repOk; exact ⟨_, _, _, h⟩)
                 subst hv6
                 refine hK.out _ _ (rep_load3 (HXc.out.below hE40 HXc.out.lt)) (fun hHeld => ?_)
                 clear hK K
                 (try simp only [Act.put, List.setIfInBounds_toArray, List.set_cons_zero, List.set_cons_succ])
                 (apply tkF [7] rfl rfl (by kernel_rfl) (fun _ _ _ h => h) (by rfl); (case hy => (intro w hSw; (try dsimp only at hSw); go_simp; try with_reducible rfl)); (case hS => assumption); (try simp only [Act.put, List.setIfInBounds_toArray, List.set_cons_zero, List.set_cons_succ]))
                 refine doH (i := 8) rfl (by kernel_rfl) (by rfl) (fun K hK => ?_)
                 have hW := HWc.out.below hE40 HWc.out.lt
                 have c8 := hW.cell 1
                 have f8 := hW.frozen 1
                 change y40.cell? _ = some (.slice ob M cb) at c8
                 go_simp
                 have hW8 : Blk (y40.setCell ⟨w.heap.size, 1, none⟩ (.slice o6 n6 c6)) w.heap.size 44 #[.slice na ra cra, .slice o6 n6 c6, .slice oc P cc] := hW.set_ 1 (.slice o6 n6 c6)
                 have hG8 : World.grownBy wb (y40.setCell ⟨w.heap.size, 1, none⟩ (.slice o6 n6 c6)) (some w.heap.size) := grown_trans (only_of_below hE40 (some w.heap.size)) (grownG_setCell y40 ⟨w.heap.size, 1, none⟩ (.slice o6 n6 c6))
                 have hO8 := hO6.grown (grownG_setCell y40 ⟨w.heap.size, 1, none⟩ (.slice o6 n6 c6)) (by cases hv : Value.ownBlock (.slice o6 n6 c6) with | none => exact .inl rfl | some q => refine .inr (fun e => ?_); have h1 := (World.ownsRow.lt hO6 q hv).1; have h2 := HWc.out.lt; injection e with e; have e3 : q = w.heap.size := e; omega)
                 refine hK.out _ _ (rep_load3 ((HXc.out.below hE40 HXc.out.lt).far (p := ⟨w.heap.size, 1, none⟩) (by show gq ≠ w.heap.size; omega) (.slice o6 n6 c6))) (fun hHeld => ?_)
                 clear hK K
                 (try simp only [Act.put, List.setIfInBounds_toArray, List.set_cons_zero, List.set_cons_succ])
                 refine wpAnyH_done (by kernel_rfl) ?_ _
                 go_wp2_with fail
                 go_meet
                 exact ⟨.slice o6 n6 c6, hO8, hW8, hG8⟩
            case rest =>
             obtain ⟨vb, hO, hW, hG⟩ := hcut
             obtain ⟨nb, rb, crb, hvb⟩ : ∃ o n c, vb = .slice o n c := (by obtain ⟨o, c, h, _⟩ := hO.form repOk; exact ⟨_, _, _, h⟩)
             subst hvb
             have hOa := HOa.out.grown hG (by cases hv : Value.ownBlock (.slice na ra cra) with | none => exact .inl rfl | some q => refine .inr (fun e => ?_); have h1 := (World.ownsRow.lt HOa.out q hv).1; injection e with e; have e3 : q = w.heap.size := e; omega)
             have hK2e := HK2b.out.grown hG (fun e => by injection e; omega)
             have hK3e := HK3b.out.grown hG (fun e => by injection e; omega)
             have hQe := HQb.out.grown hG (fun e => by injection e; omega)
             have hBe := HBb.out.grown hG HBb.out.size (fun j hj => by injection hj; omega)
             have hsb := HK3b.out.lt
             obtain ⟨ea, hRa, hca, hna, hga⟩ := hOa.parts reqOk
             obtain ⟨eb, hRb, hcb2, hnb, hgb⟩ := hO.parts repOk
             have HEA := Lib.hid ea
             have HEB := Lib.hid eb
             have HCA := Lib.hid hca
             have HCB2 := Lib.hid hcb2
             have HKS : Hid (∀ W, Blk W w.heap.size 44 #[.slice na ra cra, .slice nb rb crb, .slice oc P cc] → Blk W gq 35 #[.int .i64 0, .int .i64 M, .int .i64 ((P : Int) + 1)] → (loadVar 44 ⟨w.heap.size, 0, none⟩).run Tryz.prog W = .ok (.agg #[.slice na ra cra, .slice nb rb crb, .slice oc P cc]) W ∧ (loadVar 35 ⟨gq, 0, none⟩).run Tryz.prog W = .ok (.agg #[.int .i64 0, .int .i64 M, .int .i64 ((P : Int) + 1)]) W) := Lib.hid fun W h1 h2 => ⟨wld_load h1, rep_load3 h2⟩
             have hna2 : ∀ a, na = some a → w.heap.size ≤ a.block ∧ a.block ≠ w.heap.size + 2 ∧ a.block ≠ w.heap.size + 3 := fun a h => by have := hga a h; omega
             have hnb2 : ∀ a, nb = some a → w.heap.size ≤ a.block ∧ a.block ≠ w.heap.size + 2 ∧ a.block ≠ w.heap.size + 3 := fun a h => by have := hgb a h; omega
             clear ea eb hca hcb2 hG hO hOa hga hgb HWc HXc HLN HOLD HNIL HOa HK0b HK2b HK3b HQb HBb
             go_wp2_with fail
             refine wp_region_held_drew (S := fun W => (loadVar 44 ⟨w.heap.size, 0, none⟩).run Tryz.prog W = .ok (.agg #[.slice na ra cra, .slice nb rb crb, .slice oc P cc]) W ∧ (loadVar 35 ⟨gq, 0, none⟩).run Tryz.prog W = .ok (.agg #[.int .i64 0, .int .i64 M, .int .i64 ((P : Int) + 1)]) W) (by kernel_rfl) ?_ (fun hHeld0 => ?_)
             · exact HKS.out _ hW hQe
             have hd0 : Below wc.heap.size wc wc.drew := (Below.refl _ _).drew
             have HW9 := Lib.hid (hW.below hd0 hW.lt)
             have HQ9 := Lib.hid (hQe.below hd0 hQe.lt)
             have HK2w := Lib.hid (hK2e.below hd0 hK2e.lt)
             have HK3w := Lib.hid (hK3e.below hd0 hK3e.lt)
             have HBw := Lib.hid (hBe.trans (hd0.mono hBe.size))
             have HRa := Lib.hid (hRa.below hd0)
             have HRb := Lib.hid (hRb.below hd0)
             clear hW hQe hK2e hK3e hBe hRa hRb hd0
             generalize wc.drew = we at *
             iterate 2 (apply tkF [0, 1] rfl rfl (by kernel_rfl) (fun _ _ _ h => h) (by rfl); (case hy => (intro w hSw; (try dsimp only at hSw); go_simp; try with_reducible rfl)); (case hS => assumption); (try simp only [Act.put, List.setIfInBounds_toArray, List.set_cons_zero, List.set_cons_succ]))
             have g0 : we.cell? ⟨w.heap.size + 2, 0, none⟩ = some (.slice none 0 0) := HK2w.out.cell 0
             have f0 := HK2w.out.frozen 0
             have g1 : we.cell? ⟨w.heap.size + 2, 1, none⟩ = some (.slice none 0 0) := HK2w.out.cell 1
             have f1 := HK2w.out.frozen 1
             have g2 : we.cell? ⟨w.heap.size + 2, 2, none⟩ = some (.slice none 0 0) := HK2w.out.cell 2
             have f2 := HK2w.out.frozen 2
             have q0 : we.cell? ⟨w.heap.size + 3, 0, none⟩ = some (.int .i64 0) := HK3w.out.cell 0
             have p0 := HK3w.out.frozen 0
             have q1 : we.cell? ⟨w.heap.size + 3, 1, none⟩ = some (.int .i64 0) := HK3w.out.cell 1
             have p1 := HK3w.out.frozen 1
             have q2 : we.cell? ⟨w.heap.size + 3, 2, none⟩ = some (.int .i64 0) := HK3w.out.cell 2
             have p2 := HK3w.out.frozen 2
             refine doH (i := 2) rfl (by kernel_rfl) (by rfl) (fun K hK => ?_)
             go_simp
             refine hK.out _ _ (HKS.out _ (HW9.out.far3 (b := w.heap.size + 2) (by omega) (.slice na ra cra) (.slice nb rb crb) (.slice oc P cc)) (HQ9.out.far3 (b := w.heap.size + 2) (by omega) (.slice na ra cra) (.slice nb rb crb) (.slice oc P cc))) (fun hHeld2 => ?_)
             clear hK K hHeld0
             (try simp only [Act.put, List.setIfInBounds_toArray, List.set_cons_zero, List.set_cons_succ])
             refine doH (i := 3) rfl (by kernel_rfl) (by rfl) (fun K hK => ?_)
             go_simp
             refine hK.out _ _ (HKS.out _ ((HW9.out.far3 (b := w.heap.size + 2) (by omega) (.slice na ra cra) (.slice nb rb crb) (.slice oc P cc)).far3 (b := w.heap.size + 3) (by omega) (.int .i64 0) (.int .i64 M) (.int .i64 ((P : Int) + 1))) ((HQ9.out.far3 (b := w.heap.size + 2) (by omega) (.slice na ra cra) (.slice nb rb crb) (.slice oc P cc)).far3 (b := w.heap.size + 3) (by omega) (.int .i64 0) (.int .i64 M) (.int .i64 ((P : Int) + 1)))) (fun hHeld3 => ?_)
             clear hK K hHeld2
             (try simp only [Act.put, List.setIfInBounds_toArray, List.set_cons_zero, List.set_cons_succ])
             refine wpAnyH_done (by kernel_rfl) ?_ _
             go_wp2_with fail
             have n4 := (HK2w.out.set3 (.slice na ra cra) (.slice nb rb crb) (.slice oc P cc)).far3 (b := w.heap.size + 3) (by omega) (.int .i64 0) (.int .i64 M) (.int .i64 ((P : Int) + 1))
             have n5 := (HK3w.out.far3 (b := w.heap.size + 2) (by omega) (.slice na ra cra) (.slice nb rb crb) (.slice oc P cc)).set3 (.int .i64 0) (.int .i64 M) (.int .i64 ((P : Int) + 1))
             have hB9 := Below.set3 (b := w.heap.size + 3) (Below.set3 (b := w.heap.size + 2) HBw.out (by omega) (.slice na ra cra) (.slice nb rb crb) (.slice oc P cc)) (by omega) (.int .i64 0) (.int .i64 M) (.int .i64 ((P : Int) + 1))
             refine bodyPost_ret (results_row_row rfl _ _ (w.heap.size + 2) (w.heap.size + 3) 44 35 #[.slice na ra cra, .slice nb rb crb, .slice oc P cc] #[.int .i64 0, .int .i64 M, .int .i64 ((P : Int) + 1)] _ _ rfl n4 rfl n5 Tryz.underlying44 rfl (by kernel_rfl) Tryz.underlying35 rfl (by kernel_rfl)) rfl ?_
             rw [HRA.out, HASK.out]
             exact ⟨.slice na ra cra, .slice nb rb crb, rfl, ⟨na, cra, by rw [HEA.out], (HRa.out.set3 (fun x h => (hna2 x h).2.1) (.slice na ra cra) (.slice nb rb crb) (.slice oc P cc)).set3 (fun x h => (hna2 x h).2.2) (.int .i64 0) (.int .i64 M) (.int .i64 ((P : Int) + 1)), HCA.out, hna, .inr fun x h => (hna2 x h).1⟩, ⟨nb, crb, by rw [HEB.out], (HRb.out.set3 (fun x h => (hnb2 x h).2.1) (.slice na ra cra) (.slice nb rb crb) (.slice oc P cc)).set3 (fun x h => (hnb2 x h).2.2) (.int .i64 0) (.int .i64 M) (.int .i64 ((P : Int) + 1)), HCB2.out, hnb, .inr fun x h => (hnb2 x h).1⟩, hB9⟩
end
end Go.Proofs.YtnbboabaihddbaaGreat

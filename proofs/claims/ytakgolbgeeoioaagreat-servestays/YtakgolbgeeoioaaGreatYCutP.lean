/-
 Cut: the program's.
-/
import Derived.Test.YtakgolbgeeoioaaGreatSvMathYStateMLeaf
import Derived.Test.YtakgolbgeeoioaaGreatYDoRYCloneYCopiedSRootE
import Derived.Test.YtakgolbgeeoioaaGreatYLeavesSEntSSrt
import Derived.Test.YtakgolbgeeoioaaGreatSEnt2SMapRYMapPSvSt
import Derived.Test.YtakgolbgeeoioaaGreatYApply
import Derived.Deep.CutRange
namespace Go.Proofs.YtakgolbgeeoioaaGreat
open Go.RowKit

theorem headAt_z (hd : List Hd) : (headAt hd hd.length).1.z = zN hd hd.length ∧ (headAt hd hd.length).1.t = tN hd hd.length := by
 unfold headAt
 cases hl : hd.length with
 | zero => exact ⟨rfl, rfl⟩
 | succ j =>
  rw [if_pos ⟨by omega, by omega⟩, show ((j + 1 : Nat) : Int).toNat - 1 = j by omega]
  exact ⟨rfl, rfl⟩
theorem nearN_all (N : Nat) : nearN (N : Int) N = N := by unfold nearN; omega
section
attribute [-go_sem] loadVar
set_option maxRecDepth 100000 in
set_option maxHeartbeats 4000000 in
theorem cutC : CutC := by
 intro _ cs W now w hi hnow h
 obtain ⟨va, vb, rfl, hA', hD'⟩ := h
 have hA := hA'.zero
 have hD := hD'.zero
 clear hA' hD'
 obtain ⟨tk, rp, hd⟩ := W
 have hm := hi.most
 have hh := hi.heads
 have hzl := hi.hzl
 have htp := hi.tpos hd.length (Nat.le_refl _)
 have hz := hi.szq
 dsimp only at hm hh hA hD hzl hz
 obtain ⟨x, hx⟩ : ∃ x, lastW 0 ⟨tk, rp, hd⟩ = x := ⟨_, rfl⟩
 obtain ⟨y, hy⟩ : ∃ x, lastW 1 ⟨tk, rp, hd⟩ = x := ⟨_, rfl⟩
 obtain ⟨z, hz3⟩ : ∃ x, lastW 2 ⟨tk, rp, hd⟩ = x := ⟨_, rfl⟩
 obtain ⟨u, hu⟩ : ∃ x, lastW 3 ⟨tk, rp, hd⟩ = x := ⟨_, rfl⟩
 rw [hx, hy, hz3, hu]
 have HCP : Hid (∀ W, Below w.heap.size w W → Calls Tryz.prog 45 #[.agg (cellsS va x y z u vb)] W (RCopy x y z u tk hd W)) := Lib.hid fun W hW => copied_any 0 va vb x y z u tk hd (by omega) (by omega) W (hA.below hW) (hD.below hW)
 obtain ⟨oa, ca, rfl, hA1, hA2, hA3, _⟩ := hA
 obtain ⟨ob, cb, rfl, hD1, hD2, hD3, _⟩ := hD
 have HNO : Hid ((tk.length : Int) = zN hd hd.length → ∀ (a b : Value) (B2 : Nat) (w' : World), OwnG reqK w' w.heap.size a tk → OwnG hdK w' B2 b hd → w.heap.size ≤ B2 → Below w.heap.size w w' →
  ∃ cs', Ending.returned (.tuple #[.agg (cellsS a x y z u b), .bool false]) = .returned (.tuple #[.agg cs', .bool (isS ⟨tk, rp, hd⟩ now)]) ∧ StC w' (geP w.heap.size) cs' (cutS ⟨tk, rp, hd⟩ now) ∧ Below w.heap.size w w') := Lib.hid fun he a b B2 w' h1 h2 h3 h4 => by
  have e1 : cutW tk hd now = (hd, false) := by unfold cutW; rw [if_pos he]
  have es : cutS ⟨tk, rp, hd⟩ now = ⟨tk, rp, hd⟩ := by unfold cutS; rw [e1]
  have ei : isS ⟨tk, rp, hd⟩ now = false := by unfold isS; rw [e1]
  rw [es, ei]
  exact ⟨_, rfl, ⟨a, b, by rw [hx, hy, hz3, hu], (h1.slB reqOk).slP, ((h2.slB hdOk).mono h3).slP⟩, h4⟩
 have HYES : Hid (¬ (tk.length : Int) = zN hd hd.length → ∀ (a b : Value) (B2 : Nat) (w' : World), OwnG reqK w' w.heap.size a tk → OwnG hdK w' B2 b (hd ++ [headW tk hd now]) → w.heap.size ≤ B2 → Below w.heap.size w w' →
  ∃ cs', Ending.returned (.tuple #[.agg (cellsS a x y z u b), .bool true]) = .returned (.tuple #[.agg cs', .bool (isS ⟨tk, rp, hd⟩ now)]) ∧ StC w' (geP w.heap.size) cs' (cutS ⟨tk, rp, hd⟩ now) ∧ Below w.heap.size w w') := Lib.hid fun he a b B2 w' h1 h2 h3 h4 => by
  have e1 : cutW tk hd now = (hd ++ [headW tk hd now], true) := by unfold cutW; rw [if_neg he]
  have es : cutS ⟨tk, rp, hd⟩ now = ⟨tk, rp, hd ++ [headW tk hd now]⟩ := by unfold cutS; rw [e1]
  have ei : isS ⟨tk, rp, hd⟩ now = true := by unfold isS; rw [e1]
  rw [es, ei]
  exact ⟨_, rfl, ⟨a, b, by rw [show lastW 0 ⟨tk, rp, hd ++ [headW tk hd now]⟩ = x from hx, show lastW 1 ⟨tk, rp, hd ++ [headW tk hd now]⟩ = y from hy, show lastW 2 ⟨tk, rp, hd ++ [headW tk hd now]⟩ = z from hz3, show lastW 3 ⟨tk, rp, hd ++ [headW tk hd now]⟩ = u from hu], (h1.slB reqOk).slP, ((h2.slB hdOk).mono h3).slP⟩, h4⟩
 obtain ⟨PO, hPO⟩ : ∃ PO : Ending → World → Prop, PO = fun e w' => ∃ cs', e = .returned (.tuple #[.agg cs', .bool (isS ⟨tk, rp, hd⟩ now)]) ∧ StC w' (geP w.heap.size) cs' (cutS ⟨tk, rp, hd⟩ now) ∧ Below w.heap.size w w' := ⟨_, rfl⟩
 rw [← hPO]
 have HNO2 : Hid ((tk.length : Int) = zN hd hd.length → ∀ (a b : Value) (B2 : Nat) (w' : World), OwnG reqK w' w.heap.size a tk → OwnG hdK w' B2 b hd → w.heap.size ≤ B2 → Below w.heap.size w w' → PO (.returned (.tuple #[.agg (cellsS a x y z u b), .bool false])) w') := Lib.hid (by rw [hPO]; exact HNO.out)
 have HYES2 : Hid (¬ (tk.length : Int) = zN hd hd.length → ∀ (a b : Value) (B2 : Nat) (w' : World), OwnG reqK w' w.heap.size a tk → OwnG hdK w' B2 b (hd ++ [headW tk hd now]) → w.heap.size ≤ B2 → Below w.heap.size w w' → PO (.returned (.tuple #[.agg (cellsS a x y z u b), .bool true])) w') := Lib.hid (by rw [hPO]; exact HYES.out)
 clear hPO HNO HYES hx hy hz3 hu hi
 obtain ⟨hqa, hqt⟩ := headAt_z hd
 have HHD : Hid (∀ W, Below w.heap.size w W → Calls Tryz.prog 46 #[.agg (cellsS (.slice oa tk.length ca) x y z u (.slice ob hd.length cb)), .int .i64 (hd.length : Int)] W fun e w' => (∃ q, e = .returned (.tuple #[.agg #[.int .i64 q, .int .i64 (zN hd hd.length), .int .i64 (tN hd hd.length), .string (headAt hd hd.length).1.r, .string (headAt hd hd.length).1.m], .bool (headAt hd hd.length).2])) ∧ Below W.heap.size W w') := Lib.hid fun W hW => by
  refine (stHead_any (.slice oa tk.length ca) x y z u ob hd.length cb hd rfl (by omega) (hd.length : Int) (by omega) W (hD1.below hW)).mono ?_
  rintro e w' ⟨rfl, hb⟩
  rw [← hqa, ← hqt]
  exact ⟨⟨_, rfl⟩, hb⟩
 have HLV : Hid (∀ W, Below w.heap.size w W → Calls Tryz.prog 48 #[.agg (cellsS (.slice oa tk.length ca) x y z u (.slice ob hd.length cb)), .agg tabV, .int .i64 (tk.length : Int)] W fun e w' => ∃ ol cl, e = .returned (.slice ol tk.length cl) ∧ tk.length ≤ cl ∧ Strs w' ol (tk.map leafQ) ∧ Below W.heap.size W w') := Lib.hid fun W hW => by
  have key := leavesS_any oa tk.length ca x y z u (.slice ob hd.length cb) (tk.length : Int) tk rfl hA2 (by omega) (by omega) hz W (hA1.below hW)
  rw [nearN_all, List.take_length] at key
  refine key.mono ?_
  rintro e w' ⟨v, rfl, hv, hb⟩
  obtain ⟨ol, cl, rfl, hs, hc⟩ := hv.formY
  rw [List.length_map] at hc ⊢
  exact ⟨ol, cl, rfl, hc, hs, hb⟩
 have HR4 : Hid (∀ ol cl, tk.length ≤ cl → ∀ W, Strs W ol (tk.map leafQ) → Calls Tryz.prog 47 #[.agg tabV, .slice ol tk.length cl] W fun e w' => e = .returned (.string (rootM (tk.map leafQ))) ∧ Below W.heap.size W w') := Lib.hid fun ol cl hc W hS =>
  mroot_any tk.length ol cl (tk.map leafQ) (by rw [List.length_map]) (by omega) hc (fun x hx => by obtain ⟨r, _, rfl⟩ := List.mem_map.1 hx; unfold leafQ leafM; rw [hB_size]; decide) W hS
 have HMP : Hid (∀ W, Below w.heap.size w W → Calls Tryz.prog 50 #[.agg (cellsS (.slice oa tk.length ca) x y z u (.slice ob hd.length cb)), .int .i64 (tk.length : Int)] W fun e w' => ∃ b, e = .returned (.map (some b)) ∧ MapAt w' b (prsQ tk) ∧ Below W.heap.size W w') := Lib.hid fun W hW => by
  have key := mapS_any oa tk.length ca x y z u (.slice ob hd.length cb) (tk.length : Int) tk rfl hA2 (by omega) (by omega) hz W (hA1.below hW)
  rw [nearN_all, List.take_length] at key
  refine key.mono ?_
  rintro e w' ⟨b, rfl, _, h1, hb⟩
  exact ⟨b, rfl, h1, hb⟩
 have HR5 : Hid (∀ b W, MapAt W b (prsQ tk) → Calls Tryz.prog 49 #[.agg tabV, .map (some b)] W fun e w' => e = .returned (.string (mapR tk)) ∧ Below W.heap.size W w') := Lib.hid fun b W hM => by
  have hf := prsQ_fit hz tk.length
  rw [List.take_length] at hf
  refine (rootOf_any b (prsQ tk) (by have := prsQ_len tk; omega) hf W hM).mono ?_
  rintro e w' ⟨rfl, hb⟩
  refine ⟨?_, hb⟩
  rw [mapR_eq, rtL_eq, root_last hM]
  rfl
 have HHW : Hid (headW tk hd now = ⟨(hd.length : Int) + 1, tk.length, max (tN hd hd.length) now, rootM (tk.map leafQ), mapR tk⟩) := Lib.hid rfl
 obtain ⟨n, hn⟩ : ∃ n, tk.length = n := ⟨_, rfl⟩
 obtain ⟨m, hM⟩ : ∃ m, hd.length = m := ⟨_, rfl⟩
 rw [hn, hM] at HCP HHD HLV HMP HHW HYES2 HNO2
 rw [hn] at HR4 hm hh hA2 hzl
 rw [hM] at hh hD2 htp hzl
 rw [hn, hM]
 generalize zN hd m = zz at *
 generalize tN hd m = tt at *
 generalize (headAt hd m).1.r = hr0 at *
 generalize (headAt hd m).1.m = hm0 at *
 generalize (headAt hd m).2 = hb9 at *
 generalize rootM (tk.map leafQ) = RM4 at *
 generalize tk.map leafQ = LQ at *
 generalize mapR tk = MR at *
 generalize prsQ tk = PQ at *
 generalize headW tk hd now = HW9 at *
 have HN := Lib.hid hn
 have HM := Lib.hid hM
 have hb0 : Below w.heap.size w (((w.alloc (.cells (cellsS (.slice oa n ca) x y z u (.slice ob m cb)) 40)).alloc (.cells tabV 29)).alloc (.cells zeroSt 40)) := (((Below.refl _ w).alloc (Nat.le_refl _) _).alloc (by simp) _).alloc (by simp; omega) _
 have k0 : Blk (((w.alloc (.cells (cellsS (.slice oa n ca) x y z u (.slice ob m cb)) 40)).alloc (.cells tabV 29)).alloc (.cells zeroSt 40)) w.heap.size 40 (cellsS (.slice oa n ca) x y z u (.slice ob m cb)) := ((Blk.new _ _ _).alloc _).alloc _
 have k1 : Blk (((w.alloc (.cells (cellsS (.slice oa n ca) x y z u (.slice ob m cb)) 40)).alloc (.cells tabV 29)).alloc (.cells zeroSt 40)) (w.heap.size + 1) 29 tabV := (Blk.new_at (by simp)).alloc _
 have k2 : Blk (((w.alloc (.cells (cellsS (.slice oa n ca) x y z u (.slice ob m cb)) 40)).alloc (.cells tabV 29)).alloc (.cells zeroSt 40)) (w.heap.size + 1 + 1) 40 zeroSt := Blk.new_at (by simp)
 obtain ⟨w0, hw0⟩ : ∃ w0, (((w.alloc (.cells (cellsS (.slice oa n ca) x y z u (.slice ob m cb)) 40)).alloc (.cells tabV 29)).alloc (.cells zeroSt 40)) = w0 := ⟨_, rfl⟩
 rw [hw0] at hb0 k0 k1 k2
 have HW0 := Lib.hid hw0
 have HK0 := Lib.hid k0
 have HK1 := Lib.hid k1
 have HK2 := Lib.hid k2
 have HB0 := Lib.hid hb0
 have l0 := st_load (cellsS_size _ _ _ _ _ _) k0
 have hzS := zeroS
 clear hw0 k0 k1 k2 hb0 hn hM hA1 hD1 hqa hqt hz
 go_enter Tryz.func20, Tryz.ntmps20
 go_wp2_with (rw [HW0.out])
 refine (HCP.out w0 HB0.out).mono ?_
 rintro e w1 ⟨a1, b1, B2, rfl, hO1, hO2, hB2, hlt1, hB21, hb1⟩
 obtain ⟨o1, c1, rfl, _⟩ := hO1.form reqOk
 obtain ⟨o3, c3, rfl, _⟩ := hO2.form hdOk
 rw [HN.out] at hO1 hlt1 ⊢
 rw [HM.out] at hO2 ⊢
 have hlt0 := HK2.out.lt
 have hs01 := hb1.size
 obtain ⟨C1, hC1⟩ : ∃ C1, (cellsS (.slice o1 n c1) x y z u (.slice o3 m c3)) = C1 := ⟨_, rfl⟩
 have HI1 : Hid ((Tryz.prog.info? 40).map (·.size) = some C1.size) := Lib.hid (by rw [← hC1]; exact infoS)
 have HZ1 : Hid (zeroSt.size = C1.size) := Lib.hid (by rw [← hC1]; rfl)
 have HO1 : Hid ((C1.all fun x => x.oneCell') = true) := Lib.hid (by rw [← hC1]; exact cellsS_one o1 o3 n m c1 c3 _ _ _ _)
 have HS1 : Hid (C1.size = 22) := Lib.hid (by rw [← hC1]; rfl)
 obtain ⟨w2, hw2⟩ : ∃ w2, w1.alloc (.cells C1 40) = w2 := ⟨_, rfl⟩
 have hb2 : Below w0.heap.size w0 w2 := by rw [← hw2]; exact hb1.alloc (by omega) _
 have hb12 : Below w1.heap.size w1 w2 := by rw [← hw2]; exact (Below.refl _ w1).alloc (Nat.le_refl _) _
 have hk6 : Blk w2 w1.heap.size 40 C1 := by rw [← hw2]; exact Blk.new _ _ _
 have hs2 : w2.heap.size = w1.heap.size + 1 := by rw [← hw2]; simp
 have hO1w := hO1.below hb12
 have hO2w := hO2.below hb12
 rw [hC1]
 have HW2 := Lib.hid hw2
 have HC1 := Lib.hid hC1
 have HALL : Hid (∀ W, Below w2.heap.size w2 W → Blk W w.heap.size 40 (cellsS (.slice oa n ca) x y z u (.slice ob m cb)) ∧ Blk W (w.heap.size + 1) 29 tabV ∧ Blk W (w.heap.size + 1 + 1) 40 zeroSt ∧ Blk W w1.heap.size 40 C1 ∧
  OwnG reqK W w0.heap.size (.slice o1 n c1) tk ∧ OwnG hdK W B2 (.slice o3 m c3) hd ∧ Below w.heap.size w W) := Lib.hid fun W hW =>
  ⟨(HK0.out.below hb2 HK0.out.lt).below hW (by omega), (HK1.out.below hb2 HK1.out.lt).below hW (by omega), (HK2.out.below hb2 HK2.out.lt).below hW (by omega), hk6.below hW (by omega), hO1w.below hW, hO2w.below hW, HB0.out.trans ((hb2.trans (hW.mono (by omega))).mono HB0.out.size)⟩
 clear hw2 hC1 hk6 HK0 HK1 HK2 hO1 hO2 hO1w hO2w hb12 HW0 l0 HCP
 have l0 := st_load (cellsS_size _ _ _ _ _ _) (HALL.out w2 (Below.refl _ _)).1
 have l1 := sl_req ((HALL.out w2 (Below.refl _ _)).1.cell 0)
 have l2 := sl_hd ((HALL.out w2 (Below.refl _ _)).1.cell 21)
 change (loadVar 31 ⟨w.heap.size, 0, none⟩).run Tryz.prog w2 = .ok (.slice oa n ca) w2 at l1
 change (loadVar 38 ⟨w.heap.size, 21, none⟩).run Tryz.prog w2 = .ok (.slice ob m cb) w2 at l2
 obtain ⟨g6, hg6⟩ : ∃ g6, w1.heap.size = g6 := ⟨_, rfl⟩
 rw [hg6] at HALL
 go_wp2_with (refine wpList_store_row rfl 40 _ _ rfl g6 C1 rfl rfl 40 zeroSt (Blk.new_at hg6.symm) HI1.out HZ1.out HO1.out ?_; rw [← hg6, World.setRow_alloc_new, HW2.out])
 refine (HHD.out w2 (HALL.out w2 (Below.refl _ _)).2.2.2.2.2.2).mono ?_
 rintro e w3 ⟨⟨hq, rfl⟩, hb3⟩
 obtain ⟨w4, hw4⟩ : ∃ w4, w3.alloc (.cells #[.int .i64 hq, .int .i64 zz, .int .i64 tt, .string hr0, .string hm0] 51) = w4 := ⟨_, rfl⟩
 have hb34 : Below w3.heap.size w3 w4 := by rw [← hw4]; exact (Below.refl _ w3).alloc (Nat.le_refl _) _
 have hb4 : Below w2.heap.size w2 w4 := hb3.trans (hb34.mono hb3.size)
 have k7 : Blk w4 w3.heap.size 51 #[.int .i64 hq, .int .i64 zz, .int .i64 tt, .string hr0, .string hm0] := by rw [← hw4]; exact Blk.new _ _ _
 have HW4 := Lib.hid hw4
 obtain ⟨g7, hg7⟩ : ∃ g7, w3.heap.size = g7 := ⟨_, rfl⟩
 have hs37 : w2.heap.size ≤ g7 := by rw [← hg7]; exact hb3.size
 have HG7 := Lib.hid hg7
 rw [hg7] at k7
 have HB4 := Lib.hid hb4
 have HK7 := Lib.hid k7
 have f1 := num_load (k7.cell 1)
 change (loadVar 3 ⟨g7, 1, none⟩).run Tryz.prog w4 = .ok (.int .i64 zz) w4 at f1
 have f2 := st_load HS1.out (HALL.out w4 hb4).2.2.2.1
 have hg6l : g6 < w2.heap.size := (HALL.out w2 (Below.refl _ _)).2.2.2.1.lt
 have hg36 : w.heap.size + 1 + 1 < g6 := by omega
 have hB2g : B2 ≤ g6 := by omega
 clear hw4 hb34 hb4 k7 hg6 hg7 l0 l1 l2 hb3 hb2 hb1
 by_cases hle : (n : Int) ≤ zz
 · have hze : (n : Int) = zz := by omega
   have HNO : Hid (∀ (w' : World), OwnG reqK w' w0.heap.size (.slice o1 n c1) tk → OwnG hdK w' B2 (.slice o3 m c3) hd → Below w.heap.size w w' → PO (.returned (.tuple #[.agg C1, .bool false])) w') := Lib.hid fun w' h1 h2 h3 => by
    rw [← HC1.out]
    exact HNO2.out hze _ _ B2 w' (h1.mono HB0.out.size) h2 (by have := HB0.out.size; omega) h3
   clear hze HNO2
   obtain ⟨q0, q1, q2, q6, qa, qb, qB⟩ := HALL.out w4 HB4.out
   have HQ2 := Lib.hid q2
   have HQa := Lib.hid qa
   have HQb := Lib.hid qb
   have HQB := Lib.hid qB
   clear q0 q1 q2 q6 qa qb qB
   go_wp2_with (first
    | rw [HW4.out, HG7.out]
    | (refine wpList_store_row rfl 40 _ _ rfl (w.heap.size + 1 + 1) C1 rfl rfl 40 zeroSt HQ2.out HI1.out HZ1.out HO1.out ?_))
   have n4 : Blk (w4.setRow (w.heap.size + 1 + 1) C1) (w.heap.size + 1 + 1) 40 C1 := setRow_heap w4 _ zeroSt C1 40 (0, 0) HQ2.out
   have g4 : w4.grownBy (w4.setRow (w.heap.size + 1 + 1) C1) (some (w.heap.size + 1 + 1)) := only_setRow (grown_refl _ _) _
   refine bodyPost_ret (results_row_tmp rfl _ _ (w.heap.size + 1 + 1) 40 C1 _ rfl n4 Tryz.underlying40 rfl HI1.out) rfl ?_
   refine HNO.out _ (HQa.out.grown g4 (apart HQa.out (by omega))) (HQb.out.grown g4 (apart HQb.out (by omega))) ?_
   exact HQB.out.grown g4 HQB.out.size (fun k hk => by injection hk; omega)
 · have hze : ¬ (n : Int) = zz := by omega
   have HYS : Hid (∀ (b : Value) (B3 : Nat) (w' : World), OwnG reqK w' w0.heap.size (.slice o1 n c1) tk → OwnG hdK w' B3 b (hd ++ [HW9]) → w.heap.size ≤ B3 → Below w.heap.size w w' → PO (.returned (.tuple #[.agg (cellsS (.slice o1 n c1) x y z u b), .bool true])) w') := Lib.hid fun b B3 w' h1 h2 h3 h4 => HYES2.out hze _ b B3 w' (h1.mono HB0.out.size) h2 h3 h4
   clear hze HYES2 HNO2
   obtain ⟨T, hT⟩ : ∃ T, max tt now = T := ⟨_, rfl⟩
   have hmx : (if (if now < tt then tt else now) < 0 then 0 else if now < tt then tt else now) = T := by
    rw [← hT]
    by_cases h1 : now < tt
    · rw [if_pos h1, if_neg (by omega)]; omega
    · rw [if_neg h1, if_neg (by omega)]; omega
   have hHW : HW9 = ⟨(m : Int) + 1, n, T, RM4, MR⟩ := by rw [← hT]; exact HHW.out
   clear hT
   subst hHW
   obtain ⟨CC, hCC⟩ : ∃ CC, (cellsS (.slice oa n ca) x y z u (.slice ob m cb)) = CC := ⟨_, rfl⟩
   rw [hCC] at HLV HMP ⊢
   have HLV : Hid (∀ W, Below w4.heap.size w4 W → Calls Tryz.prog 48 #[.agg CC, .agg tabV, .int .i64 (n : Int)] W fun e w' => ∃ ol cl, e = .returned (.slice ol n cl) ∧ n ≤ cl ∧ Strs w' ol LQ ∧ Below W.heap.size W w') := Lib.hid fun W hW => HLV.out W (HALL.out W (HB4.out.trans (hW.mono HB4.out.size))).2.2.2.2.2.2
   have HMP : Hid (∀ W, Below w4.heap.size w4 W → Calls Tryz.prog 50 #[.agg CC, .int .i64 (n : Int)] W fun e w' => ∃ b, e = .returned (.map (some b)) ∧ MapAt w' b PQ ∧ Below W.heap.size W w') := Lib.hid fun W hW => HMP.out W (HALL.out W (HB4.out.trans (hW.mono HB4.out.size))).2.2.2.2.2.2
   have HKS : Hid (∀ W, Blk W w.heap.size 40 CC → Blk W (w.heap.size + 1) 29 tabV → Blk W g7 51 #[.int .i64 hq, .int .i64 zz, .int .i64 tt, .string hr0, .string hm0] → (fun W => ((loadVar 40 ⟨w.heap.size, 0, none⟩).run Tryz.prog W = .ok (.agg CC) W ∧ (loadVar 38 ⟨w.heap.size, 21, none⟩).run Tryz.prog W = .ok (.slice ob m cb) W ∧ (loadVar 29 ⟨w.heap.size + 1, 0, none⟩).run Tryz.prog W = .ok (.agg tabV) W) ∧ (loadVar 3 ⟨g7, 2, none⟩).run Tryz.prog W = .ok (.int .i64 tt) W) W) := Lib.hid fun W h1 h2 h3 => ⟨⟨st_load (by rw [← hCC]; rfl) h1, sl_hd (by rw [← hCC] at h1; exact h1.cell 21), tab_run h2⟩, num_load (h3.cell 2)⟩
   have HKP : Hid (∀ W, Below w4.heap.size w4 W → (fun W => ((loadVar 40 ⟨w.heap.size, 0, none⟩).run Tryz.prog W = .ok (.agg CC) W ∧ (loadVar 38 ⟨w.heap.size, 21, none⟩).run Tryz.prog W = .ok (.slice ob m cb) W ∧ (loadVar 29 ⟨w.heap.size + 1, 0, none⟩).run Tryz.prog W = .ok (.agg tabV) W) ∧ (loadVar 3 ⟨g7, 2, none⟩).run Tryz.prog W = .ok (.int .i64 tt) W) W) := Lib.hid fun W hW => by
    have hA := HALL.out W (HB4.out.trans (hW.mono HB4.out.size))
    exact HKS.out W (by rw [← hCC]; exact hA.1) hA.2.1 (HK7.out.below hW HK7.out.lt)
   have e5 : IntKind.i64.wrap ((m : Int) + 1) = (m : Int) + 1 := by rw [IntKind.wrap_i64]; omega
   have HCC := Lib.hid hCC
   clear hCC
   have HL6 : Hid (∀ W, Below w4.heap.size w4 W → (loadVar 38 ⟨g6, 21, none⟩).run Tryz.prog W = .ok (.slice o3 m c3) W) := Lib.hid fun W hW => by
    have h6 := (HALL.out W (HB4.out.trans (hW.mono HB4.out.size))).2.2.2.1
    rw [← HC1.out] at h6
    exact sl_hd (h6.cell 21)
   have HQ3 : Hid (∀ q, (Value.slice o3 m c3).ownBlock = some q → q < w2.heap.size) := Lib.hid fun q hq => (World.ownsRow.lt (HALL.out w2 (Below.refl _ _)).2.2.2.2.2.1 q hq).2
   have HFIN : Hid (∀ W, Below w4.heap.size w4 W → ∀ b5, RowG hdK W (some ⟨b5, 0, none⟩) [(⟨(m : Int) + 1, n, T, RM4, MR⟩ : Hd)] → ∃ o6 n6 c6 w', (Builtin.append_ #[38, 38] 38 #[.slice o3 m c3, .slice (some ⟨b5, 0, none⟩) 1 1]).run Tryz.prog W = .ok (.slice o6 n6 c6) w' ∧ w'.cell? ⟨g6, 21, none⟩ = some (.slice o3 m c3) ∧ w'.frozen? ⟨g6, 21, none⟩ = false ∧ (fun W => ((loadVar 40 ⟨w.heap.size, 0, none⟩).run Tryz.prog W = .ok (.agg CC) W ∧ (loadVar 38 ⟨w.heap.size, 21, none⟩).run Tryz.prog W = .ok (.slice ob m cb) W ∧ (loadVar 29 ⟨w.heap.size + 1, 0, none⟩).run Tryz.prog W = .ok (.agg tabV) W) ∧ (loadVar 3 ⟨g7, 2, none⟩).run Tryz.prog W = .ok (.int .i64 tt) W) w' ∧ (fun W => ((loadVar 40 ⟨w.heap.size, 0, none⟩).run Tryz.prog W = .ok (.agg CC) W ∧ (loadVar 38 ⟨w.heap.size, 21, none⟩).run Tryz.prog W = .ok (.slice ob m cb) W ∧ (loadVar 29 ⟨w.heap.size + 1, 0, none⟩).run Tryz.prog W = .ok (.agg tabV) W) ∧ (loadVar 3 ⟨g7, 2, none⟩).run Tryz.prog W = .ok (.int .i64 tt) W) (w'.setCell ⟨g6, 21, none⟩ (.slice o6 n6 c6)) ∧
    OwnG hdK (w'.setCell ⟨g6, 21, none⟩ (.slice o6 n6 c6)) B2 (.slice o6 n6 c6) (hd ++ [⟨(m : Int) + 1, n, T, RM4, MR⟩]) ∧ Blk (w'.setCell ⟨g6, 21, none⟩ (.slice o6 n6 c6)) g6 40 (cellsS (.slice o1 n c1) x y z u (.slice o6 n6 c6)) ∧ OwnG reqK (w'.setCell ⟨g6, 21, none⟩ (.slice o6 n6 c6)) w0.heap.size (.slice o1 n c1) tk ∧ Blk (w'.setCell ⟨g6, 21, none⟩ (.slice o6 n6 c6)) (w.heap.size + 1 + 1) 40 zeroSt ∧ Below w.heap.size w (w'.setCell ⟨g6, 21, none⟩ (.slice o6 n6 c6))) := Lib.hid fun W hW b5 hR => by
    obtain ⟨q0, q1, q2, q6, qa, qb, qB⟩ := HALL.out W (HB4.out.trans (hW.mono HB4.out.size))
    have q7 := HK7.out.below hW HK7.out.lt
    obtain ⟨v6, w', hr, hO6, hg⟩ := append_g hdOk qb (some ⟨b5, 0, none⟩) 1 1 rfl hR (fun h => absurd h (by decide)) (by rw [HM.out]; omega) (by have := HB4.out.size; have := hW.size; omega)
    obtain ⟨o6, n6, c6, hv6⟩ : ∃ o n c, v6 = .slice o n c := by obtain ⟨o, c, h, _⟩ := hO6.form hdOk; exact ⟨_, _, _, h⟩
    subst hv6
    have q0a := q0.grown hg (ne_row (apart qb (by omega)))
    have q1a := q1.grown hg (ne_row (apart qb (by omega)))
    have q2a := q2.grown hg (ne_row (apart qb (by omega)))
    have q6a := q6.grown hg (ne_row (apartT qb q6 (by decide)))
    have q7a := q7.grown hg (fun e => by have := HQ3.out g7 e.symm; omega)
    have qaa := qa.grown hg (by
     cases h1 : (Value.slice o1 n c1).ownBlock with
     | none => exact .inl rfl
     | some r => exact .inr (fun e => by have h4 := (World.ownsRow.lt qb r e.symm).1; have h5 := hlt1 r h1; omega))
    have qBa := qB.grown hg qB.size (fun k hk => by have h4 := (World.ownsRow.lt qb k hk).1; have := HB0.out.size; omega)
    have hg2 := grownG_setCell w' ⟨g6, 21, none⟩ (.slice o6 n6 c6)
    refine ⟨o6, n6, c6, w', hr, ?_, q6a.frozen 21, HKS.out _ (HCC.out ▸ q0a) q1a q7a, HKS.out _ (HCC.out ▸ (q0a.grown hg2 (by intro e; injection e with e; have e2 : w.heap.size = g6 := e; omega))) (q1a.grown hg2 (by intro e; injection e with e; have e2 : w.heap.size + 1 = g6 := e; omega)) (q7a.grown hg2 (by intro e; injection e with e; have e2 : g7 = g6 := e; omega)), hO6.grown hg2 (apartT hO6 q6a (by decide)), ?_, qaa.grown hg2 (apartT qaa q6a (by decide)), q2a.grown hg2 (by intro e; injection e with e; have e2 : w.heap.size + 1 + 1 = g6 := e; omega), qBa.grown hg2 qBa.size (fun k hk => by injection hk with e; have e2 : g6 = k := e; omega)⟩
    · rw [← HC1.out] at q6a; exact q6a.cell 21
    · rw [← HC1.out] at q6a; exact q6a.set_ 21 _
   go_upto_region 6 with (first | rw [HW4.out, HG7.out])
   go_cut [] from 30 to 55 (fun wx => ∃ vd, OwnG hdK wx B2 vd (hd ++ [⟨(m : Int) + 1, n, T, RM4, MR⟩]) ∧ Blk wx g6 40 (cellsS (.slice o1 n c1) x y z u vd) ∧ OwnG reqK wx w0.heap.size (.slice o1 n c1) tk ∧ Blk wx (w.heap.size + 1 + 1) 40 zeroSt ∧ Below w.heap.size w wx)
   case first =>
    refine wp_region_held_drew (S := fun W => ((loadVar 40 ⟨w.heap.size, 0, none⟩).run Tryz.prog W = .ok (.agg CC) W ∧ (loadVar 38 ⟨w.heap.size, 21, none⟩).run Tryz.prog W = .ok (.slice ob m cb) W ∧ (loadVar 29 ⟨w.heap.size + 1, 0, none⟩).run Tryz.prog W = .ok (.agg tabV) W) ∧ (loadVar 3 ⟨g7, 2, none⟩).run Tryz.prog W = .ok (.int .i64 tt) W) (by kernel_rfl) ?_ (fun hHeld0 => ?_)
    · exact HKP.out _ (Below.refl _ _).drew
    have hE0 : Below w4.heap.size w4 w4.drew := (Below.refl _ _).drew
    generalize w4.drew = y0 at *
    iterate 17 (apply tkF [0, 2, 3, 4, 5, 6, 7, 8, 9, 10, 11, 12, 13, 14, 17, 18, 19] rfl rfl (by kernel_rfl) (fun _ _ _ h => h) (by rfl); (case hy => (intro w hSw; (try dsimp only at hSw); go_simp; try with_reducible rfl)); (case hS => assumption); (try simp only [Act.put, List.setIfInBounds_toArray, List.set_cons_zero, List.set_cons_succ]))
    refine doH2 (i := 1) (j := 15) rfl rfl (by kernel_rfl) (by rfl) (by rfl) (fun K hK => ?_) (fun K hK => ?_)
    · have hL := HL6.out _ hE0
      go_simp
      refine hK.out _ _ (HKP.out _ hE0) (fun hHeld => ?_)
      clear hK K hL
      (try simp only [Act.put, List.setIfInBounds_toArray, List.set_cons_zero, List.set_cons_succ])
      refine doH (i := 15) rfl (by kernel_rfl) (by rfl) (fun K hK => ?_)
      go_simp
      go_at_call 48; refine (HLV.out _ hE0).mono ?_; rintro e y1 ⟨ol, cl, rfl, hcl, hs1, hy⟩
      have hE1 : Below w4.heap.size w4 y1 := hE0.trans (hy.mono hE0.size)
      go_wp2_with fail
      refine hK.out _ _ (HKP.out _ hE1) (fun hHeld => ?_)
      clear hK K
      (try simp only [Act.put, List.setIfInBounds_toArray, List.set_cons_zero, List.set_cons_succ])
      refine doH (i := 16) rfl (by kernel_rfl) (by rfl) (fun K hK => ?_)
      go_simp
      go_at_call 47; refine (HR4.out ol cl hcl _ hs1).mono ?_; rintro e y2 ⟨rfl, hy⟩
      have hE2 : Below w4.heap.size w4 y2 := hE1.trans (hy.mono hE1.size)
      go_wp2_with fail
      refine hK.out _ _ (HKP.out _ hE2) (fun hHeld => ?_)
      clear hK K
      (try simp only [Act.put, List.setIfInBounds_toArray, List.set_cons_zero, List.set_cons_succ])
      refine doH (i := 20) rfl (by kernel_rfl) (by rfl) (fun K hK => ?_)
      go_simp
      go_at_call 50; refine (HMP.out _ hE2).mono ?_; rintro e y3 ⟨bm, rfl, hmp, hy⟩
      have hE3 : Below w4.heap.size w4 y3 := hE2.trans (hy.mono hE2.size)
      go_wp2_with fail
      refine hK.out _ _ (HKP.out _ hE3) (fun hHeld => ?_)
      clear hK K
      (try simp only [Act.put, List.setIfInBounds_toArray, List.set_cons_zero, List.set_cons_succ])
      refine doH (i := 21) rfl (by kernel_rfl) (by rfl) (fun K hK => ?_)
      go_simp
      go_at_call 49; refine (HR5.out bm _ hmp).mono ?_; rintro e y4 ⟨rfl, hy⟩
      have hE4 : Below w4.heap.size w4 y4 := hE3.trans (hy.mono hE3.size)
      go_wp2_with fail
      refine hK.out _ _ (HKP.out _ hE4) (fun hHeld => ?_)
      clear hK K
      (try simp only [Act.put, List.setIfInBounds_toArray, List.set_cons_zero, List.set_cons_succ])
      (apply tkF [22] rfl rfl (by kernel_rfl) (fun _ _ _ h => h) (by rfl); (case hy => (intro w hSw; (try dsimp only at hSw); go_simp; try with_reducible rfl)); (case hS => assumption); (try simp only [Act.put, List.setIfInBounds_toArray, List.set_cons_zero, List.set_cons_succ]))
      refine doH (i := 23) rfl (by kernel_rfl) (by rfl) (fun K hK => ?_)
      go_simp
      have hR := rowG_new hdOk y4 (⟨(m : Int) + 1, n, T, RM4, MR⟩ : Hd)
      have hyA := (Below.refl _ y4).alloc (Nat.le_refl _) (.cells #[.int .i64 ((m : Int) + 1), .int .i64 n, .int .i64 T, .string RM4, .string MR] 51)
      have hE5 := hE4.trans (hyA.mono hE4.size)
      change RowG _ (y4.alloc (.cells #[.int .i64 ((m : Int) + 1), .int .i64 n, .int .i64 T, .string RM4, .string MR] 51)) _ _ at hR
      generalize y4.alloc (.cells #[.int .i64 ((m : Int) + 1), .int .i64 n, .int .i64 T, .string RM4, .string MR] 51) = y5 at *
      generalize y4.heap.size = b5 at *
      refine hK.out _ _ (HKP.out _ hE5) (fun hHeld => ?_)
      clear hK K
      (try simp only [Act.put, List.setIfInBounds_toArray, List.set_cons_zero, List.set_cons_succ])
      obtain ⟨o6, n6, c6, y99, hr6, hc6, hf6, hS1, hS2, hT⟩ := HFIN.out _ hE5 b5 hR
      refine doH (i := 24) rfl (by kernel_rfl) (by rfl) (fun K hK => ?_)
      refine Lib.wp_append_run _ _ _ 38 38 rfl _ _ rfl rfl _ _ hr6 ?_
      refine hK.out _ _ hS1 (fun hHeld => ?_)
      clear hK K
      (try simp only [Act.put, List.setIfInBounds_toArray, List.set_cons_zero, List.set_cons_succ])
      (apply tkF [25] rfl rfl (by kernel_rfl) (fun _ _ _ h => h) (by rfl); (case hy => (intro w hSw; (try dsimp only at hSw); go_simp; try with_reducible rfl)); (case hS => assumption); (try simp only [Act.put, List.setIfInBounds_toArray, List.set_cons_zero, List.set_cons_succ]))
      refine doH (i := 26) rfl (by kernel_rfl) (by rfl) (fun K hK => ?_)
      go_simp
      refine hK.out _ _ hS2 (fun hHeld => ?_)
      clear hK K
      (try simp only [Act.put, List.setIfInBounds_toArray, List.set_cons_zero, List.set_cons_succ])
      refine wpAnyH_done (by kernel_rfl) ?_ _
      go_wp2_with fail
      go_meet
      exact ⟨_, hT⟩
    · go_simp
      go_at_call 48; refine (HLV.out _ hE0).mono ?_; rintro e y6 ⟨ol, cl, rfl, hcl, hs1, hy⟩
      have hE6 : Below w4.heap.size w4 y6 := hE0.trans (hy.mono hE0.size)
      go_wp2_with fail
      refine hK.out _ _ (HKP.out _ hE6) (fun hHeld => ?_)
      clear hK K
      (try simp only [Act.put, List.setIfInBounds_toArray, List.set_cons_zero, List.set_cons_succ])
      refine doH2 (i := 1) (j := 16) rfl rfl (by kernel_rfl) (by rfl) (by rfl) (fun K hK => ?_) (fun K hK => ?_)
      · have hL := HL6.out _ hE6
        go_simp
        refine hK.out _ _ (HKP.out _ hE6) (fun hHeld => ?_)
        clear hK K hL
        (try simp only [Act.put, List.setIfInBounds_toArray, List.set_cons_zero, List.set_cons_succ])
        refine doH (i := 16) rfl (by kernel_rfl) (by rfl) (fun K hK => ?_)
        go_simp
        go_at_call 47; refine (HR4.out ol cl hcl _ hs1).mono ?_; rintro e y7 ⟨rfl, hy⟩
        have hE7 : Below w4.heap.size w4 y7 := hE6.trans (hy.mono hE6.size)
        go_wp2_with fail
        refine hK.out _ _ (HKP.out _ hE7) (fun hHeld => ?_)
        clear hK K
        (try simp only [Act.put, List.setIfInBounds_toArray, List.set_cons_zero, List.set_cons_succ])
        refine doH (i := 20) rfl (by kernel_rfl) (by rfl) (fun K hK => ?_)
        go_simp
        go_at_call 50; refine (HMP.out _ hE7).mono ?_; rintro e y8 ⟨bm, rfl, hmp, hy⟩
        have hE8 : Below w4.heap.size w4 y8 := hE7.trans (hy.mono hE7.size)
        go_wp2_with fail
        refine hK.out _ _ (HKP.out _ hE8) (fun hHeld => ?_)
        clear hK K
        (try simp only [Act.put, List.setIfInBounds_toArray, List.set_cons_zero, List.set_cons_succ])
        refine doH (i := 21) rfl (by kernel_rfl) (by rfl) (fun K hK => ?_)
        go_simp
        go_at_call 49; refine (HR5.out bm _ hmp).mono ?_; rintro e y9 ⟨rfl, hy⟩
        have hE9 : Below w4.heap.size w4 y9 := hE8.trans (hy.mono hE8.size)
        go_wp2_with fail
        refine hK.out _ _ (HKP.out _ hE9) (fun hHeld => ?_)
        clear hK K
        (try simp only [Act.put, List.setIfInBounds_toArray, List.set_cons_zero, List.set_cons_succ])
        (apply tkF [22] rfl rfl (by kernel_rfl) (fun _ _ _ h => h) (by rfl); (case hy => (intro w hSw; (try dsimp only at hSw); go_simp; try with_reducible rfl)); (case hS => assumption); (try simp only [Act.put, List.setIfInBounds_toArray, List.set_cons_zero, List.set_cons_succ]))
        refine doH (i := 23) rfl (by kernel_rfl) (by rfl) (fun K hK => ?_)
        go_simp
        have hR := rowG_new hdOk y9 (⟨(m : Int) + 1, n, T, RM4, MR⟩ : Hd)
        have hyA := (Below.refl _ y9).alloc (Nat.le_refl _) (.cells #[.int .i64 ((m : Int) + 1), .int .i64 n, .int .i64 T, .string RM4, .string MR] 51)
        have hE10 := hE9.trans (hyA.mono hE9.size)
        change RowG _ (y9.alloc (.cells #[.int .i64 ((m : Int) + 1), .int .i64 n, .int .i64 T, .string RM4, .string MR] 51)) _ _ at hR
        generalize y9.alloc (.cells #[.int .i64 ((m : Int) + 1), .int .i64 n, .int .i64 T, .string RM4, .string MR] 51) = y10 at *
        generalize y9.heap.size = b5 at *
        refine hK.out _ _ (HKP.out _ hE10) (fun hHeld => ?_)
        clear hK K
        (try simp only [Act.put, List.setIfInBounds_toArray, List.set_cons_zero, List.set_cons_succ])
        obtain ⟨o6, n6, c6, y99, hr6, hc6, hf6, hS1, hS2, hT⟩ := HFIN.out _ hE10 b5 hR
        refine doH (i := 24) rfl (by kernel_rfl) (by rfl) (fun K hK => ?_)
        refine Lib.wp_append_run _ _ _ 38 38 rfl _ _ rfl rfl _ _ hr6 ?_
        refine hK.out _ _ hS1 (fun hHeld => ?_)
        clear hK K
        (try simp only [Act.put, List.setIfInBounds_toArray, List.set_cons_zero, List.set_cons_succ])
        (apply tkF [25] rfl rfl (by kernel_rfl) (fun _ _ _ h => h) (by rfl); (case hy => (intro w hSw; (try dsimp only at hSw); go_simp; try with_reducible rfl)); (case hS => assumption); (try simp only [Act.put, List.setIfInBounds_toArray, List.set_cons_zero, List.set_cons_succ]))
        refine doH (i := 26) rfl (by kernel_rfl) (by rfl) (fun K hK => ?_)
        go_simp
        refine hK.out _ _ hS2 (fun hHeld => ?_)
        clear hK K
        (try simp only [Act.put, List.setIfInBounds_toArray, List.set_cons_zero, List.set_cons_succ])
        refine wpAnyH_done (by kernel_rfl) ?_ _
        go_wp2_with fail
        go_meet
        exact ⟨_, hT⟩
      · go_simp
        go_at_call 47; refine (HR4.out ol cl hcl _ hs1).mono ?_; rintro e y11 ⟨rfl, hy⟩
        have hE11 : Below w4.heap.size w4 y11 := hE6.trans (hy.mono hE6.size)
        go_wp2_with fail
        refine hK.out _ _ (HKP.out _ hE11) (fun hHeld => ?_)
        clear hK K
        (try simp only [Act.put, List.setIfInBounds_toArray, List.set_cons_zero, List.set_cons_succ])
        refine doH2 (i := 1) (j := 20) rfl rfl (by kernel_rfl) (by rfl) (by rfl) (fun K hK => ?_) (fun K hK => ?_)
        · have hL := HL6.out _ hE11
          go_simp
          refine hK.out _ _ (HKP.out _ hE11) (fun hHeld => ?_)
          clear hK K hL
          (try simp only [Act.put, List.setIfInBounds_toArray, List.set_cons_zero, List.set_cons_succ])
          refine doH (i := 20) rfl (by kernel_rfl) (by rfl) (fun K hK => ?_)
          go_simp
          go_at_call 50; refine (HMP.out _ hE11).mono ?_; rintro e y12 ⟨bm, rfl, hmp, hy⟩
          have hE12 : Below w4.heap.size w4 y12 := hE11.trans (hy.mono hE11.size)
          go_wp2_with fail
          refine hK.out _ _ (HKP.out _ hE12) (fun hHeld => ?_)
          clear hK K
          (try simp only [Act.put, List.setIfInBounds_toArray, List.set_cons_zero, List.set_cons_succ])
          refine doH (i := 21) rfl (by kernel_rfl) (by rfl) (fun K hK => ?_)
          go_simp
          go_at_call 49; refine (HR5.out bm _ hmp).mono ?_; rintro e y13 ⟨rfl, hy⟩
          have hE13 : Below w4.heap.size w4 y13 := hE12.trans (hy.mono hE12.size)
          go_wp2_with fail
          refine hK.out _ _ (HKP.out _ hE13) (fun hHeld => ?_)
          clear hK K
          (try simp only [Act.put, List.setIfInBounds_toArray, List.set_cons_zero, List.set_cons_succ])
          (apply tkF [22] rfl rfl (by kernel_rfl) (fun _ _ _ h => h) (by rfl); (case hy => (intro w hSw; (try dsimp only at hSw); go_simp; try with_reducible rfl)); (case hS => assumption); (try simp only [Act.put, List.setIfInBounds_toArray, List.set_cons_zero, List.set_cons_succ]))
          refine doH (i := 23) rfl (by kernel_rfl) (by rfl) (fun K hK => ?_)
          go_simp
          have hR := rowG_new hdOk y13 (⟨(m : Int) + 1, n, T, RM4, MR⟩ : Hd)
          have hyA := (Below.refl _ y13).alloc (Nat.le_refl _) (.cells #[.int .i64 ((m : Int) + 1), .int .i64 n, .int .i64 T, .string RM4, .string MR] 51)
          have hE14 := hE13.trans (hyA.mono hE13.size)
          change RowG _ (y13.alloc (.cells #[.int .i64 ((m : Int) + 1), .int .i64 n, .int .i64 T, .string RM4, .string MR] 51)) _ _ at hR
          generalize y13.alloc (.cells #[.int .i64 ((m : Int) + 1), .int .i64 n, .int .i64 T, .string RM4, .string MR] 51) = y14 at *
          generalize y13.heap.size = b5 at *
          refine hK.out _ _ (HKP.out _ hE14) (fun hHeld => ?_)
          clear hK K
          (try simp only [Act.put, List.setIfInBounds_toArray, List.set_cons_zero, List.set_cons_succ])
          obtain ⟨o6, n6, c6, y99, hr6, hc6, hf6, hS1, hS2, hT⟩ := HFIN.out _ hE14 b5 hR
          refine doH (i := 24) rfl (by kernel_rfl) (by rfl) (fun K hK => ?_)
          refine Lib.wp_append_run _ _ _ 38 38 rfl _ _ rfl rfl _ _ hr6 ?_
          refine hK.out _ _ hS1 (fun hHeld => ?_)
          clear hK K
          (try simp only [Act.put, List.setIfInBounds_toArray, List.set_cons_zero, List.set_cons_succ])
          (apply tkF [25] rfl rfl (by kernel_rfl) (fun _ _ _ h => h) (by rfl); (case hy => (intro w hSw; (try dsimp only at hSw); go_simp; try with_reducible rfl)); (case hS => assumption); (try simp only [Act.put, List.setIfInBounds_toArray, List.set_cons_zero, List.set_cons_succ]))
          refine doH (i := 26) rfl (by kernel_rfl) (by rfl) (fun K hK => ?_)
          go_simp
          refine hK.out _ _ hS2 (fun hHeld => ?_)
          clear hK K
          (try simp only [Act.put, List.setIfInBounds_toArray, List.set_cons_zero, List.set_cons_succ])
          refine wpAnyH_done (by kernel_rfl) ?_ _
          go_wp2_with fail
          go_meet
          exact ⟨_, hT⟩
        · go_simp
          go_at_call 50; refine (HMP.out _ hE11).mono ?_; rintro e y15 ⟨bm, rfl, hmp, hy⟩
          have hE15 : Below w4.heap.size w4 y15 := hE11.trans (hy.mono hE11.size)
          go_wp2_with fail
          refine hK.out _ _ (HKP.out _ hE15) (fun hHeld => ?_)
          clear hK K
          (try simp only [Act.put, List.setIfInBounds_toArray, List.set_cons_zero, List.set_cons_succ])
          refine doH2 (i := 1) (j := 21) rfl rfl (by kernel_rfl) (by rfl) (by rfl) (fun K hK => ?_) (fun K hK => ?_)
          · have hL := HL6.out _ hE15
            go_simp
            refine hK.out _ _ (HKP.out _ hE15) (fun hHeld => ?_)
            clear hK K hL
            (try simp only [Act.put, List.setIfInBounds_toArray, List.set_cons_zero, List.set_cons_succ])
            refine doH (i := 21) rfl (by kernel_rfl) (by rfl) (fun K hK => ?_)
            go_simp
            go_at_call 49; refine (HR5.out bm _ hmp).mono ?_; rintro e y16 ⟨rfl, hy⟩
            have hE16 : Below w4.heap.size w4 y16 := hE15.trans (hy.mono hE15.size)
            go_wp2_with fail
            refine hK.out _ _ (HKP.out _ hE16) (fun hHeld => ?_)
            clear hK K
            (try simp only [Act.put, List.setIfInBounds_toArray, List.set_cons_zero, List.set_cons_succ])
            (apply tkF [22] rfl rfl (by kernel_rfl) (fun _ _ _ h => h) (by rfl); (case hy => (intro w hSw; (try dsimp only at hSw); go_simp; try with_reducible rfl)); (case hS => assumption); (try simp only [Act.put, List.setIfInBounds_toArray, List.set_cons_zero, List.set_cons_succ]))
            refine doH (i := 23) rfl (by kernel_rfl) (by rfl) (fun K hK => ?_)
            go_simp
            have hR := rowG_new hdOk y16 (⟨(m : Int) + 1, n, T, RM4, MR⟩ : Hd)
            have hyA := (Below.refl _ y16).alloc (Nat.le_refl _) (.cells #[.int .i64 ((m : Int) + 1), .int .i64 n, .int .i64 T, .string RM4, .string MR] 51)
            have hE17 := hE16.trans (hyA.mono hE16.size)
            change RowG _ (y16.alloc (.cells #[.int .i64 ((m : Int) + 1), .int .i64 n, .int .i64 T, .string RM4, .string MR] 51)) _ _ at hR
            generalize y16.alloc (.cells #[.int .i64 ((m : Int) + 1), .int .i64 n, .int .i64 T, .string RM4, .string MR] 51) = y17 at *
            generalize y16.heap.size = b5 at *
            refine hK.out _ _ (HKP.out _ hE17) (fun hHeld => ?_)
            clear hK K
            (try simp only [Act.put, List.setIfInBounds_toArray, List.set_cons_zero, List.set_cons_succ])
            obtain ⟨o6, n6, c6, y99, hr6, hc6, hf6, hS1, hS2, hT⟩ := HFIN.out _ hE17 b5 hR
            refine doH (i := 24) rfl (by kernel_rfl) (by rfl) (fun K hK => ?_)
            refine Lib.wp_append_run _ _ _ 38 38 rfl _ _ rfl rfl _ _ hr6 ?_
            refine hK.out _ _ hS1 (fun hHeld => ?_)
            clear hK K
            (try simp only [Act.put, List.setIfInBounds_toArray, List.set_cons_zero, List.set_cons_succ])
            (apply tkF [25] rfl rfl (by kernel_rfl) (fun _ _ _ h => h) (by rfl); (case hy => (intro w hSw; (try dsimp only at hSw); go_simp; try with_reducible rfl)); (case hS => assumption); (try simp only [Act.put, List.setIfInBounds_toArray, List.set_cons_zero, List.set_cons_succ]))
            refine doH (i := 26) rfl (by kernel_rfl) (by rfl) (fun K hK => ?_)
            go_simp
            refine hK.out _ _ hS2 (fun hHeld => ?_)
            clear hK K
            (try simp only [Act.put, List.setIfInBounds_toArray, List.set_cons_zero, List.set_cons_succ])
            refine wpAnyH_done (by kernel_rfl) ?_ _
            go_wp2_with fail
            go_meet
            exact ⟨_, hT⟩
          · go_simp
            go_at_call 49; refine (HR5.out bm _ hmp).mono ?_; rintro e y18 ⟨rfl, hy⟩
            have hE18 : Below w4.heap.size w4 y18 := hE15.trans (hy.mono hE15.size)
            go_wp2_with fail
            refine hK.out _ _ (HKP.out _ hE18) (fun hHeld => ?_)
            clear hK K
            (try simp only [Act.put, List.setIfInBounds_toArray, List.set_cons_zero, List.set_cons_succ])
            (apply tkF [22] rfl rfl (by kernel_rfl) (fun _ _ _ h => h) (by rfl); (case hy => (intro w hSw; (try dsimp only at hSw); go_simp; try with_reducible rfl)); (case hS => assumption); (try simp only [Act.put, List.setIfInBounds_toArray, List.set_cons_zero, List.set_cons_succ]))
            refine doH2 (i := 1) (j := 23) rfl rfl (by kernel_rfl) (by rfl) (by rfl) (fun K hK => ?_) (fun K hK => ?_)
            · have hL := HL6.out _ hE18
              go_simp
              refine hK.out _ _ (HKP.out _ hE18) (fun hHeld => ?_)
              clear hK K hL
              (try simp only [Act.put, List.setIfInBounds_toArray, List.set_cons_zero, List.set_cons_succ])
              refine doH (i := 23) rfl (by kernel_rfl) (by rfl) (fun K hK => ?_)
              go_simp
              have hR := rowG_new hdOk y18 (⟨(m : Int) + 1, n, T, RM4, MR⟩ : Hd)
              have hyA := (Below.refl _ y18).alloc (Nat.le_refl _) (.cells #[.int .i64 ((m : Int) + 1), .int .i64 n, .int .i64 T, .string RM4, .string MR] 51)
              have hE19 := hE18.trans (hyA.mono hE18.size)
              change RowG _ (y18.alloc (.cells #[.int .i64 ((m : Int) + 1), .int .i64 n, .int .i64 T, .string RM4, .string MR] 51)) _ _ at hR
              generalize y18.alloc (.cells #[.int .i64 ((m : Int) + 1), .int .i64 n, .int .i64 T, .string RM4, .string MR] 51) = y19 at *
              generalize y18.heap.size = b5 at *
              refine hK.out _ _ (HKP.out _ hE19) (fun hHeld => ?_)
              clear hK K
              (try simp only [Act.put, List.setIfInBounds_toArray, List.set_cons_zero, List.set_cons_succ])
              obtain ⟨o6, n6, c6, y99, hr6, hc6, hf6, hS1, hS2, hT⟩ := HFIN.out _ hE19 b5 hR
              refine doH (i := 24) rfl (by kernel_rfl) (by rfl) (fun K hK => ?_)
              refine Lib.wp_append_run _ _ _ 38 38 rfl _ _ rfl rfl _ _ hr6 ?_
              refine hK.out _ _ hS1 (fun hHeld => ?_)
              clear hK K
              (try simp only [Act.put, List.setIfInBounds_toArray, List.set_cons_zero, List.set_cons_succ])
              (apply tkF [25] rfl rfl (by kernel_rfl) (fun _ _ _ h => h) (by rfl); (case hy => (intro w hSw; (try dsimp only at hSw); go_simp; try with_reducible rfl)); (case hS => assumption); (try simp only [Act.put, List.setIfInBounds_toArray, List.set_cons_zero, List.set_cons_succ]))
              refine doH (i := 26) rfl (by kernel_rfl) (by rfl) (fun K hK => ?_)
              go_simp
              refine hK.out _ _ hS2 (fun hHeld => ?_)
              clear hK K
              (try simp only [Act.put, List.setIfInBounds_toArray, List.set_cons_zero, List.set_cons_succ])
              refine wpAnyH_done (by kernel_rfl) ?_ _
              go_wp2_with fail
              go_meet
              exact ⟨_, hT⟩
            · go_simp
              have hR := rowG_new hdOk y18 (⟨(m : Int) + 1, n, T, RM4, MR⟩ : Hd)
              have hyA := (Below.refl _ y18).alloc (Nat.le_refl _) (.cells #[.int .i64 ((m : Int) + 1), .int .i64 n, .int .i64 T, .string RM4, .string MR] 51)
              have hE20 := hE18.trans (hyA.mono hE18.size)
              change RowG _ (y18.alloc (.cells #[.int .i64 ((m : Int) + 1), .int .i64 n, .int .i64 T, .string RM4, .string MR] 51)) _ _ at hR
              generalize y18.alloc (.cells #[.int .i64 ((m : Int) + 1), .int .i64 n, .int .i64 T, .string RM4, .string MR] 51) = y20 at *
              generalize y18.heap.size = b5 at *
              refine hK.out _ _ (HKP.out _ hE20) (fun hHeld => ?_)
              clear hK K
              (try simp only [Act.put, List.setIfInBounds_toArray, List.set_cons_zero, List.set_cons_succ])
              refine doH (i := 1) rfl (by kernel_rfl) (by rfl) (fun K hK => ?_)
              have hL := HL6.out _ hE20
              go_simp
              refine hK.out _ _ (HKP.out _ hE20) (fun hHeld => ?_)
              clear hK K hL
              (try simp only [Act.put, List.setIfInBounds_toArray, List.set_cons_zero, List.set_cons_succ])
              obtain ⟨o6, n6, c6, y99, hr6, hc6, hf6, hS1, hS2, hT⟩ := HFIN.out _ hE20 b5 hR
              refine doH (i := 24) rfl (by kernel_rfl) (by rfl) (fun K hK => ?_)
              refine Lib.wp_append_run _ _ _ 38 38 rfl _ _ rfl rfl _ _ hr6 ?_
              refine hK.out _ _ hS1 (fun hHeld => ?_)
              clear hK K
              (try simp only [Act.put, List.setIfInBounds_toArray, List.set_cons_zero, List.set_cons_succ])
              (apply tkF [25] rfl rfl (by kernel_rfl) (fun _ _ _ h => h) (by rfl); (case hy => (intro w hSw; (try dsimp only at hSw); go_simp; try with_reducible rfl)); (case hS => assumption); (try simp only [Act.put, List.setIfInBounds_toArray, List.set_cons_zero, List.set_cons_succ]))
              refine doH (i := 26) rfl (by kernel_rfl) (by rfl) (fun K hK => ?_)
              go_simp
              refine hK.out _ _ hS2 (fun hHeld => ?_)
              clear hK K
              (try simp only [Act.put, List.setIfInBounds_toArray, List.set_cons_zero, List.set_cons_succ])
              refine wpAnyH_done (by kernel_rfl) ?_ _
              go_wp2_with fail
              go_meet
              exact ⟨_, hT⟩
   case rest =>
    obtain ⟨vd, hO, h6, hOr, h2, hB⟩ := hcut
    obtain ⟨od, cd, hvd, _⟩ := hO.form hdOk
    obtain ⟨nd, hnd⟩ : ∃ nd, (hd ++ [(⟨(m : Int) + 1, n, T, RM4, MR⟩ : Hd)]).length = nd := ⟨_, rfl⟩
    rw [hnd] at hvd
    subst hvd
    obtain ⟨C2, hC2⟩ : ∃ C2, cellsS (.slice o1 n c1) x y z u (.slice od nd cd) = C2 := ⟨_, rfl⟩
    have HI2 : Hid ((Tryz.prog.info? 40).map (·.size) = some C2.size) := Lib.hid (by rw [← hC2]; exact infoS)
    have HZ2 : Hid (zeroSt.size = C2.size) := Lib.hid (by rw [← hC2]; rfl)
    have HO2 : Hid ((C2.all fun x => x.oneCell') = true) := Lib.hid (by rw [← hC2]; exact cellsS_one o1 od n nd c1 cd _ _ _ _)
    have HFI : Hid (∀ (w' : World), OwnG reqK w' w0.heap.size (.slice o1 n c1) tk → OwnG hdK w' B2 (.slice od nd cd) (hd ++ [(⟨(m : Int) + 1, n, T, RM4, MR⟩ : Hd)]) → Below w.heap.size w w' → PO (.returned (.tuple #[.agg C2, .bool true])) w') := Lib.hid fun w' h1 h2 h3 => by
     rw [← hC2]
     exact HYS.out _ B2 w' h1 h2 (by have := HB0.out.size; omega) h3
    rw [hC2] at h6
    have l6 := st_load (by rw [← hC2]; rfl) h6
    have HQ2 := Lib.hid h2
    have HQa := Lib.hid hOr
    have HQb := Lib.hid hO
    have HQB := Lib.hid hB
    clear hC2 h6 h2 hOr hO hB hnd
    go_wp2_with (refine wpList_store_row rfl 40 _ _ rfl (w.heap.size + 1 + 1) C2 rfl rfl 40 zeroSt HQ2.out HI2.out HZ2.out HO2.out ?_)
    have n4 : Blk (wc.setRow (w.heap.size + 1 + 1) C2) (w.heap.size + 1 + 1) 40 C2 := setRow_heap wc _ zeroSt C2 40 (0, 0) HQ2.out
    have g4 : wc.grownBy (wc.setRow (w.heap.size + 1 + 1) C2) (some (w.heap.size + 1 + 1)) := only_setRow (grown_refl _ _) _
    refine bodyPost_ret (results_row_tmp rfl _ _ (w.heap.size + 1 + 1) 40 C2 _ rfl n4 Tryz.underlying40 rfl HI2.out) rfl ?_
    refine HFI.out _ (HQa.out.grown g4 (apart HQa.out (by omega))) (HQb.out.grown g4 (apart HQb.out (by omega))) ?_
    exact HQB.out.grown g4 HQB.out.size (fun k hk => by injection hk; omega)
end
end Go.Proofs.YtakgolbgeeoioaaGreat

/-
 Make: the reference's of layer 12.
-/
import Derived.Test.YtnbboabaihddbaaGreatERiseEPreMYClone
import Derived.Test.YtnbboabaihddbaaGreatYDoROpensGOpOpsPost
import Derived.Test.YtnbboabaihddbaaGreatYApply
import Derived.Deep.CutRange
namespace Go.Proofs.YtnbboabaihddbaaGreat
open Go.RowKit

/-- what Make answers -/
def RMk (l : List Req) (hs : List Hd) (w : World) (e : Ending) (w' : World) : Prop :=
 ((mkE l hs = none ∧ e = .returned (.tuple #[.agg zeroWd, .bool false])) ∨
  (∃ W ds, mkE l hs = some W ∧ InvW W ∧ e = .returned (.tuple #[.agg ds, .bool true]) ∧ WdC w' (geP w.heap.size) ds W)) ∧ Below w.heap.size w w'
theorem zeroWd_one : (zeroWd.all fun x => x.oneCell') = true := by simp [zeroWd, Value.oneCell']
theorem infoW : (Tryz.prog.info? 44).map (·.size) = some 3 := by kernel_rfl
section
attribute [-go_sem] loadVar
set_option maxRecDepth 100000 in
set_option maxHeartbeats 4000000 in
theorem make12_any (oa ob : Option Addr) (n ca m cb : Nat) (l : List Req) (hs : List Hd) (hn : l.length = n) (hm : hs.length = m) (hn2 : n ≤ 1000000) (hm2 : m ≤ 1000000) (hsm : ∀ r ∈ l, smallB r = true) (w : World) (hA : RowG reqK w oa l) (hB : RowG hdK w ob hs) :
 Calls Tryz.prog 19 #[.agg (emC emp), .slice oa n ca, .slice ob m cb] w (RMk l hs w) := by
 have HRM := Lib.hid (show ∀ e w', RMk l hs w e w' = (((mkE l hs = none ∧ e = .returned (.tuple #[.agg zeroWd, .bool false])) ∨
  (∃ W ds, mkE l hs = some W ∧ InvW W ∧ e = .returned (.tuple #[.agg ds, .bool true]) ∧ WdC w' (geP w.heap.size) ds W)) ∧ Below w.heap.size w w') from fun _ _ => rfl)
 have HMK := Lib.hid (show mkE l hs = if riseH n hs then stE l hs n else none by unfold mkE; rw [hn])
 have HNO : Hid (∀ i, i < m → ∀ x, hs.getD i default = x → (x.z ≤ zN hs i ∨ (n : Int) < x.z ∨ x.t < tN hs i ∨ 2147483647 < x.t) → mkE l hs = none) := Lib.hid fun i hi x hx h => by rw [HMK.out, riseH_no (i := i) (by rw [hm]; exact hi) (by rw [hx]; exact h)]; rfl
 have HYES : Hid ((∀ i, i < m → zN hs i < (hs.getD i default).z ∧ (hs.getD i default).z ≤ (n : Int) ∧ tN hs i ≤ (hs.getD i default).t ∧ (hs.getD i default).t ≤ 2147483647) → riseH n hs = true) := Lib.hid fun h => riseH_yes (by rw [hm]; exact h)
 have HHD : Hid (∀ k, k < m → ∃ x : Hd, hs.getD k default = x ∧ zN hs (k + 1) = x.z ∧ tN hs (k + 1) = x.t ∧ ∃ g o, ob = some ⟨g, o, none⟩ ∧ ∀ X, Below w.heap.size w X → (loadVar 48 ⟨g, o + k * 5, none⟩).run Tryz.prog X = .ok (.agg #[.int .i64 x.q, .int .i64 x.z, .int .i64 x.t, .string x.r, .string x.m]) X ∧ (loadVar 3 ⟨g, o + k * 5 + 1, none⟩).run Tryz.prog X = .ok (.int .i64 x.z) X ∧ (loadVar 3 ⟨g, o + k * 5 + 2, none⟩).run Tryz.prog X = .ok (.int .i64 x.t) X) := Lib.hid fun k hk => by
  obtain ⟨g, o, h1, h2, h3⟩ := hd_whole hB (i := k) (by omega)
  obtain ⟨g', o', h1', h2', _, c1, c2, _⟩ := hd_at hB (i := k) (by omega)
  rw [h1] at h1'
  injection h1' with e
  injection e with e1 e2
  subst e1 e2
  have e : hs.getD k default = hs[k]'(by omega) := by rw [List.getD_eq_getElem?_getD, List.getElem?_eq_getElem (by omega)]; rfl
  refine ⟨hs[k]'(by omega), e, by show (hs.getD k default).z = _; rw [e], by show (hs.getD k default).t = _; rw [e], g, o, h1, fun X hX => ⟨h3 X hX, ?_⟩⟩
  have hc := fun j => hX.cell (p := ⟨g, j, none⟩) h2
  exact ⟨num_load ((hc _).trans c1), num_load ((hc _).trans c2)⟩
 have HX : Hid (∀ k, k < n → ∃ r : Req, l.getD k default = r ∧ smallB r = true ∧ ∃ g o, oa = some ⟨g, o, none⟩ ∧ ∀ X, Below w.heap.size w X → (loadVar 58 ⟨g, o + k * 5, none⟩).run Tryz.prog X = .ok (.agg #[.int .i64 r.c, .int .i64 r.q, .string r.l, .string r.k, .string r.v]) X) := Lib.hid fun k hk => by
  obtain ⟨g, o, h1, _, h3⟩ := req_whole hA (i := k) (by omega)
  have e : l.getD k default = l[k]'(by omega) := by rw [List.getD_eq_getElem?_getD, List.getElem?_eq_getElem (by omega)]; rfl
  exact ⟨l[k]'(by omega), e, hsm _ (List.getElem_mem _), g, o, h1, h3⟩
 have HRa := Lib.hid raskC
 have HRc0 := rcutC
 unfold RCutC at HRc0
 have HRc := Lib.hid HRc0
 clear HRc0
 have HLN := Lib.hid hn
 have HHM := Lib.hid hm
 clear hA hB hsm hn hm
 have HI := Lib.hid (show (Tryz.prog.info? 61).map (·.size) = some (emC emp).size by rw [emC_size]; exact infoEm)
 generalize emC emp = EE at *
 have HIE : Hid ((Tryz.prog.info? 61).map (·.size) = some EE.size) := HI
 have HZ9 := Lib.hid zeroW
 have z2 := HZ9.out
 obtain ⟨w0, hw0⟩ : ∃ w0, ((w.alloc (.cells EE 61)).alloc (.cells zeroWd 44)).alloc (.cells zeroWd 44) = w0 := ⟨_, rfl⟩
 have hsz0 : w0.heap.size = w.heap.size + 3 := by rw [← hw0]; simp
 have kE : Blk w0 w.heap.size 61 EE := by rw [← hw0]; exact ((Blk.new _ _ _).alloc _).alloc _
 have k6 : Blk w0 (w.heap.size + 1) 44 zeroWd := by rw [← hw0]; exact (Blk.new_at (by simp)).alloc _
 have k8 : Blk w0 (w.heap.size + 1 + 1) 44 zeroWd := by rw [← hw0]; exact Blk.new_at (by simp)
 have hb0 : Below w.heap.size w w0 := by rw [← hw0]; exact (((Below.refl _ w).alloc (Nat.le_refl _) _).alloc (by simp) _).alloc (by simp <;> omega) _
 have HW0 := Lib.hid hw0
 clear hw0
 generalize RMk l hs w = PO at *
 go_enter Tryz.func19, Tryz.ntmps19
 go_wp2_with (rw [HW0.out])
 generalize hge0 : w.heap.size + 1 + 1 = ge at *
 have hge : w.heap.size + 1 < ge := by omega
 have HZD : Hid (∀ i, tN hs 0 = 0 ∧ zN hs 0 = 0 ∧ (i = 0 → True)) := Lib.hid fun _ => ⟨rfl, rfl, fun _ => trivial⟩
 have HK0 := Lib.hid (And.intro kE (And.intro k6 k8))
 have HB0 := Lib.hid hb0
 clear hge0 kE k6 k8 hb0 hsz0
 go_loopw [9, 10, 11] (fun a b i wr => ∃ k : Nat, k ≤ m ∧ i = .int .i64 k ∧ a = .int .i64 (zN hs k) ∧ b = .int .i64 (tN hs k) ∧ Hid (∀ i, i < k → zN hs i < (hs.getD i default).z ∧ (hs.getD i default).z ≤ (n : Int) ∧ tN hs i ≤ (hs.getD i default).t ∧ (hs.getD i default).t ≤ 2147483647) ∧ Below w0.heap.size w0 wr) (fun _ _ i _ => m - (intOf i).toNat)
 case atStart => exact ⟨0, by omega, rfl, rfl, rfl, Lib.hid fun i hi => absurd hi (by omega), Below.refl _ _⟩
 case round =>
  obtain ⟨k, hk, rfl, rfl, rfl, HA, hB⟩ := hrel
  by_cases hlt : k < m
  · have hlt' : (k : Int) < (m : Int) := by omega
    obtain ⟨x, hx, hz1, ht1, g, o, rfl, hld⟩ := HHD.out k hlt
    have d0 := (hld wr (HB0.out.trans (hB.mono HB0.out.size))).1
    have HNX := Lib.hid (HNO.out k hlt x hx)
    have HXG := Lib.hid hx
    have HZ1 := Lib.hid (And.intro hz1 ht1)
    obtain ⟨yz, hyz⟩ : ∃ y, zN hs k = y := ⟨_, rfl⟩
    obtain ⟨yt, hyt⟩ : ∃ y, tN hs k = y := ⟨_, rfl⟩
    rw [hyz, hyt] at HNX ⊢
    have HYZ := Lib.hid (And.intro hyz hyt)
    obtain ⟨xq, xz, xt, xr, xm⟩ := x
    dsimp only at d0 HNX HZ1
    obtain ⟨w2, hw2⟩ : ∃ w2, wr.alloc (.cells #[.int .i64 xq, .int .i64 xz, .int .i64 xt, .string xr, .string xm] 48) = w2 := ⟨_, rfl⟩
    have hb2 : Below wr.heap.size wr w2 := by rw [← hw2]; exact (Below.refl _ wr).alloc (Nat.le_refl _) _
    have k9 : Blk w2 wr.heap.size 48 #[.int .i64 xq, .int .i64 xz, .int .i64 xt, .string xr, .string xm] := by rw [← hw2]; exact Blk.new _ _ _
    have hB2 := hB.trans (hb2.mono hB.size)
    have k62 := HK0.out.2.1.below hB2 HK0.out.2.1.lt
    have hB9 := HB0.out.trans (hB2.mono HB0.out.size)
    have HW2 := Lib.hid hw2
    obtain ⟨g9, hg9⟩ : ∃ g9, wr.heap.size = g9 := ⟨_, rfl⟩
    have HG9 := Lib.hid hg9
    rw [hg9] at k9
    have l1 := num_load (k9.cell 1)
    have l2 := num_load (k9.cell 2)
    have HBW := Lib.hid hB2
    clear hx hz1 ht1 hyz hyt hld hB hb2 k9 hw2 hg9 hB2
    by_cases q1 : xz ≤ yz
    · have HF := Lib.hid (HNX.out (.inl q1))
      clear l2
      go_wp2_with (first
       | rw [HW2.out, HG9.out]
       | (refine wpList_store_row rfl 44 _ _ rfl (w.heap.size + 1) zeroWd rfl rfl 44 zeroWd k62 infoW rfl zeroWd_one ?_))
      refine bodyPost_ret (results_row_tmp rfl _ _ (w.heap.size + 1) 44 zeroWd _ rfl (blk_setRow k62 _) Tryz.underlying44 rfl infoW) rfl ?_
      rw [HRM.out]
      exact ⟨.inl ⟨HF.out, rfl⟩, below_setRow hB9 (by omega) _⟩
    · by_cases q2 : (n : Int) < xz
      · have HF := Lib.hid (HNX.out (.inr (.inl q2)))
        clear l2
        go_wp2_with (first
         | rw [HW2.out, HG9.out]
         | (refine wpList_store_row rfl 44 _ _ rfl (w.heap.size + 1) zeroWd rfl rfl 44 zeroWd k62 infoW rfl zeroWd_one ?_))
        refine bodyPost_ret (results_row_tmp rfl _ _ (w.heap.size + 1) 44 zeroWd _ rfl (blk_setRow k62 _) Tryz.underlying44 rfl infoW) rfl ?_
        rw [HRM.out]
        exact ⟨.inl ⟨HF.out, rfl⟩, below_setRow hB9 (by omega) _⟩
      · by_cases q3 : xt < yt
        · have HF := Lib.hid (HNX.out (.inr (.inr (.inl q3))))
          clear HZ1
          go_wp2_with (first
           | rw [HW2.out, HG9.out]
           | (refine wpList_store_row rfl 44 _ _ rfl (w.heap.size + 1) zeroWd rfl rfl 44 zeroWd k62 infoW rfl zeroWd_one ?_))
          refine bodyPost_ret (results_row_tmp rfl _ _ (w.heap.size + 1) 44 zeroWd _ rfl (blk_setRow k62 _) Tryz.underlying44 rfl infoW) rfl ?_
          rw [HRM.out]
          exact ⟨.inl ⟨HF.out, rfl⟩, below_setRow hB9 (by omega) _⟩
        · by_cases q4 : 2147483647 < xt
          · have HF := Lib.hid (HNX.out (.inr (.inr (.inr q4))))
            clear HZ1
            go_wp2_with (first
             | rw [HW2.out, HG9.out]
             | (refine wpList_store_row rfl 44 _ _ rfl (w.heap.size + 1) zeroWd rfl rfl 44 zeroWd k62 infoW rfl zeroWd_one ?_))
            refine bodyPost_ret (results_row_tmp rfl _ _ (w.heap.size + 1) 44 zeroWd _ rfl (blk_setRow k62 _) Tryz.underlying44 rfl infoW) rfl ?_
            rw [HRM.out]
            exact ⟨.inl ⟨HF.out, rfl⟩, below_setRow hB9 (by omega) _⟩
          · have HA2 : Hid (∀ i, i < k + 1 → zN hs i < (hs.getD i default).z ∧ (hs.getD i default).z ≤ (n : Int) ∧ tN hs i ≤ (hs.getD i default).t ∧ (hs.getD i default).t ≤ 2147483647) := Lib.hid fun i hi => by
             by_cases e : i = k
             · subst e
               rw [HXG.out, HYZ.out.1, HYZ.out.2]
               dsimp only
               omega
             · exact HA.out i (by omega)
            go_wp2_with (rw [HW2.out, HG9.out])
            go_roundw
            case rel => exact ⟨k + 1, by omega, by go_num, by rw [HZ1.out.1], by rw [HZ1.out.2], HA2, HBW.out⟩
            case measure => simp [intOf]; omega
  · obtain rfl : m = k := by omega
    have hltM : ¬ (m : Int) < (m : Int) := by omega
    have HRISE := Lib.hid (HYES.out HA.out)
    rw [HRISE.out, if_pos rfl] at HMK
    have hE9 := HK0.out.1.below hB HK0.out.1.lt
    have k6 := HK0.out.2.1.below hB HK0.out.2.1.lt
    have h8 := HK0.out.2.2.below hB HK0.out.2.2.lt
    have hB9 := HB0.out.trans (hB.mono HB0.out.size)
    generalize zN hs m = zz at *
    generalize tN hs m = tt at *
    generalize wr = wo at *
    have HKE : Hid (∀ X, wo.grownBy X (some ge) → Blk X w.heap.size 61 EE) := Lib.hid fun X hX => hE9.grown hX (fun e => by injection e; omega)
    have HK6 : Hid (∀ X, wo.grownBy X (some ge) → Blk X (w.heap.size + 1) 44 zeroWd) := Lib.hid fun X hX => k6.grown hX (fun e => by injection e; omega)
    have HBW : Hid (∀ X, wo.grownBy X (some ge) → Below w.heap.size w X) := Lib.hid fun X hX => hB9.grown hX hB9.size (fun q hq => by injection hq; omega)
    have HZW := Lib.hid (zeroWd_at wo (fun q => ge < q))
    clear hE9 k6 hB9 HA HNO HYES HK0 HB0 hlt hB HZD
    go_wp2_with fail
    go_loopw [13] (fun i wr => ∃ (k : Nat) (W : Wd) (ds : Array Value), k ≤ n ∧ i = .int .i64 k ∧ Hid (stE l hs k = some W) ∧ Blk wr ge 44 ds ∧ WdC wr (fun q => ge < q) ds W ∧ wo.grownBy wr (some ge)) (fun i _ => n - (intOf i).toNat)
    case atStart => exact ⟨0, ⟨[], [], []⟩, zeroWd, by omega, rfl, Lib.hid rfl, h8, HZW.out, grown_refl _ _⟩
    case round =>
     clear h8
     obtain ⟨k, W0, ds, hk, rfl, HST, h8, hDa, hG⟩ := hrel
     have hgl := h8.lt
     obtain ⟨hinv, htk⟩ := stE_inv l hs k (by rw [HLN.out]; exact hk) HST.out
     have HINV := Lib.hid hinv
     have HTK : Hid (W0.tk.length = k) := Lib.hid (by rw [htk, List.length_take]; have := HLN.out; omega)
     clear hinv htk
     by_cases hlt : k < n
     · have hlt' : (k : Int) < (n : Int) := by omega
       obtain ⟨r, hr, hrs, g, o, rfl, hld⟩ := HX.out k hlt
       have HRR := Lib.hid hr
       have hB := HBW.out wr hG
       obtain ⟨xc, xq, xl, xk, xv⟩ := r
       dsimp only at hld
       obtain ⟨⟨Re, Ri, Rh⟩, hsay⟩ : ∃ y, saysS W0 ⟨xc, xq, xl, xk, xv⟩ = y := ⟨_, rfl⟩
       have HCR : Hid (∀ (P : Nat → Prop) X, (∀ q, X.heap.size ≤ q → P q) → WdC X P ds W0 → Calls Tryz.prog 29 #[.agg ds, .agg #[.int .i64 xc, .int .i64 xq, .string xl, .string xk, .string xv]] X fun e w' => ∃ cs', e = .returned (.tuple #[.agg cs', .agg #[.int .i64 Re, .int .i64 Ri, .int .i64 Rh]]) ∧ WdC w' P cs' (askS W0 ⟨xc, xq, xl, xk, xv⟩) ∧ Below X.heap.size X w') := Lib.hid fun P X hP hX => by
        have key := HRa.out P ds W0 ⟨xc, xq, xl, xk, xv⟩ X hP HINV.out hrs hX
        rw [hsay] at key
        exact key
       clear hsay hrs hr
       have HKP : Hid (∀ W, Below wr.heap.size wr W → (fun W => (loadVar 44 ⟨ge, 0, none⟩).run Tryz.prog W = .ok (.agg ds) W ∧ (loadVar 58 ⟨g, o + k * 5, none⟩).run Tryz.prog W = .ok (.agg #[.int .i64 xc, .int .i64 xq, .string xl, .string xk, .string xv]) W) W) := Lib.hid fun W hW => ⟨wd_load hDa.size (h8.below hW h8.lt), hld W (hB.trans (hW.mono hB.size))⟩
       have HSZ2 := Lib.hid hDa.size
       clear hld hB
       go_wp2_with fail
       go_upto_region 14 with fail
       go_cut [14, 15] from 62 to 70 (fun p b wx => ∃ gb gr ds', p = .pointer (some ⟨gb, 0, none⟩) ∧ b = .pointer (some ⟨gr, 0, none⟩) ∧ wr.heap.size ≤ gb ∧ wr.heap.size ≤ gr ∧ Blk wx gb 44 ds' ∧ Blk wx gr 35 #[.int .i64 Re, .int .i64 Ri, .int .i64 Rh] ∧ WdC wx (fun q => ge < q ∧ q ≠ gb) ds' (askS W0 ⟨xc, xq, xl, xk, xv⟩) ∧ Below wr.heap.size wr wx)
       case first =>
        refine wp_region_held_drew (S := fun W => (loadVar 44 ⟨ge, 0, none⟩).run Tryz.prog W = .ok (.agg ds) W ∧ (loadVar 58 ⟨g, o + k * 5, none⟩).run Tryz.prog W = .ok (.agg #[.int .i64 xc, .int .i64 xq, .string xl, .string xk, .string xv]) W) (by kernel_rfl) ?_ (fun hHeld0 => ?_)
        · exact HKP.out _ (Below.refl _ _).drew
        have hE0 : Below wr.heap.size wr wr.drew := (Below.refl _ _).drew
        generalize wr.drew = y0 at *
        iterate 5 (apply tkF [0, 1, 2, 3, 4] rfl rfl (by kernel_rfl) (fun _ _ _ h => h) (by rfl); (case hy => (intro w hSw; (try dsimp only at hSw); go_simp; try with_reducible rfl)); (case hS => assumption); (try simp only [Act.put, List.setIfInBounds_toArray, List.set_cons_zero, List.set_cons_succ]))
        refine doH3 (i := 5) (j := 9) (k := 10) rfl rfl rfl (by kernel_rfl) (by rfl) (by rfl) (by rfl) (fun K hK => ?_) (fun K hK => ?_) (fun K hK => ?_)
        · go_simp
          have hvy := hE0.size
          go_at_call 29
          refine (HCR.out (fun q => ge < q) y0 (fun q hq => by show ge < q; omega) ((hDa.imp (P' := (fun q => ge < q)) (fun q h1 h2 => by have h8 : ge < q := h2; show ge < q; omega)).below hE0)).mono ?_
          rintro e y1 ⟨ds', rfl, hX, hy1⟩
          have hE1 : Below wr.heap.size wr y1 := hE0.trans (hy1.mono hE0.size)
          obtain ⟨yc, hyc⟩ : ∃ yc, y1 = yc := ⟨_, rfl⟩
          rw [hyc] at hX
          have hbc : Below yc.heap.size yc y1 := by rw [hyc]; exact Below.refl _ _
          clear hyc
          go_wp2_with fail
          refine hK.out _ _ (HKP.out _ hE1) (fun hHeld => ?_)
          clear hK K
          (try simp only [Act.put, List.setIfInBounds_toArray, List.set_cons_zero, List.set_cons_succ])
          iterate 3 (apply tkF [6, 7, 8] rfl rfl (by kernel_rfl) (fun _ _ _ h => h) (by rfl); (case hy => (intro w hSw; (try dsimp only at hSw); go_simp; try with_reducible rfl)); (case hS => assumption); (try simp only [Act.put, List.setIfInBounds_toArray, List.set_cons_zero, List.set_cons_succ]))
          refine doH2 (i := 9) (j := 10) rfl rfl (by kernel_rfl) (by rfl) (by rfl) (fun K hK => ?_) (fun K hK => ?_)
          · go_simp
            have kb : Blk (y1.alloc (.cells zeroWd 44)) y1.heap.size 44 zeroWd := Blk.new _ _ _
            have hyA := (Below.refl _ y1).alloc (Nat.le_refl _) (.cells zeroWd 44)
            have hE2 := hE1.trans (hyA.mono hE1.size)
            have lb : wr.heap.size ≤ y1.heap.size := hE1.size
            have ub : yc.heap.size ≤ y1.heap.size := hbc.size
            replace hbc := hbc.trans (hyA.mono hbc.size)
            generalize y1.alloc (.cells zeroWd 44) = y2 at *
            generalize y1.heap.size = gb at *
            clear hyA
            refine hK.out _ _ (HKP.out _ hE2) (fun hHeld => ?_)
            clear hK K
            (try simp only [Act.put, List.setIfInBounds_toArray, List.set_cons_zero, List.set_cons_succ])
            refine doH (i := 10) rfl (by kernel_rfl) (by rfl) (fun K hK => ?_)
            go_simp
            have kr : Blk (y2.alloc (.cells #[.int .i64 0, .int .i64 0, .int .i64 0] 35)) y2.heap.size 35 #[.int .i64 0, .int .i64 0, .int .i64 0] := Blk.new _ _ _
            have hyA := (Below.refl _ y2).alloc (Nat.le_refl _) (.cells #[.int .i64 0, .int .i64 0, .int .i64 0] 35)
            have hE3 := hE2.trans (hyA.mono hE2.size)
            have lr : wr.heap.size ≤ y2.heap.size := hE2.size
            have drb : gb < y2.heap.size := kb.lt
            replace kb := kb.below hyA kb.lt
            have ur : yc.heap.size ≤ y2.heap.size := hbc.size
            replace hbc := hbc.trans (hyA.mono hbc.size)
            generalize y2.alloc (.cells #[.int .i64 0, .int .i64 0, .int .i64 0] 35) = y3 at *
            generalize y2.heap.size = gr at *
            clear hyA
            refine hK.out _ _ (HKP.out _ hE3) (fun hHeld => ?_)
            clear hK K
            (try simp only [Act.put, List.setIfInBounds_toArray, List.set_cons_zero, List.set_cons_succ])
            refine doH (i := 11) rfl (by kernel_rfl) (by rfl) (fun K hK => ?_)
            refine wp_store_row 44 _ _ rfl gb ds' rfl rfl 44 zeroWd kb (by rw [hX.size]; exact infoW) (by rw [hX.size]; rfl) hX.one ?_
            refine hK.out _ _ (HKP.out _ (hE3.grown (only_setRow (grown_refl y3 _) ds') hE3.size (fun k hk => by injection hk; omega))) (fun hHeld => ?_)
            clear hK K
            (try simp only [Act.put])
            refine doH (i := 12) rfl (by kernel_rfl) (by rfl) (fun K hK => ?_)
            refine wp_store_row 35 _ _ rfl gr #[.int .i64 Re, .int .i64 Ri, .int .i64 Rh] rfl rfl 35 #[.int .i64 0, .int .i64 0, .int .i64 0] (Blk.setRow kr (by omega) ds') info3 rfl (rep_one _ _ _) ?_
            refine hK.out _ _ (HKP.out _ ((hE3.grown (only_setRow (grown_refl y3 _) ds') hE3.size (fun k hk => by injection hk; omega)).grown (only_setRow (grown_refl (y3.setRow gb ds') _) #[.int .i64 Re, .int .i64 Ri, .int .i64 Rh]) (hE3.grown (only_setRow (grown_refl y3 _) ds') hE3.size (fun k hk => by injection hk; omega)).size (fun k hk => by injection hk; omega))) (fun hHeld => ?_)
            clear hK K
            (try simp only [Act.put])
            refine wpAnyH_done (by kernel_rfl) ?_ _
            go_wp2_with fail
            go_meet
            exact ⟨gb, gr, ds', rfl, rfl, lb, lr, (Blk.setRow (setRow_heap y3 gb zeroWd ds' 44 (0, 0) kb) (by omega) #[.int .i64 Re, .int .i64 Ri, .int .i64 Rh]), (setRow_heap (y3.setRow gb ds') gr #[.int .i64 0, .int .i64 0, .int .i64 0] #[.int .i64 Re, .int .i64 Ri, .int .i64 Rh] 35 (0, 0) (Blk.setRow kr (by omega) ds')), ((hX.imp (P' := fun q => ge < q ∧ q ≠ gb ∧ q ≠ gr) (fun q h1 h2 => by first | (have h8 : _ ∧ _ := h2; omega) | (have h8 : ge < q := h2; omega))).same (by have := hbc.size; simp; omega) (fun q h1 h2 => by rw [setRow_other _ gr q _ (by first | omega | (have h8 : _ ∧ _ := h2; omega)), setRow_other _ gb q _ (by first | omega | (have h8 : _ ∧ _ := h2; omega))]; exact hbc.block q h1)).imp (fun q _ h2 => by have h8 : _ ∧ _ := h2; omega), ((hE3.grown (only_setRow (grown_refl y3 _) ds') hE3.size (fun k hk => by injection hk; omega)).grown (only_setRow (grown_refl (y3.setRow gb ds') _) #[.int .i64 Re, .int .i64 Ri, .int .i64 Rh]) (hE3.grown (only_setRow (grown_refl y3 _) ds') hE3.size (fun k hk => by injection hk; omega)).size (fun k hk => by injection hk; omega))⟩
          · go_simp
            have kr : Blk (y1.alloc (.cells #[.int .i64 0, .int .i64 0, .int .i64 0] 35)) y1.heap.size 35 #[.int .i64 0, .int .i64 0, .int .i64 0] := Blk.new _ _ _
            have hyA := (Below.refl _ y1).alloc (Nat.le_refl _) (.cells #[.int .i64 0, .int .i64 0, .int .i64 0] 35)
            have hE4 := hE1.trans (hyA.mono hE1.size)
            have lr : wr.heap.size ≤ y1.heap.size := hE1.size
            have ur : yc.heap.size ≤ y1.heap.size := hbc.size
            replace hbc := hbc.trans (hyA.mono hbc.size)
            generalize y1.alloc (.cells #[.int .i64 0, .int .i64 0, .int .i64 0] 35) = y4 at *
            generalize y1.heap.size = gr at *
            clear hyA
            refine hK.out _ _ (HKP.out _ hE4) (fun hHeld => ?_)
            clear hK K
            (try simp only [Act.put, List.setIfInBounds_toArray, List.set_cons_zero, List.set_cons_succ])
            refine doH (i := 9) rfl (by kernel_rfl) (by rfl) (fun K hK => ?_)
            go_simp
            have kb : Blk (y4.alloc (.cells zeroWd 44)) y4.heap.size 44 zeroWd := Blk.new _ _ _
            have hyA := (Below.refl _ y4).alloc (Nat.le_refl _) (.cells zeroWd 44)
            have hE5 := hE4.trans (hyA.mono hE4.size)
            have lb : wr.heap.size ≤ y4.heap.size := hE4.size
            have dbr : gr < y4.heap.size := kr.lt
            replace kr := kr.below hyA kr.lt
            have ub : yc.heap.size ≤ y4.heap.size := hbc.size
            replace hbc := hbc.trans (hyA.mono hbc.size)
            generalize y4.alloc (.cells zeroWd 44) = y5 at *
            generalize y4.heap.size = gb at *
            clear hyA
            refine hK.out _ _ (HKP.out _ hE5) (fun hHeld => ?_)
            clear hK K
            (try simp only [Act.put, List.setIfInBounds_toArray, List.set_cons_zero, List.set_cons_succ])
            refine doH (i := 11) rfl (by kernel_rfl) (by rfl) (fun K hK => ?_)
            refine wp_store_row 44 _ _ rfl gb ds' rfl rfl 44 zeroWd kb (by rw [hX.size]; exact infoW) (by rw [hX.size]; rfl) hX.one ?_
            refine hK.out _ _ (HKP.out _ (hE5.grown (only_setRow (grown_refl y5 _) ds') hE5.size (fun k hk => by injection hk; omega))) (fun hHeld => ?_)
            clear hK K
            (try simp only [Act.put])
            refine doH (i := 12) rfl (by kernel_rfl) (by rfl) (fun K hK => ?_)
            refine wp_store_row 35 _ _ rfl gr #[.int .i64 Re, .int .i64 Ri, .int .i64 Rh] rfl rfl 35 #[.int .i64 0, .int .i64 0, .int .i64 0] (Blk.setRow kr (by omega) ds') info3 rfl (rep_one _ _ _) ?_
            refine hK.out _ _ (HKP.out _ ((hE5.grown (only_setRow (grown_refl y5 _) ds') hE5.size (fun k hk => by injection hk; omega)).grown (only_setRow (grown_refl (y5.setRow gb ds') _) #[.int .i64 Re, .int .i64 Ri, .int .i64 Rh]) (hE5.grown (only_setRow (grown_refl y5 _) ds') hE5.size (fun k hk => by injection hk; omega)).size (fun k hk => by injection hk; omega))) (fun hHeld => ?_)
            clear hK K
            (try simp only [Act.put])
            refine wpAnyH_done (by kernel_rfl) ?_ _
            go_wp2_with fail
            go_meet
            exact ⟨gb, gr, ds', rfl, rfl, lb, lr, (Blk.setRow (setRow_heap y5 gb zeroWd ds' 44 (0, 0) kb) (by omega) #[.int .i64 Re, .int .i64 Ri, .int .i64 Rh]), (setRow_heap (y5.setRow gb ds') gr #[.int .i64 0, .int .i64 0, .int .i64 0] #[.int .i64 Re, .int .i64 Ri, .int .i64 Rh] 35 (0, 0) (Blk.setRow kr (by omega) ds')), ((hX.imp (P' := fun q => ge < q ∧ q ≠ gb ∧ q ≠ gr) (fun q h1 h2 => by first | (have h8 : _ ∧ _ := h2; omega) | (have h8 : ge < q := h2; omega))).same (by have := hbc.size; simp; omega) (fun q h1 h2 => by rw [setRow_other _ gr q _ (by first | omega | (have h8 : _ ∧ _ := h2; omega)), setRow_other _ gb q _ (by first | omega | (have h8 : _ ∧ _ := h2; omega))]; exact hbc.block q h1)).imp (fun q _ h2 => by have h8 : _ ∧ _ := h2; omega), ((hE5.grown (only_setRow (grown_refl y5 _) ds') hE5.size (fun k hk => by injection hk; omega)).grown (only_setRow (grown_refl (y5.setRow gb ds') _) #[.int .i64 Re, .int .i64 Ri, .int .i64 Rh]) (hE5.grown (only_setRow (grown_refl y5 _) ds') hE5.size (fun k hk => by injection hk; omega)).size (fun k hk => by injection hk; omega))⟩
        · go_simp
          have kb : Blk (y0.alloc (.cells zeroWd 44)) y0.heap.size 44 zeroWd := Blk.new _ _ _
          have hyA := (Below.refl _ y0).alloc (Nat.le_refl _) (.cells zeroWd 44)
          have hE6 := hE0.trans (hyA.mono hE0.size)
          have lb : wr.heap.size ≤ y0.heap.size := hE0.size
          generalize y0.alloc (.cells zeroWd 44) = y6 at *
          generalize y0.heap.size = gb at *
          clear hyA
          refine hK.out _ _ (HKP.out _ hE6) (fun hHeld => ?_)
          clear hK K
          (try simp only [Act.put, List.setIfInBounds_toArray, List.set_cons_zero, List.set_cons_succ])
          refine doH2 (i := 5) (j := 10) rfl rfl (by kernel_rfl) (by rfl) (by rfl) (fun K hK => ?_) (fun K hK => ?_)
          · go_simp
            have vb : gb < y6.heap.size := kb.lt
            have hvy := hE6.size
            go_at_call 29
            refine (HCR.out (fun q => ge < q ∧ q ≠ gb) y6 (fun q hq => by show ge < q ∧ q ≠ gb; omega) ((hDa.imp (P' := (fun q => ge < q ∧ q ≠ gb)) (fun q h1 h2 => by have h8 : ge < q := h2; show ge < q ∧ q ≠ gb; omega)).below hE6)).mono ?_
            rintro e y7 ⟨ds', rfl, hX, hy7⟩
            have hE7 : Below wr.heap.size wr y7 := hE6.trans (hy7.mono hE6.size)
            replace kb := kb.below hy7 kb.lt
            obtain ⟨yc, hyc⟩ : ∃ yc, y7 = yc := ⟨_, rfl⟩
            rw [hyc] at hX
            have hbc : Below yc.heap.size yc y7 := by rw [hyc]; exact Below.refl _ _
            have ub : gb < yc.heap.size := by rw [← hyc]; exact kb.lt
            clear hyc
            go_wp2_with fail
            refine hK.out _ _ (HKP.out _ hE7) (fun hHeld => ?_)
            clear hK K
            (try simp only [Act.put, List.setIfInBounds_toArray, List.set_cons_zero, List.set_cons_succ])
            iterate 3 (apply tkF [6, 7, 8] rfl rfl (by kernel_rfl) (fun _ _ _ h => h) (by rfl); (case hy => (intro w hSw; (try dsimp only at hSw); go_simp; try with_reducible rfl)); (case hS => assumption); (try simp only [Act.put, List.setIfInBounds_toArray, List.set_cons_zero, List.set_cons_succ]))
            refine doH (i := 10) rfl (by kernel_rfl) (by rfl) (fun K hK => ?_)
            go_simp
            have kr : Blk (y7.alloc (.cells #[.int .i64 0, .int .i64 0, .int .i64 0] 35)) y7.heap.size 35 #[.int .i64 0, .int .i64 0, .int .i64 0] := Blk.new _ _ _
            have hyA := (Below.refl _ y7).alloc (Nat.le_refl _) (.cells #[.int .i64 0, .int .i64 0, .int .i64 0] 35)
            have hE8 := hE7.trans (hyA.mono hE7.size)
            have lr : wr.heap.size ≤ y7.heap.size := hE7.size
            have drb : gb < y7.heap.size := kb.lt
            replace kb := kb.below hyA kb.lt
            have ur : yc.heap.size ≤ y7.heap.size := hbc.size
            replace hbc := hbc.trans (hyA.mono hbc.size)
            generalize y7.alloc (.cells #[.int .i64 0, .int .i64 0, .int .i64 0] 35) = y8 at *
            generalize y7.heap.size = gr at *
            clear hyA
            refine hK.out _ _ (HKP.out _ hE8) (fun hHeld => ?_)
            clear hK K
            (try simp only [Act.put, List.setIfInBounds_toArray, List.set_cons_zero, List.set_cons_succ])
            refine doH (i := 11) rfl (by kernel_rfl) (by rfl) (fun K hK => ?_)
            refine wp_store_row 44 _ _ rfl gb ds' rfl rfl 44 zeroWd kb (by rw [hX.size]; exact infoW) (by rw [hX.size]; rfl) hX.one ?_
            refine hK.out _ _ (HKP.out _ (hE8.grown (only_setRow (grown_refl y8 _) ds') hE8.size (fun k hk => by injection hk; omega))) (fun hHeld => ?_)
            clear hK K
            (try simp only [Act.put])
            refine doH (i := 12) rfl (by kernel_rfl) (by rfl) (fun K hK => ?_)
            refine wp_store_row 35 _ _ rfl gr #[.int .i64 Re, .int .i64 Ri, .int .i64 Rh] rfl rfl 35 #[.int .i64 0, .int .i64 0, .int .i64 0] (Blk.setRow kr (by omega) ds') info3 rfl (rep_one _ _ _) ?_
            refine hK.out _ _ (HKP.out _ ((hE8.grown (only_setRow (grown_refl y8 _) ds') hE8.size (fun k hk => by injection hk; omega)).grown (only_setRow (grown_refl (y8.setRow gb ds') _) #[.int .i64 Re, .int .i64 Ri, .int .i64 Rh]) (hE8.grown (only_setRow (grown_refl y8 _) ds') hE8.size (fun k hk => by injection hk; omega)).size (fun k hk => by injection hk; omega))) (fun hHeld => ?_)
            clear hK K
            (try simp only [Act.put])
            refine wpAnyH_done (by kernel_rfl) ?_ _
            go_wp2_with fail
            go_meet
            exact ⟨gb, gr, ds', rfl, rfl, lb, lr, (Blk.setRow (setRow_heap y8 gb zeroWd ds' 44 (0, 0) kb) (by omega) #[.int .i64 Re, .int .i64 Ri, .int .i64 Rh]), (setRow_heap (y8.setRow gb ds') gr #[.int .i64 0, .int .i64 0, .int .i64 0] #[.int .i64 Re, .int .i64 Ri, .int .i64 Rh] 35 (0, 0) (Blk.setRow kr (by omega) ds')), ((hX.imp (P' := fun q => ge < q ∧ q ≠ gb ∧ q ≠ gr) (fun q h1 h2 => by first | (have h8 : _ ∧ _ := h2; omega) | (have h8 : ge < q := h2; omega))).same (by have := hbc.size; simp; omega) (fun q h1 h2 => by rw [setRow_other _ gr q _ (by first | omega | (have h8 : _ ∧ _ := h2; omega)), setRow_other _ gb q _ (by first | omega | (have h8 : _ ∧ _ := h2; omega))]; exact hbc.block q h1)).imp (fun q _ h2 => by have h8 : _ ∧ _ := h2; omega), ((hE8.grown (only_setRow (grown_refl y8 _) ds') hE8.size (fun k hk => by injection hk; omega)).grown (only_setRow (grown_refl (y8.setRow gb ds') _) #[.int .i64 Re, .int .i64 Ri, .int .i64 Rh]) (hE8.grown (only_setRow (grown_refl y8 _) ds') hE8.size (fun k hk => by injection hk; omega)).size (fun k hk => by injection hk; omega))⟩
          · go_simp
            have kr : Blk (y6.alloc (.cells #[.int .i64 0, .int .i64 0, .int .i64 0] 35)) y6.heap.size 35 #[.int .i64 0, .int .i64 0, .int .i64 0] := Blk.new _ _ _
            have hyA := (Below.refl _ y6).alloc (Nat.le_refl _) (.cells #[.int .i64 0, .int .i64 0, .int .i64 0] 35)
            have hE9 := hE6.trans (hyA.mono hE6.size)
            have lr : wr.heap.size ≤ y6.heap.size := hE6.size
            have drb : gb < y6.heap.size := kb.lt
            replace kb := kb.below hyA kb.lt
            generalize y6.alloc (.cells #[.int .i64 0, .int .i64 0, .int .i64 0] 35) = y9 at *
            generalize y6.heap.size = gr at *
            clear hyA
            refine hK.out _ _ (HKP.out _ hE9) (fun hHeld => ?_)
            clear hK K
            (try simp only [Act.put, List.setIfInBounds_toArray, List.set_cons_zero, List.set_cons_succ])
            refine doH (i := 5) rfl (by kernel_rfl) (by rfl) (fun K hK => ?_)
            go_simp
            have vb : gb < y9.heap.size := kb.lt
            have vr : gr < y9.heap.size := kr.lt
            have hvy := hE9.size
            go_at_call 29
            refine (HCR.out (fun q => ge < q ∧ q ≠ gb ∧ q ≠ gr) y9 (fun q hq => by show ge < q ∧ q ≠ gb ∧ q ≠ gr; omega) ((hDa.imp (P' := (fun q => ge < q ∧ q ≠ gb ∧ q ≠ gr)) (fun q h1 h2 => by have h8 : ge < q := h2; show ge < q ∧ q ≠ gb ∧ q ≠ gr; omega)).below hE9)).mono ?_
            rintro e y10 ⟨ds', rfl, hX, hy10⟩
            have hE10 : Below wr.heap.size wr y10 := hE9.trans (hy10.mono hE9.size)
            replace kb := kb.below hy10 kb.lt
            replace kr := kr.below hy10 kr.lt
            obtain ⟨yc, hyc⟩ : ∃ yc, y10 = yc := ⟨_, rfl⟩
            rw [hyc] at hX
            have hbc : Below yc.heap.size yc y10 := by rw [hyc]; exact Below.refl _ _
            have ub : gb < yc.heap.size := by rw [← hyc]; exact kb.lt
            have ur : gr < yc.heap.size := by rw [← hyc]; exact kr.lt
            clear hyc
            go_wp2_with fail
            refine hK.out _ _ (HKP.out _ hE10) (fun hHeld => ?_)
            clear hK K
            (try simp only [Act.put, List.setIfInBounds_toArray, List.set_cons_zero, List.set_cons_succ])
            iterate 3 (apply tkF [6, 7, 8] rfl rfl (by kernel_rfl) (fun _ _ _ h => h) (by rfl); (case hy => (intro w hSw; (try dsimp only at hSw); go_simp; try with_reducible rfl)); (case hS => assumption); (try simp only [Act.put, List.setIfInBounds_toArray, List.set_cons_zero, List.set_cons_succ]))
            refine doH (i := 11) rfl (by kernel_rfl) (by rfl) (fun K hK => ?_)
            refine wp_store_row 44 _ _ rfl gb ds' rfl rfl 44 zeroWd kb (by rw [hX.size]; exact infoW) (by rw [hX.size]; rfl) hX.one ?_
            refine hK.out _ _ (HKP.out _ (hE10.grown (only_setRow (grown_refl y10 _) ds') hE10.size (fun k hk => by injection hk; omega))) (fun hHeld => ?_)
            clear hK K
            (try simp only [Act.put])
            refine doH (i := 12) rfl (by kernel_rfl) (by rfl) (fun K hK => ?_)
            refine wp_store_row 35 _ _ rfl gr #[.int .i64 Re, .int .i64 Ri, .int .i64 Rh] rfl rfl 35 #[.int .i64 0, .int .i64 0, .int .i64 0] (Blk.setRow kr (by omega) ds') info3 rfl (rep_one _ _ _) ?_
            refine hK.out _ _ (HKP.out _ ((hE10.grown (only_setRow (grown_refl y10 _) ds') hE10.size (fun k hk => by injection hk; omega)).grown (only_setRow (grown_refl (y10.setRow gb ds') _) #[.int .i64 Re, .int .i64 Ri, .int .i64 Rh]) (hE10.grown (only_setRow (grown_refl y10 _) ds') hE10.size (fun k hk => by injection hk; omega)).size (fun k hk => by injection hk; omega))) (fun hHeld => ?_)
            clear hK K
            (try simp only [Act.put])
            refine wpAnyH_done (by kernel_rfl) ?_ _
            go_wp2_with fail
            go_meet
            exact ⟨gb, gr, ds', rfl, rfl, lb, lr, (Blk.setRow (setRow_heap y10 gb zeroWd ds' 44 (0, 0) kb) (by omega) #[.int .i64 Re, .int .i64 Ri, .int .i64 Rh]), (setRow_heap (y10.setRow gb ds') gr #[.int .i64 0, .int .i64 0, .int .i64 0] #[.int .i64 Re, .int .i64 Ri, .int .i64 Rh] 35 (0, 0) (Blk.setRow kr (by omega) ds')), ((hX.imp (P' := fun q => ge < q ∧ q ≠ gb ∧ q ≠ gr) (fun q h1 h2 => by first | (have h8 : _ ∧ _ := h2; omega) | (have h8 : ge < q := h2; omega))).same (by have := hbc.size; simp; omega) (fun q h1 h2 => by rw [setRow_other _ gr q _ (by first | omega | (have h8 : _ ∧ _ := h2; omega)), setRow_other _ gb q _ (by first | omega | (have h8 : _ ∧ _ := h2; omega))]; exact hbc.block q h1)).imp (fun q _ h2 => by have h8 : _ ∧ _ := h2; omega), ((hE10.grown (only_setRow (grown_refl y10 _) ds') hE10.size (fun k hk => by injection hk; omega)).grown (only_setRow (grown_refl (y10.setRow gb ds') _) #[.int .i64 Re, .int .i64 Ri, .int .i64 Rh]) (hE10.grown (only_setRow (grown_refl y10 _) ds') hE10.size (fun k hk => by injection hk; omega)).size (fun k hk => by injection hk; omega))⟩
        · go_simp
          have kr : Blk (y0.alloc (.cells #[.int .i64 0, .int .i64 0, .int .i64 0] 35)) y0.heap.size 35 #[.int .i64 0, .int .i64 0, .int .i64 0] := Blk.new _ _ _
          have hyA := (Below.refl _ y0).alloc (Nat.le_refl _) (.cells #[.int .i64 0, .int .i64 0, .int .i64 0] 35)
          have hE11 := hE0.trans (hyA.mono hE0.size)
          have lr : wr.heap.size ≤ y0.heap.size := hE0.size
          generalize y0.alloc (.cells #[.int .i64 0, .int .i64 0, .int .i64 0] 35) = y11 at *
          generalize y0.heap.size = gr at *
          clear hyA
          refine hK.out _ _ (HKP.out _ hE11) (fun hHeld => ?_)
          clear hK K
          (try simp only [Act.put, List.setIfInBounds_toArray, List.set_cons_zero, List.set_cons_succ])
          refine doH2 (i := 5) (j := 9) rfl rfl (by kernel_rfl) (by rfl) (by rfl) (fun K hK => ?_) (fun K hK => ?_)
          · go_simp
            have vr : gr < y11.heap.size := kr.lt
            have hvy := hE11.size
            go_at_call 29
            refine (HCR.out (fun q => ge < q ∧ q ≠ gr) y11 (fun q hq => by show ge < q ∧ q ≠ gr; omega) ((hDa.imp (P' := (fun q => ge < q ∧ q ≠ gr)) (fun q h1 h2 => by have h8 : ge < q := h2; show ge < q ∧ q ≠ gr; omega)).below hE11)).mono ?_
            rintro e y12 ⟨ds', rfl, hX, hy12⟩
            have hE12 : Below wr.heap.size wr y12 := hE11.trans (hy12.mono hE11.size)
            replace kr := kr.below hy12 kr.lt
            obtain ⟨yc, hyc⟩ : ∃ yc, y12 = yc := ⟨_, rfl⟩
            rw [hyc] at hX
            have hbc : Below yc.heap.size yc y12 := by rw [hyc]; exact Below.refl _ _
            have ur : gr < yc.heap.size := by rw [← hyc]; exact kr.lt
            clear hyc
            go_wp2_with fail
            refine hK.out _ _ (HKP.out _ hE12) (fun hHeld => ?_)
            clear hK K
            (try simp only [Act.put, List.setIfInBounds_toArray, List.set_cons_zero, List.set_cons_succ])
            iterate 3 (apply tkF [6, 7, 8] rfl rfl (by kernel_rfl) (fun _ _ _ h => h) (by rfl); (case hy => (intro w hSw; (try dsimp only at hSw); go_simp; try with_reducible rfl)); (case hS => assumption); (try simp only [Act.put, List.setIfInBounds_toArray, List.set_cons_zero, List.set_cons_succ]))
            refine doH (i := 9) rfl (by kernel_rfl) (by rfl) (fun K hK => ?_)
            go_simp
            have kb : Blk (y12.alloc (.cells zeroWd 44)) y12.heap.size 44 zeroWd := Blk.new _ _ _
            have hyA := (Below.refl _ y12).alloc (Nat.le_refl _) (.cells zeroWd 44)
            have hE13 := hE12.trans (hyA.mono hE12.size)
            have lb : wr.heap.size ≤ y12.heap.size := hE12.size
            have dbr : gr < y12.heap.size := kr.lt
            replace kr := kr.below hyA kr.lt
            have ub : yc.heap.size ≤ y12.heap.size := hbc.size
            replace hbc := hbc.trans (hyA.mono hbc.size)
            generalize y12.alloc (.cells zeroWd 44) = y13 at *
            generalize y12.heap.size = gb at *
            clear hyA
            refine hK.out _ _ (HKP.out _ hE13) (fun hHeld => ?_)
            clear hK K
            (try simp only [Act.put, List.setIfInBounds_toArray, List.set_cons_zero, List.set_cons_succ])
            refine doH (i := 11) rfl (by kernel_rfl) (by rfl) (fun K hK => ?_)
            refine wp_store_row 44 _ _ rfl gb ds' rfl rfl 44 zeroWd kb (by rw [hX.size]; exact infoW) (by rw [hX.size]; rfl) hX.one ?_
            refine hK.out _ _ (HKP.out _ (hE13.grown (only_setRow (grown_refl y13 _) ds') hE13.size (fun k hk => by injection hk; omega))) (fun hHeld => ?_)
            clear hK K
            (try simp only [Act.put])
            refine doH (i := 12) rfl (by kernel_rfl) (by rfl) (fun K hK => ?_)
            refine wp_store_row 35 _ _ rfl gr #[.int .i64 Re, .int .i64 Ri, .int .i64 Rh] rfl rfl 35 #[.int .i64 0, .int .i64 0, .int .i64 0] (Blk.setRow kr (by omega) ds') info3 rfl (rep_one _ _ _) ?_
            refine hK.out _ _ (HKP.out _ ((hE13.grown (only_setRow (grown_refl y13 _) ds') hE13.size (fun k hk => by injection hk; omega)).grown (only_setRow (grown_refl (y13.setRow gb ds') _) #[.int .i64 Re, .int .i64 Ri, .int .i64 Rh]) (hE13.grown (only_setRow (grown_refl y13 _) ds') hE13.size (fun k hk => by injection hk; omega)).size (fun k hk => by injection hk; omega))) (fun hHeld => ?_)
            clear hK K
            (try simp only [Act.put])
            refine wpAnyH_done (by kernel_rfl) ?_ _
            go_wp2_with fail
            go_meet
            exact ⟨gb, gr, ds', rfl, rfl, lb, lr, (Blk.setRow (setRow_heap y13 gb zeroWd ds' 44 (0, 0) kb) (by omega) #[.int .i64 Re, .int .i64 Ri, .int .i64 Rh]), (setRow_heap (y13.setRow gb ds') gr #[.int .i64 0, .int .i64 0, .int .i64 0] #[.int .i64 Re, .int .i64 Ri, .int .i64 Rh] 35 (0, 0) (Blk.setRow kr (by omega) ds')), ((hX.imp (P' := fun q => ge < q ∧ q ≠ gb ∧ q ≠ gr) (fun q h1 h2 => by first | (have h8 : _ ∧ _ := h2; omega) | (have h8 : ge < q := h2; omega))).same (by have := hbc.size; simp; omega) (fun q h1 h2 => by rw [setRow_other _ gr q _ (by first | omega | (have h8 : _ ∧ _ := h2; omega)), setRow_other _ gb q _ (by first | omega | (have h8 : _ ∧ _ := h2; omega))]; exact hbc.block q h1)).imp (fun q _ h2 => by have h8 : _ ∧ _ := h2; omega), ((hE13.grown (only_setRow (grown_refl y13 _) ds') hE13.size (fun k hk => by injection hk; omega)).grown (only_setRow (grown_refl (y13.setRow gb ds') _) #[.int .i64 Re, .int .i64 Ri, .int .i64 Rh]) (hE13.grown (only_setRow (grown_refl y13 _) ds') hE13.size (fun k hk => by injection hk; omega)).size (fun k hk => by injection hk; omega))⟩
          · go_simp
            have kb : Blk (y11.alloc (.cells zeroWd 44)) y11.heap.size 44 zeroWd := Blk.new _ _ _
            have hyA := (Below.refl _ y11).alloc (Nat.le_refl _) (.cells zeroWd 44)
            have hE14 := hE11.trans (hyA.mono hE11.size)
            have lb : wr.heap.size ≤ y11.heap.size := hE11.size
            have dbr : gr < y11.heap.size := kr.lt
            replace kr := kr.below hyA kr.lt
            generalize y11.alloc (.cells zeroWd 44) = y14 at *
            generalize y11.heap.size = gb at *
            clear hyA
            refine hK.out _ _ (HKP.out _ hE14) (fun hHeld => ?_)
            clear hK K
            (try simp only [Act.put, List.setIfInBounds_toArray, List.set_cons_zero, List.set_cons_succ])
            refine doH (i := 5) rfl (by kernel_rfl) (by rfl) (fun K hK => ?_)
            go_simp
            have vb : gb < y14.heap.size := kb.lt
            have vr : gr < y14.heap.size := kr.lt
            have hvy := hE14.size
            go_at_call 29
            refine (HCR.out (fun q => ge < q ∧ q ≠ gb ∧ q ≠ gr) y14 (fun q hq => by show ge < q ∧ q ≠ gb ∧ q ≠ gr; omega) ((hDa.imp (P' := (fun q => ge < q ∧ q ≠ gb ∧ q ≠ gr)) (fun q h1 h2 => by have h8 : ge < q := h2; show ge < q ∧ q ≠ gb ∧ q ≠ gr; omega)).below hE14)).mono ?_
            rintro e y15 ⟨ds', rfl, hX, hy15⟩
            have hE15 : Below wr.heap.size wr y15 := hE14.trans (hy15.mono hE14.size)
            replace kb := kb.below hy15 kb.lt
            replace kr := kr.below hy15 kr.lt
            obtain ⟨yc, hyc⟩ : ∃ yc, y15 = yc := ⟨_, rfl⟩
            rw [hyc] at hX
            have hbc : Below yc.heap.size yc y15 := by rw [hyc]; exact Below.refl _ _
            have ub : gb < yc.heap.size := by rw [← hyc]; exact kb.lt
            have ur : gr < yc.heap.size := by rw [← hyc]; exact kr.lt
            clear hyc
            go_wp2_with fail
            refine hK.out _ _ (HKP.out _ hE15) (fun hHeld => ?_)
            clear hK K
            (try simp only [Act.put, List.setIfInBounds_toArray, List.set_cons_zero, List.set_cons_succ])
            iterate 3 (apply tkF [6, 7, 8] rfl rfl (by kernel_rfl) (fun _ _ _ h => h) (by rfl); (case hy => (intro w hSw; (try dsimp only at hSw); go_simp; try with_reducible rfl)); (case hS => assumption); (try simp only [Act.put, List.setIfInBounds_toArray, List.set_cons_zero, List.set_cons_succ]))
            refine doH (i := 11) rfl (by kernel_rfl) (by rfl) (fun K hK => ?_)
            refine wp_store_row 44 _ _ rfl gb ds' rfl rfl 44 zeroWd kb (by rw [hX.size]; exact infoW) (by rw [hX.size]; rfl) hX.one ?_
            refine hK.out _ _ (HKP.out _ (hE15.grown (only_setRow (grown_refl y15 _) ds') hE15.size (fun k hk => by injection hk; omega))) (fun hHeld => ?_)
            clear hK K
            (try simp only [Act.put])
            refine doH (i := 12) rfl (by kernel_rfl) (by rfl) (fun K hK => ?_)
            refine wp_store_row 35 _ _ rfl gr #[.int .i64 Re, .int .i64 Ri, .int .i64 Rh] rfl rfl 35 #[.int .i64 0, .int .i64 0, .int .i64 0] (Blk.setRow kr (by omega) ds') info3 rfl (rep_one _ _ _) ?_
            refine hK.out _ _ (HKP.out _ ((hE15.grown (only_setRow (grown_refl y15 _) ds') hE15.size (fun k hk => by injection hk; omega)).grown (only_setRow (grown_refl (y15.setRow gb ds') _) #[.int .i64 Re, .int .i64 Ri, .int .i64 Rh]) (hE15.grown (only_setRow (grown_refl y15 _) ds') hE15.size (fun k hk => by injection hk; omega)).size (fun k hk => by injection hk; omega))) (fun hHeld => ?_)
            clear hK K
            (try simp only [Act.put])
            refine wpAnyH_done (by kernel_rfl) ?_ _
            go_wp2_with fail
            go_meet
            exact ⟨gb, gr, ds', rfl, rfl, lb, lr, (Blk.setRow (setRow_heap y15 gb zeroWd ds' 44 (0, 0) kb) (by omega) #[.int .i64 Re, .int .i64 Ri, .int .i64 Rh]), (setRow_heap (y15.setRow gb ds') gr #[.int .i64 0, .int .i64 0, .int .i64 0] #[.int .i64 Re, .int .i64 Ri, .int .i64 Rh] 35 (0, 0) (Blk.setRow kr (by omega) ds')), ((hX.imp (P' := fun q => ge < q ∧ q ≠ gb ∧ q ≠ gr) (fun q h1 h2 => by first | (have h8 : _ ∧ _ := h2; omega) | (have h8 : ge < q := h2; omega))).same (by have := hbc.size; simp; omega) (fun q h1 h2 => by rw [setRow_other _ gr q _ (by first | omega | (have h8 : _ ∧ _ := h2; omega)), setRow_other _ gb q _ (by first | omega | (have h8 : _ ∧ _ := h2; omega))]; exact hbc.block q h1)).imp (fun q _ h2 => by have h8 : _ ∧ _ := h2; omega), ((hE15.grown (only_setRow (grown_refl y15 _) ds') hE15.size (fun k hk => by injection hk; omega)).grown (only_setRow (grown_refl (y15.setRow gb ds') _) #[.int .i64 Re, .int .i64 Ri, .int .i64 Rh]) (hE15.grown (only_setRow (grown_refl y15 _) ds') hE15.size (fun k hk => by injection hk; omega)).size (fun k hk => by injection hk; omega))⟩
       case rest =>
        obtain ⟨gb, gr, ds', rfl, rfl, lb, lr, kb, kr, hDb, hbB⟩ := hcut
        generalize wc = wb at *
        have h8b := h8.below hbB h8.lt
        have hGb := grown_trans hG (only_of_below hbB (some ge))
        have hDS := hDb
        obtain ⟨va, vb, vc, e5, ⟨o5, c5, ra5, hA5, _⟩, _⟩ := hDS
        have e50 : ds'[0]? = some (.slice o5 (askS W0 ⟨xc, xq, xl, xk, xv⟩).tk.length c5) := by rw [e5, ra5]; rfl
        have l5 := sl_req ((kb.cell 0).trans e50)
        have l6 := wd_load hDb.size kb
        have hgeb : ge < gb := by omega
        have HAW : Hid (askS W0 ⟨xc, xq, xl, xk, xv⟩ = askS W0 (l.getD k default)) := Lib.hid (by rw [HRR.out])
        have HIA : Hid (InvW (askS W0 ⟨xc, xq, xl, xk, xv⟩)) := Lib.hid (HINV.out.ask _)
        generalize askS W0 ⟨xc, xq, xl, xk, xv⟩ = A at *
        obtain ⟨nA, hnA⟩ : ∃ nA, A.tk.length = nA := ⟨_, rfl⟩
        rw [hnA] at l5
        have HNA := Lib.hid hnA
        have e1 : IntKind.i64.wrap ((k : Int) + 1) = (k : Int) + 1 := by rw [IntKind.wrap_i64]; omega
        clear e5 ra5 hA5 e50 hG h8 hDa hbB HKP kr hnA HCR lr
        by_cases heq : nA = k + 1
        · subst heq
          have hbr : (((k + 1 : Nat) : Int) == (k : Int) + 1) = true := by rw [beq_iff_eq]; push_cast; rfl
          have hbr2 : ((k : Int) + 1 == (k : Int) + 1) = true := by rw [beq_iff_eq]
          have HNX : Hid (stE l hs (k + 1) = some (cutsE hs A)) := Lib.hid (by
           unfold stE
           rw [HST.out]
           dsimp only
           rw [← HAW.out, if_neg (by rw [HNA.out, HTK.out]; omega)])
          obtain ⟨w7, hw7⟩ : ∃ w7, wb.setRow ge ds' = w7 := ⟨_, rfl⟩
          have k87 : Blk w7 ge 44 ds' := by rw [← hw7]; exact blk_setRow h8b _
          have hG7 : wo.grownBy w7 (some ge) := by rw [← hw7]; exact only_setRow hGb _
          have hD7 : WdC w7 (fun q => ge < q) ds' A := by
           rw [← hw7]
           exact (hDb.same (by simp) (fun q _ hq => setRow_other _ _ _ _ (by have h8 : _ ∧ _ := hq; omega))).imp (fun q _ hq => hq.1)
          have HK8 := Lib.hid h8b
          have HO5 := Lib.hid hDb.one
          have HI5 : Hid ((Tryz.prog.info? 44).map (·.size) = some (ds' : Array Value).size) := Lib.hid (by rw [hDb.size]; exact infoW)
          have HW7 := Lib.hid hw7
          have HCS : Hid (ds.size = ds'.size) := Lib.hid (by rw [HSZ2.out, hDb.size])
          clear hw7 h8b hDb hGb kb
          go_wp2_with (refine wpList_store_row rfl 44 _ _ rfl ge ds' rfl rfl 44 ds HK8.out HI5.out HCS.out HO5.out ?_; rw [HW7.out])
          have HKK := Lib.hid k87
          have HDD := Lib.hid hD7
          have HGG := Lib.hid hG7
          clear k87 hD7 hG7 l5 l6 HK8 HI5 HCS HO5 HST
          generalize wr = wp at *
          go_loopw [16] (fun i wr => ∃ (j : Nat) (V : Wd) (ds : Array Value), j ≤ m ∧ i = .int .i64 j ∧ Hid (V = cutsE (hs.take j) A) ∧ Blk wr ge 44 ds ∧ WdC wr (fun q => ge < q) ds V ∧ wo.grownBy wr (some ge)) (fun i _ => m - (intOf i).toNat)
          case atStart => exact ⟨0, A, ds', by omega, rfl, Lib.hid rfl, HKK.out, HDD.out, HGG.out⟩
          case round =>
           clear HKK HDD HGG HW7 HSZ2
           clear ds hgl lb
           obtain ⟨j, W0, ds, hj, rfl, HVE, h8, hDa, hG⟩ := hrel
           have hgl := h8.lt
           by_cases hltj : j < m
           · have hltj' : (j : Int) < (m : Int) := by omega
             obtain ⟨x, hx, _, _, gq, oq, rfl, hld⟩ := HHD.out j hltj
             have HTKJ : Hid (cutsE (hs.take (j + 1)) A = if x.z = (A.tk.length : Int) then cutS W0 x.t else W0) := Lib.hid (by rw [cutsE_take hs A (by rw [HHM.out]; exact hltj), hx, ← HVE.out])
             rw [HNA.out] at HTKJ
             have hbt := (riseH_parts HRISE.out).1 x (by rw [← hx, List.getD_eq_getElem?_getD, List.getElem?_eq_getElem (by rw [HHM.out]; exact hltj)]; exact List.getElem_mem _)
             obtain ⟨yq, yz, yt, yr, ym⟩ := x
             dsimp only at hld HTKJ hbt
             have hB := HBW.out wr hG
             have d1 := (hld wr hB).2.1
             have HIV : Hid (InvW W0) := Lib.hid (by rw [HVE.out]; exact cutsE_inv _ HIA.out)
             clear hx
             have HINV := HIV
             by_cases hz : yz = (k : Int) + 1
             · subst hz
               have hzb : ((k : Int) + 1 == (k : Int) + 1) = true := by rw [beq_iff_eq]
               have HVN : Hid (cutS W0 yt = cutsE (hs.take (j + 1)) A) := Lib.hid (by rw [HTKJ.out, if_pos (by push_cast; rfl)])
               obtain ⟨xnow, hxn⟩ : ∃ xnow, yt = xnow := ⟨_, rfl⟩
               rw [hxn] at hld HVN
               clear hxn HTKJ
               have HKP : Hid (∀ W, Below wr.heap.size wr W → (fun W => (loadVar 44 ⟨ge, 0, none⟩).run Tryz.prog W = .ok (.agg ds) W ∧ (loadVar 61 ⟨w.heap.size, 0, none⟩).run Tryz.prog W = .ok (.agg EE) W ∧ (loadVar 3 ⟨gq, oq + j * 5 + 2, none⟩).run Tryz.prog W = .ok (.int .i64 xnow) W) W) := Lib.hid fun W hW => ⟨wd_load hDa.size (h8.below hW h8.lt), run_loadVar_row W w.heap.size 61 61 EE (0, 0) _ (HKE.out W (grown_trans hG (only_of_below hW (some ge)))) Tryz.underlying61 rfl HIE.out, (hld W (hB.trans (hW.mono hB.size))).2.2⟩
               have HSZ2 := Lib.hid hDa.size
               clear hld hB
               go_wp2_with fail
               go_upto_region 22 with fail
               go_cut [17, 18] from 93 to 103 (fun p b wx => ∃ gb ds', p = .pointer (some ⟨gb, 0, none⟩) ∧ b = .bool (isS W0 xnow) ∧ wr.heap.size ≤ gb ∧ Blk wx gb 44 ds' ∧ WdC wx (fun q => ge < q ∧ q ≠ gb) ds' (cutS W0 xnow) ∧ Below wr.heap.size wr wx)
               case first =>
                refine wp_region_held_drew (S := fun W => (loadVar 44 ⟨ge, 0, none⟩).run Tryz.prog W = .ok (.agg ds) W ∧ (loadVar 61 ⟨w.heap.size, 0, none⟩).run Tryz.prog W = .ok (.agg EE) W ∧ (loadVar 3 ⟨gq, oq + j * 5 + 2, none⟩).run Tryz.prog W = .ok (.int .i64 xnow) W) (by kernel_rfl) ?_ (fun hHeld0 => ?_)
                · exact HKP.out _ (Below.refl _ _).drew
                have hE0 : Below wr.heap.size wr wr.drew := (Below.refl _ _).drew
                generalize wr.drew = y0 at *
                iterate 7 (apply tkF [0, 1, 2, 3, 4, 5, 6] rfl rfl (by kernel_rfl) (fun _ _ _ h => h) (by rfl); (case hy => (intro w hSw; (try dsimp only at hSw); go_simp; try with_reducible rfl)); (case hS => assumption); (try simp only [Act.put, List.setIfInBounds_toArray, List.set_cons_zero, List.set_cons_succ]))
                refine doH2 (i := 7) (j := 11) rfl rfl (by kernel_rfl) (by rfl) (by rfl) (fun K hK => ?_) (fun K hK => ?_)
                · go_simp
                  have hvy := hE0.size
                  go_at_call 27
                  refine (HRc.out (fun q => ge < q) ds W0 xnow y0 (fun q hq => by show ge < q; omega) HINV.out ((hDa.imp (P' := (fun q => ge < q)) (fun q h1 h2 => by have h8 : ge < q := h2; show ge < q; omega)).below hE0)).mono ?_
                  rintro e y1 ⟨ds', rfl, hX, hy1⟩
                  have hE1 : Below wr.heap.size wr y1 := hE0.trans (hy1.mono hE0.size)
                  obtain ⟨yc, hyc⟩ : ∃ yc, y1 = yc := ⟨_, rfl⟩
                  rw [hyc] at hX
                  have hbc : Below yc.heap.size yc y1 := by rw [hyc]; exact Below.refl _ _
                  clear hyc
                  go_wp2_with fail
                  refine hK.out _ _ (HKP.out _ hE1) (fun hHeld => ?_)
                  clear hK K
                  (try simp only [Act.put, List.setIfInBounds_toArray, List.set_cons_zero, List.set_cons_succ])
                  iterate 3 (apply tkF [8, 9, 10] rfl rfl (by kernel_rfl) (fun _ _ _ h => h) (by rfl); (case hy => (intro w hSw; (try dsimp only at hSw); go_simp; try with_reducible rfl)); (case hS => assumption); (try simp only [Act.put, List.setIfInBounds_toArray, List.set_cons_zero, List.set_cons_succ]))
                  refine doH (i := 11) rfl (by kernel_rfl) (by rfl) (fun K hK => ?_)
                  go_simp
                  have kb : Blk (y1.alloc (.cells zeroWd 44)) y1.heap.size 44 zeroWd := Blk.new _ _ _
                  have hyA := (Below.refl _ y1).alloc (Nat.le_refl _) (.cells zeroWd 44)
                  have hE2 := hE1.trans (hyA.mono hE1.size)
                  have lb : wr.heap.size ≤ y1.heap.size := hE1.size
                  have ub : yc.heap.size ≤ y1.heap.size := hbc.size
                  replace hbc := hbc.trans (hyA.mono hbc.size)
                  generalize y1.alloc (.cells zeroWd 44) = y2 at *
                  generalize y1.heap.size = gb at *
                  clear hyA
                  refine hK.out _ _ (HKP.out _ hE2) (fun hHeld => ?_)
                  clear hK K
                  (try simp only [Act.put, List.setIfInBounds_toArray, List.set_cons_zero, List.set_cons_succ])
                  refine doH (i := 12) rfl (by kernel_rfl) (by rfl) (fun K hK => ?_)
                  refine wp_store_row 44 _ _ rfl gb ds' rfl rfl 44 zeroWd kb (by rw [hX.size]; exact infoW) (by rw [hX.size]; rfl) hX.one ?_
                  refine hK.out _ _ (HKP.out _ (hE2.grown (only_setRow (grown_refl y2 _) ds') hE2.size (fun k hk => by injection hk; omega))) (fun hHeld => ?_)
                  clear hK K
                  (try simp only [Act.put])
                  (apply tkF [13] rfl rfl (by kernel_rfl) (fun _ _ _ h => h) (by rfl); (case hy => (intro w hSw; (try dsimp only at hSw); go_simp; try with_reducible rfl)); (case hS => assumption); (try simp only [Act.put, List.setIfInBounds_toArray, List.set_cons_zero, List.set_cons_succ]))
                  refine wpAnyH_done (by kernel_rfl) ?_ _
                  go_wp2_with fail
                  go_meet
                  exact ⟨gb, ds', rfl, rfl, lb, (setRow_heap y2 gb zeroWd ds' 44 (0, 0) kb), ((hX.imp (P' := fun q => ge < q ∧ q ≠ gb) (fun q h1 h2 => by first | (have h8 : _ ∧ _ := h2; omega) | (have h8 : ge < q := h2; omega))).same (by have := hbc.size; simp; omega) (fun q h1 h2 => by rw [setRow_other _ gb q _ (by first | omega | (have h8 : _ ∧ _ := h2; omega))]; exact hbc.block q h1)).imp (fun q _ h2 => by have h8 : _ ∧ _ := h2; omega), (hE2.grown (only_setRow (grown_refl y2 _) ds') hE2.size (fun k hk => by injection hk; omega))⟩
                · go_simp
                  have kb : Blk (y0.alloc (.cells zeroWd 44)) y0.heap.size 44 zeroWd := Blk.new _ _ _
                  have hyA := (Below.refl _ y0).alloc (Nat.le_refl _) (.cells zeroWd 44)
                  have hE3 := hE0.trans (hyA.mono hE0.size)
                  have lb : wr.heap.size ≤ y0.heap.size := hE0.size
                  generalize y0.alloc (.cells zeroWd 44) = y3 at *
                  generalize y0.heap.size = gb at *
                  clear hyA
                  refine hK.out _ _ (HKP.out _ hE3) (fun hHeld => ?_)
                  clear hK K
                  (try simp only [Act.put, List.setIfInBounds_toArray, List.set_cons_zero, List.set_cons_succ])
                  refine doH (i := 7) rfl (by kernel_rfl) (by rfl) (fun K hK => ?_)
                  go_simp
                  have vb : gb < y3.heap.size := kb.lt
                  have hvy := hE3.size
                  go_at_call 27
                  refine (HRc.out (fun q => ge < q ∧ q ≠ gb) ds W0 xnow y3 (fun q hq => by show ge < q ∧ q ≠ gb; omega) HINV.out ((hDa.imp (P' := (fun q => ge < q ∧ q ≠ gb)) (fun q h1 h2 => by have h8 : ge < q := h2; show ge < q ∧ q ≠ gb; omega)).below hE3)).mono ?_
                  rintro e y4 ⟨ds', rfl, hX, hy4⟩
                  have hE4 : Below wr.heap.size wr y4 := hE3.trans (hy4.mono hE3.size)
                  replace kb := kb.below hy4 kb.lt
                  obtain ⟨yc, hyc⟩ : ∃ yc, y4 = yc := ⟨_, rfl⟩
                  rw [hyc] at hX
                  have hbc : Below yc.heap.size yc y4 := by rw [hyc]; exact Below.refl _ _
                  have ub : gb < yc.heap.size := by rw [← hyc]; exact kb.lt
                  clear hyc
                  go_wp2_with fail
                  refine hK.out _ _ (HKP.out _ hE4) (fun hHeld => ?_)
                  clear hK K
                  (try simp only [Act.put, List.setIfInBounds_toArray, List.set_cons_zero, List.set_cons_succ])
                  iterate 3 (apply tkF [8, 9, 10] rfl rfl (by kernel_rfl) (fun _ _ _ h => h) (by rfl); (case hy => (intro w hSw; (try dsimp only at hSw); go_simp; try with_reducible rfl)); (case hS => assumption); (try simp only [Act.put, List.setIfInBounds_toArray, List.set_cons_zero, List.set_cons_succ]))
                  refine doH (i := 12) rfl (by kernel_rfl) (by rfl) (fun K hK => ?_)
                  refine wp_store_row 44 _ _ rfl gb ds' rfl rfl 44 zeroWd kb (by rw [hX.size]; exact infoW) (by rw [hX.size]; rfl) hX.one ?_
                  refine hK.out _ _ (HKP.out _ (hE4.grown (only_setRow (grown_refl y4 _) ds') hE4.size (fun k hk => by injection hk; omega))) (fun hHeld => ?_)
                  clear hK K
                  (try simp only [Act.put])
                  (apply tkF [13] rfl rfl (by kernel_rfl) (fun _ _ _ h => h) (by rfl); (case hy => (intro w hSw; (try dsimp only at hSw); go_simp; try with_reducible rfl)); (case hS => assumption); (try simp only [Act.put, List.setIfInBounds_toArray, List.set_cons_zero, List.set_cons_succ]))
                  refine wpAnyH_done (by kernel_rfl) ?_ _
                  go_wp2_with fail
                  go_meet
                  exact ⟨gb, ds', rfl, rfl, lb, (setRow_heap y4 gb zeroWd ds' 44 (0, 0) kb), ((hX.imp (P' := fun q => ge < q ∧ q ≠ gb) (fun q h1 h2 => by first | (have h8 : _ ∧ _ := h2; omega) | (have h8 : ge < q := h2; omega))).same (by have := hbc.size; simp; omega) (fun q h1 h2 => by rw [setRow_other _ gb q _ (by first | omega | (have h8 : _ ∧ _ := h2; omega))]; exact hbc.block q h1)).imp (fun q _ h2 => by have h8 : _ ∧ _ := h2; omega), (hE4.grown (only_setRow (grown_refl y4 _) ds') hE4.size (fun k hk => by injection hk; omega))⟩
               case rest =>
                clear d1
                obtain ⟨gb, ds', rfl, rfl, lb, kb, hDb, hbB⟩ := hcut
                generalize wc = wb at *
                have h8b := h8.below hbB h8.lt
                have hGb := grown_trans hG (only_of_below hbB (some ge))
                have l6 := wd_load hDb.size kb
                have hgeb : ge < gb := by omega
                obtain ⟨w7, hw7⟩ : ∃ w7, wb.setRow ge ds' = w7 := ⟨_, rfl⟩
                have k87 : Blk w7 ge 44 ds' := by rw [← hw7]; exact blk_setRow h8b _
                have hG7 : wo.grownBy w7 (some ge) := by rw [← hw7]; exact only_setRow hGb _
                have hD7 : WdC w7 (fun q => ge < q) ds' (cutS W0 xnow) := by
                 rw [← hw7]
                 exact (hDb.same (by simp) (fun q _ hq => setRow_other _ _ _ _ (by have h8 : _ ∧ _ := hq; omega))).imp (fun q _ hq => hq.1)
                have HK8 := Lib.hid h8b
                have HO5 := Lib.hid hDb.one
                have HI5 : Hid ((Tryz.prog.info? 44).map (·.size) = some (ds' : Array Value).size) := Lib.hid (by rw [hDb.size]; exact infoW)
                have HW7 := Lib.hid hw7
                have HCS : Hid (ds.size = ds'.size) := Lib.hid (by rw [HSZ2.out, hDb.size])
                have HKK := Lib.hid k87
                have HDD := Lib.hid hD7
                have HGG := Lib.hid hG7
                clear hw7 h8b hDb hGb kb k87 hD7 hG7 h8 hDa hG hbB HKP
                generalize isS W0 xnow = bb at *
                go_wp2_with (refine wpList_store_row rfl 44 _ _ rfl ge ds' rfl rfl 44 ds HK8.out HI5.out HCS.out HO5.out ?_; rw [HW7.out])
                go_roundw
                case rel => exact ⟨j + 1, _, ds', by omega, by go_num, HVN, HKK.out, HDD.out, HGG.out⟩
                case measure => simp [intOf]; omega
             · have hzb : (yz == (k : Int) + 1) = false := by rw [beq_eq_false_iff_ne]; exact hz
               have HVN : Hid (W0 = cutsE (hs.take (j + 1)) A) := Lib.hid (by rw [HTKJ.out, if_neg (by push_cast; exact hz)])
               clear hz HTKJ hld
               go_wp2_with fail
               go_roundw
               case rel => exact ⟨j + 1, W0, ds, by omega, by go_num, HVN, h8, hDa, hG⟩
               case measure => simp [intOf]; omega
           · obtain rfl : m = j := by omega
             have hltM2 : ¬ (m : Int) < (m : Int) := by omega
             have HVN : Hid (stE l hs (k + 1) = some W0) := Lib.hid (by rw [HNX.out, HVE.out, List.take_of_length_le (by rw [HHM.out]; exact Nat.le_refl _)])
             clear hltj
             go_wp2_with fail
             go_roundw
             case rel => exact ⟨k + 1, W0, ds, by omega, by go_num, HVN, h8, hDa, hG⟩
             case measure => simp [intOf]; omega
        · have hbr : ((nA : Int) == (k : Int) + 1) = false := by rw [beq_eq_false_iff_ne]; omega
          have HM : Hid (mkE l hs = none) := Lib.hid (by
           have hlen : (askS W0 (l.getD k default)).tk.length = W0.tk.length := by
            rcases Nat.decEq (askS W0 (l.getD k default)).tk.length W0.tk.length with h | h
            · have := (askS_len _ _ h).1
              rw [← HAW.out] at this
              have h2 := congrArg List.length this
              rw [HNA.out, List.length_append, HTK.out] at h2
              exact absurd h2 heq
            · exact h
           have h1 : stE l hs (k + 1) = none := by
            unfold stE
            rw [HST.out]
            dsimp only
            rw [if_pos hlen]
           have h2 := stE_none l hs (k + 1) h1 (n - (k + 1))
           rw [HMK.out]
           rwa [show k + 1 + (n - (k + 1)) = n by omega] at h2)
          have k66 := HK6.out wb hGb
          have hB6 := HBW.out wb hGb
          clear heq
          go_wp2_with (refine wpList_store_row rfl 44 _ _ rfl (w.heap.size + 1) zeroWd rfl rfl 44 zeroWd k66 infoW rfl zeroWd_one ?_)
          refine bodyPost_ret (results_row_tmp rfl _ _ (w.heap.size + 1) 44 zeroWd _ rfl (blk_setRow k66 _) Tryz.underlying44 rfl infoW) rfl ?_
          rw [HRM.out]
          exact ⟨.inl ⟨HM.out, rfl⟩, below_setRow hB6 (by omega) _⟩
     · obtain rfl : n = k := by omega
       have hltN : ¬ (n : Int) < (n : Int) := by omega
       have HM : Hid (mkE l hs = some W0) := Lib.hid (by rw [HMK.out]; exact HST.out)
       have k66 := HK6.out wr hG
       have hB6 := HBW.out wr hG
       have hsz := hDa.size
       have HS9 : Hid (WdC (wr.setRow (w.heap.size + 1) ds) (geP w.heap.size) ds W0) := Lib.hid ((hDa.same (by simp) (fun q _ hq => setRow_other _ _ _ _ (by have h9 : ge < q := hq; omega))).imp (fun q _ hq => by have h9 : ge < q := hq; unfold geP; omega))
       have HIS : Hid ((Tryz.prog.info? 44).map (·.size) = some (ds : Array Value).size) := Lib.hid (by rw [hsz]; exact infoW)
       have HOS := Lib.hid hDa.one
       have HCS : Hid ((zeroWd : Array Value).size = ds.size) := Lib.hid (by rw [hsz]; rfl)
       have l6 := wd_load hsz h8
       clear hsz hlt
       go_wp2_with (refine wpList_store_row rfl 44 _ _ rfl (w.heap.size + 1) ds rfl rfl 44 zeroWd k66 HIS.out HCS.out HOS.out ?_)
       refine bodyPost_ret (results_row_tmp rfl _ _ (w.heap.size + 1) 44 ds _ rfl (setRow_heap wr _ zeroWd ds 44 (0, 0) k66) Tryz.underlying44 rfl HIS.out) rfl ?_
       rw [HRM.out]
       exact ⟨.inr ⟨W0, ds, HM.out, HINV.out, rfl, HS9.out⟩, below_setRow hB6 (by omega) _⟩
end
end Go.Proofs.YtnbboabaihddbaaGreat

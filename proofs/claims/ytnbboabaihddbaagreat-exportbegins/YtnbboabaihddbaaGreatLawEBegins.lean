/-
 The law ExportBegins.
-/
import Derived.Test.YtnbboabaihddbaaGreatEAwMRefRt
import Derived.Test.YtnbboabaihddbaaGreatYDo
import Derived.Deep.WholeRow
import Derived.Deep.CutRange
namespace Go.Proofs.YtnbboabaihddbaaGreat
open Go.RowKit

theorem filter_snoc (p : Hd → Bool) (hd : List Hd) {k : Nat} (hk : k < hd.length) : (hd.take (k + 1)).filter p = if p hd[k] then (hd.take k).filter p ++ [hd[k]] else (hd.take k).filter p := by
 rw [List.take_succ_eq_append_getElem hk, List.filter_append]
 by_cases h : p hd[k] = true
 · rw [if_pos h, List.filter_cons_of_pos h]
   rfl
 · rw [if_neg h, List.filter_cons_of_neg h]
   simp
section
attribute [-go_sem] loadVar
set_option maxRecDepth 100000 in
set_option maxHeartbeats 4000000 in
theorem law_ebegins (oa : Option Addr) (n cap : Nat) (os : List OpR) (hl : os.length = n) (_ : n ≤ cap) (_ : n ≤ 9223372036854775807) (hb : ∀ x ∈ os, BndO x) (x : Int) (hx : 0 ≤ x ∧ x ≤ 255) (w : World) (hr : RowG opK w oa os) :
 Calls Tryz.prog 3 #[.slice oa n cap, .int .u8 x] w fun e w' => e = .returned (.bool true) ∧ Below w.heap.size w w' := by
 obtain ⟨n0, rfl⟩ : ∃ n : Nat, x = n := ⟨x.toNat, by omega⟩
 have HX := Lib.hid hx
 have HAW := Lib.hid (fun W => awake12_any W)
 have HMK := Lib.hid (fun W => make_std W)
 have HF1 := Lib.hid (fun W (hW : Below w.heap.size w W) => rfewO_any oa n cap 25 os hl (by decide) W (hr.below hW))
 have HR1 := Lib.hid (show ∀ W e w', RFewO n 25 os W e w' = ((∃ b, e = .returned (.bool b) ∧ (b = true → n ≤ 25 ∧ ∀ x ∈ os, smallB x.r = true)) ∧ Below W.heap.size W w') from fun _ _ _ => rfl)
 have HT1 := Lib.hid (fun W (hW : Below w.heap.size w W) (h : n ≤ 25) => times_any oa n cap os hl (by omega) W (hr.below hW))
 have HU1 := Lib.hid (show ∀ W e w', RTimes os W e w' = ((∃ b, e = .returned (.bool b) ∧ (b = true → ∀ x ∈ os, x.now ≤ 2147483647)) ∧ Below W.heap.size W w') from fun _ _ _ => rfl)
 obtain ⟨P1, hP1⟩ : ∃ P, playW os = P := ⟨_, rfl⟩
 have HD1 : Hid (∀ W, Below w.heap.size w W → n ≤ 25 → (∀ x ∈ os, smallB x.r = true) → Calls Tryz.prog 12 #[.agg tabV, .slice oa n cap] W fun e w' => ∃ cs ds, e = .returned (.tuple #[.agg cs, .agg ds, .bool true]) ∧ StC w' (geP W.heap.size) cs P1 ∧ WdC w' (geP W.heap.size) ds P1 ∧ Below W.heap.size W w') := Lib.hid fun W hW h1 h2 => by
  rw [← hP1]
  exact do_any oa n cap os hl (by omega) h2 (by assumption) W (hr.below hW)
 have HO1 : Hid ((∀ x ∈ os, x.now ≤ 2147483647) → OwnW P1) := Lib.hid fun h => by rw [← hP1]; exact OwnW.play os h
 clear hr hP1 hb hx
 go_enter Tryz.func3, Tryz.ntmps3
 go_wp2_with fail
 refine (HAW.out _).mono ?_
 rintro e w1 ⟨rfl, hb1⟩
 go_wp2_with fail
 refine (HF1.out _ hb1).mono ?_
 rintro e w2 he
 rw [HR1.out] at he
 obtain ⟨⟨b, rfl, hbt⟩, hbf⟩ := he
 have hb2 := hb1.trans (hbf.mono hb1.size)
 clear hbf
 cases b with
 | false =>
  clear hbt
  go_wp2_with fail
  refine (HAW.out _).mono ?_
  rintro e w52 ⟨rfl, hb52⟩
  have hx52 := hb2.trans (hb52.mono hb2.size)
  go_wp2
  go_ret
  exact ⟨rfl, hx52⟩
 | true =>
  obtain ⟨hn1, hs1⟩ := hbt rfl
  clear hbt
  go_wp2_with fail
  refine (HT1.out _ hb2 hn1).mono ?_
  rintro e w3 he
  rw [HU1.out] at he
  obtain ⟨⟨b, rfl, hbt⟩, hbf⟩ := he
  have hb3 := hb2.trans (hbf.mono hb2.size)
  clear hbf
  cases b with
  | false =>
   clear hbt
   go_wp2_with fail
   refine (HAW.out _).mono ?_
   rintro e w53 ⟨rfl, hb53⟩
   have hx53 := hb3.trans (hb53.mono hb3.size)
   go_wp2
   go_ret
   exact ⟨rfl, hx53⟩
  | true =>
   have ho1 := HO1.out (hbt rfl)
   clear hbt
   go_wp2_with fail
   refine (HMK.out _).mono ?_
   rintro e wm ⟨rfl, hbm⟩
   have hbn := hb3.trans (hbm.mono hb3.size)
   have hl3 := tab_run (Blk.new wm 30 tabV)
   go_wp2_with (refine wpList_store_row rfl 30 _ _ rfl wm.heap.size tabV rfl rfl 30 zero72 (Blk.new _ _ _) (by rw [tabV_size]; exact infoTable) (by kernel_rfl) (by kernel_rfl) ?_; rw [World.setRow_alloc_new])
   have hb5 := hbn.alloc hbn.size (.cells tabV 30)
   have kT : Blk (wm.alloc (.cells tabV 30)) wm.heap.size 30 tabV := Blk.new _ _ _
   clear hbm hbn
   generalize wm.alloc (.cells tabV 30) = w5 at *
   generalize wm.heap.size = gt at *
   refine (HD1.out w5 hb5 hn1 hs1).mono ?_
   rintro e wd ⟨cs, ds, rfl, hS, hD, hbd⟩
   replace kT := kT.below hbd kT.lt
   have hbe := hb5.trans (hbd.mono hb5.size)
   clear hl3
   have zs6 := zeroS
   have zw6 := zeroW
   obtain ⟨wA6, hwA⟩ : ∃ wA, ((wd.alloc (.cells zeroSt 41)).alloc (.cells zeroWd 44)) = wA := ⟨_, rfl⟩
   have bA : Below wd.heap.size wd wA6 := by rw [← hwA]; exact ((Below.refl _ wd).alloc (Nat.le_refl _) _).alloc (by simp) _
   have kA : Blk wA6 wd.heap.size 41 zeroSt := by rw [← hwA]; exact (Blk.new _ _ _).alloc _
   have kB : Blk wA6 (wd.heap.size + 1) 44 zeroWd := by rw [← hwA]; exact Blk.new_at (by simp)
   obtain ⟨w6, hw6⟩ : ∃ x, (wA6.setRow wd.heap.size cs).setRow (wd.heap.size + 1) ds = x := ⟨_, rfl⟩
   have ks : Blk w6 wd.heap.size 41 cs := by rw [← hw6]; exact Blk.setRow (setRow_heap wA6 _ zeroSt cs 41 (0, 0) kA) (by omega) _
   have kw : Blk w6 (wd.heap.size + 1) 44 ds := by rw [← hw6]; exact setRow_heap _ _ zeroWd ds 44 (0, 0) (Blk.setRow kB (by omega) _)
   have b6 : Below wd.heap.size wd w6 := by rw [← hw6]; exact (bA.grown (only_setRow (grown_refl wA6 (some wd.heap.size)) cs) bA.size (fun k hk => by injection hk; omega)).grown (only_setRow (grown_refl _ (some (wd.heap.size + 1))) ds) (by have := bA.size; simp; omega) (fun k hk => by injection hk; omega)
   have HWA6 := Lib.hid hwA
   have HW6 := Lib.hid hw6
   have HKA6 := Lib.hid kA
   have HKB6 := Lib.hid kB
   have HIA6 : Hid ((Tryz.prog.info? 41).map (·.size) = some (cs : Array Value).size) := Lib.hid (by rw [hS.size]; exact infoS)
   have HIB6 : Hid ((Tryz.prog.info? 44).map (·.size) = some (ds : Array Value).size) := Lib.hid (by rw [hD.size]; kernel_rfl)
   have HSA6 : Hid ((zeroSt : Array Value).size = (cs : Array Value).size) := Lib.hid (by rw [hS.size]; rfl)
   have HSB6 : Hid ((zeroWd : Array Value).size = (ds : Array Value).size) := Lib.hid (by rw [hD.size]; rfl)
   have HOA6 : Hid (((cs : Array Value).all fun x => x.oneCell') = true) := Lib.hid hS.one
   have HOB6 : Hid (((ds : Array Value).all fun x => x.oneCell') = true) := Lib.hid hD.one
   clear hwA hw6 kA kB bA
   replace kT := kT.below b6 kT.lt
   have hb6 := hbe.trans (b6.mono hbe.size)
   have hS6 := hS.below b6
   have hD6 := hD.below b6
   have HKT : Hid (∀ X, Below w6.heap.size w6 X → (loadVar 30 ⟨gt, 0, none⟩).run Tryz.prog X = .ok (.agg tabV) X) := Lib.hid fun X hX => tab_run (kT.below hX kT.lt)
   have hI := ho1.1
   have hm := hI.most
   have hhh := hI.heads
   have HSQ := Lib.hid hI.szq
   have HOW := Lib.hid ho1
   obtain ⟨va, vb, e5, ⟨oq, cq, ra5, hA5, hA6, -, -⟩, -⟩ := hS6
   obtain ⟨xa, xb, xc, e6, ⟨oz, cz, ra6, -, -, -, -⟩, -, ⟨oh, ch, ra7, hH5, -, -, -⟩⟩ := hD6
   obtain ⟨N, hN⟩ : ∃ N, P1.tk.length = N := ⟨_, rfl⟩
   obtain ⟨M, hM⟩ : ∃ M, P1.hd.length = M := ⟨_, rfl⟩
   rw [hN] at hm hhh ra5 ra6 hA6
   rw [hM] at hhh ra7
   have e50 : cs[0]? = some (.slice oq N cq) := by rw [e5, ra5]; rfl
   have e60 : ds[0]? = some (.slice oz N cz) := by rw [e6, ra6]; rfl
   have e62 : ds[2]? = some (.slice oh M ch) := by rw [e6, ra7]; rfl
   have HKS : Hid (∀ X, Below w6.heap.size w6 X → (loadVar 32 ⟨wd.heap.size, 0, none⟩).run Tryz.prog X = .ok (.slice oq N cq) X ∧ (loadVar 32 ⟨wd.heap.size + 1, 0, none⟩).run Tryz.prog X = .ok (.slice oz N cz) X ∧ (loadVar 39 ⟨wd.heap.size + 1, 2, none⟩).run Tryz.prog X = .ok (.slice oh M ch) X) := Lib.hid fun X hX =>
    ⟨sl_req (((ks.below hX ks.lt).cell 0).trans e50), sl_req (((kw.below hX kw.lt).cell 0).trans e60), sl_hd (((kw.below hX kw.lt).cell 2).trans e62)⟩
   have HRQ : Hid (∀ X, Below w6.heap.size w6 X → RowG reqK X oq P1.tk) := Lib.hid fun X hX => hA5.below hX
   have HHD : Hid (∀ k, k < M → ∃ x : Hd, (P1.hd[k]? = some x) ∧ ∃ g o, oh = some ⟨g, o, none⟩ ∧ ∀ X, Below w6.heap.size w6 X → (loadVar 48 ⟨g, o + k * 5, none⟩).run Tryz.prog X = .ok (.agg #[.int .i64 x.q, .int .i64 x.z, .int .i64 x.t, .string x.r, .string x.m]) X ∧ (loadVar 3 ⟨g, o + k * 5 + 1, none⟩).run Tryz.prog X = .ok (.int .i64 x.z) X) := Lib.hid fun k hk => by
    obtain ⟨g, o, h1, h2, h3⟩ := hd_whole hH5 (i := k) (by omega)
    obtain ⟨g', o', h1', h2', _, c1, _⟩ := hd_at hH5 (i := k) (by omega)
    rw [h1] at h1'
    injection h1' with e
    injection e with e1 e2
    subst e1 e2
    exact ⟨P1.hd[k]'(by omega), List.getElem?_eq_getElem _, g, o, h1, fun X hX => ⟨h3 X hX, num_load ((hX.cell (p := ⟨g, o + k * 5 + 1, none⟩) h2).trans c1)⟩⟩
   obtain ⟨kk, hkk⟩ : ∃ k, n0 % (N + 1) = k := ⟨_, rfl⟩
   have hkN : kk ≤ N := by rw [← hkk]; have := Nat.mod_lt n0 (show 0 < N + 1 by omega); omega
   have hxx := HX.out
   have e1 : (n0 : Int).tmod ((N : Int) + 1) = (kk : Int) := by rw [Int.tmod_eq_emod_of_nonneg (by omega), show (N : Int) + 1 = ((N + 1 : Nat) : Int) by push_cast; rfl, ← Int.natCast_emod, hkk]
   have e2 : IntKind.i64.wrap (n0 : Int) = (n0 : Int) := by rw [IntKind.wrap_i64]; omega
   have e3 : IntKind.i64.wrap ((N : Int) + 1) = (N : Int) + 1 := by rw [IntKind.wrap_i64]; omega
   have e4 : IntKind.i64.wrap (kk : Int) = (kk : Int) := by rw [IntKind.wrap_i64]; omega
   have hn1 : ¬ (N : Int) + 1 = 0 := by omega
   have hnb : ((N : Int) + 1 == 0) = false := by rw [beq_eq_false_iff_ne]; omega
   have l2 := (HKS.out w6 (Below.refl _ _)).2.1
   obtain ⟨V, hV1, hV2, hV3⟩ := begin_own ho1 (k := kk) (by rw [hN]; exact hkN)
   obtain ⟨F, hF⟩ : ∃ F : Nat → List Hd, (fun i => (P1.hd.take i).filter fun x => decide (x.z ≤ (kk : Int))) = F := ⟨_, rfl⟩
   have HF0 : Hid (F 0 = []) := Lib.hid (by rw [← hF]; rfl)
   have HFS : Hid (∀ i x, P1.hd[i]? = some x → F (i + 1) = if x.z ≤ (kk : Int) then F i ++ [x] else F i) := Lib.hid fun i x hx => by
    obtain ⟨hi, hxe⟩ := List.getElem?_eq_some_iff.1 hx
    rw [← hF]
    dsimp only
    rw [filter_snoc _ _ hi, hxe]
    simp only [decide_eq_true_eq]
   have HFL : Hid (∀ i, (F i).length ≤ 64) := Lib.hid fun i => by
    rw [← hF]
    refine Nat.le_trans (List.length_filter_le _ _) ?_
    rw [List.length_take]
    omega
   have HFM : Hid (V.hd = F M) := Lib.hid (by rw [hV3, ← hF, ← hM]; dsimp only; rw [List.take_length])
   have HMK2 : Hid (mkE (P1.tk.take kk) (F M) = some V) := Lib.hid (by rw [← hV1, ← hF, ← hM]; dsimp only; rw [List.take_length])
   have HVT := Lib.hid hV2
   have HLN := Lib.hid hN
   have HKK := Lib.hid hkN
   have hgd : wd.heap.size < w6.heap.size := ks.lt
   clear ho1 hI hS hD hbe hbd e5 ra5 hA5 e6 ra6 ra7 hH5 e50 e60 e62 kw ks kT hV1 hV2 hV3 hF hkk hN hM hxx
   go_wp2_with (first
    | rw [HWA6.out]
    | (refine wpList_store_row rfl 41 _ _ rfl wd.heap.size cs rfl rfl 41 zeroSt HKA6.out HIA6.out HSA6.out HOA6.out ?_)
    | (refine wpList_store_row rfl 44 _ _ rfl (wd.heap.size + 1) ds rfl rfl 44 zeroWd (Blk.setRow HKB6.out (by omega) _) HIB6.out HSB6.out HOB6.out ?_; rw [HW6.out]))
   generalize wd.heap.size = gs at *
   clear e1 e2 e3 e4 l2
   go_loopw [10, 11] (fun v i wr => ∃ k : Nat, k ≤ M ∧ i = .int .i64 k ∧ OwnG hdK wr w6.heap.size v (F k) ∧ Below w6.heap.size w6 wr) (fun _ i _ => M - (intOf i).toNat)
   case atStart => exact ⟨0, by omega, rfl, by rw [HF0.out]; exact ownG_nil _ _, Below.refl _ _⟩
   case round =>
    obtain ⟨k, hk, rfl, hown, hB⟩ := hrel
    have l3 := (HKS.out wr hB).2.2
    by_cases hlt : k < M
    · have hlt' : (k : Int) < (M : Int) := by omega
      obtain ⟨x, hx, g, o, rfl, hld⟩ := HHD.out k hlt
      have HFK := Lib.hid (HFS.out k x hx)
      have HFL1 := Lib.hid (HFL.out k)
      obtain ⟨d0, d1⟩ := hld wr hB
      obtain ⟨xq, xz, xt, xr, xm⟩ := x
      dsimp only at d0 d1 HFK
      clear hx hld
      by_cases hz : xz ≤ (kk : Int)
      · rw [if_pos hz] at HFK
        obtain ⟨fl, hfl⟩ : ∃ fl, (F k).length = fl := ⟨_, rfl⟩
        have HFE := Lib.hid hfl
        clear hfl
        go_wp2_with (at_builtin; refine wpList_append_g hdOk rfl _ _ rfl w6.heap.size u10 (F k) rfl hown ⟨xq, xz, xt, xr, xm⟩ rfl (by have := HFL1.out; omega) hB.size ?_)
        intro g5 c5 w7 hown7 hg7 _
        have hB7 := hB.grown hg7 hB.size (fun z hz => (World.ownsRow.lt hown z hz).1)
        rw [← HFK.out] at hown7
        rw [HFE.out] at hown7 ⊢
        clear hown hB hg7 d0 d1 l3
        go_wp2
        go_roundw
        case rel => exact ⟨k + 1, by omega, by go_num, hown7, hB7⟩
        case measure => simp [intOf]; omega
      · rw [if_neg hz] at HFK
        go_wp2_with fail
        go_roundw
        case rel => exact ⟨k + 1, by omega, by go_num, by rw [HFK.out]; exact hown, hB⟩
        case measure => simp [intOf]; omega
    · obtain rfl : M = k := by omega
      have hltM : ¬ (M : Int) < (M : Int) := by omega
      obtain ⟨ov, cv, hv, hRv, hcv, -, -⟩ := hown.form hdOk
      obtain ⟨L, hL⟩ : ∃ L, F M = L := ⟨_, rfl⟩
      have HLL := Lib.hid (HFL.out M)
      rw [hL] at hv hRv hcv HFM HMK2 HLL
      obtain ⟨m, hLm⟩ : ∃ m, L.length = m := ⟨_, rfl⟩
      rw [hLm] at hv hcv HLL
      subst hv
      have HLM := Lib.hid hLm
      have hle6 := hB.size
      have HBW := Lib.hid hB
      have HPR : Hid (∀ X, Below wr.heap.size wr X → Calls Tryz.prog 13 #[.agg tabV, .slice oq kk cq, .slice ov m cv] X fun e w' => ∃ cs', e = .returned (.tuple #[.agg cs', .int .i64 0]) ∧ StC w' (geP X.heap.size) cs' V ∧ Below X.heap.size X w') := Lib.hid fun X hX => by
       have key := prefix_any oq ov kk cq m cv (P1.tk.take kk) L (by rw [List.length_take, HLN.out]; have := HKK.out; omega) HLM.out (by have := HKK.out; omega) (by have := HLL.out; omega) hcv (fun r hr => HSQ.out r (List.mem_of_mem_take hr)) X ((HRQ.out X (HBW.out.trans (hX.mono HBW.out.size))).take kk) (hRv.below hX)
       refine key.mono ?_
       rintro e w' ⟨he, hb⟩
       rcases he with ⟨h, _⟩ | ⟨W, cs', h, _, rfl, hS⟩
       · rw [HMK2.out] at h; cases h
       · rw [HMK2.out] at h
         injection h with h
         subst h
         exact ⟨cs', rfl, hS, hb⟩
      have HKP : Hid (∀ W, Below wr.heap.size wr W → (fun W => (loadVar 30 ⟨gt, 0, none⟩).run Tryz.prog W = .ok (.agg tabV) W ∧ (loadVar 32 ⟨gs, 0, none⟩).run Tryz.prog W = .ok (.slice oq N cq) W) W) := Lib.hid fun W hW => ⟨HKT.out W (HBW.out.trans (hW.mono HBW.out.size)), (HKS.out W (HBW.out.trans (hW.mono HBW.out.size))).1⟩
      have HRL := Lib.hid hRv
      have hsl := fun X => slice_req oq N cq kk (by have := HKK.out; omega) X
      have hk0 : (0 : Int) ≤ (kk : Int) := by omega
      have hkc : (kk : Int) ≤ (cq : Int) := by have := HKK.out; omega
      clear hown hRv hL hB
      have zs := zeroS
      go_wp2_with fail
      go_upto_region 14 with fail
      go_cut [12, 13] from 68 to 77 (fun p b wx => ∃ ga cs', p = .pointer (some ⟨ga, 0, none⟩) ∧ b = .int .i64 0 ∧ wr.heap.size ≤ ga ∧ Blk wx ga 41 cs' ∧ StC wx (geP 0) cs' V ∧ Below wr.heap.size wr wx)
      case first =>
       refine wp_region_held_drew (S := fun W => (loadVar 30 ⟨gt, 0, none⟩).run Tryz.prog W = .ok (.agg tabV) W ∧ (loadVar 32 ⟨gs, 0, none⟩).run Tryz.prog W = .ok (.slice oq N cq) W) (by kernel_rfl) ?_ (fun hHeld0 => ?_)
       · exact HKP.out _ (Below.refl _ _).drew
       have hE0 : Below wr.heap.size wr wr.drew := (Below.refl _ _).drew
       generalize wr.drew = y0 at *
       iterate 6 (apply tkF [0, 1, 2, 3, 4, 5] rfl rfl (by kernel_rfl) (fun _ _ _ h => h) (by rfl); (case hy => (intro w hSw; (try dsimp only at hSw); go_simp; try with_reducible rfl)); (case hS => assumption); (try simp only [Act.put, List.setIfInBounds_toArray, List.set_cons_zero, List.set_cons_succ]))
       refine doH2 (i := 6) (j := 10) rfl rfl (by kernel_rfl) (by rfl) (by rfl) (fun K hK => ?_) (fun K hK => ?_)
       · go_simp
         have hvy := hE0.size
         go_at_call 13
         refine (HPR.out y0 hE0).mono ?_
         rintro e y1 ⟨cs', rfl, hX, hy1⟩
         have hE1 : Below wr.heap.size wr y1 := hE0.trans (hy1.mono hE0.size)
         obtain ⟨yc, hyc⟩ : ∃ yc, y1 = yc := ⟨_, rfl⟩
         rw [hyc] at hX
         have hbc : Below yc.heap.size yc y1 := by rw [hyc]; exact Below.refl _ _
         clear hyc
         go_wp2_with fail
         refine hK.out _ _ (HKP.out _ hE1) (fun hHeld => ?_)
         clear hK K
         (try simp only [Act.put, List.setIfInBounds_toArray, List.set_cons_zero, List.set_cons_succ])
         iterate 3 (apply tkF [7, 8, 9] rfl rfl (by kernel_rfl) (fun _ _ _ h => h) (by rfl); (case hy => (intro w hSw; (try dsimp only at hSw); go_simp; try with_reducible rfl)); (case hS => assumption); (try simp only [Act.put, List.setIfInBounds_toArray, List.set_cons_zero, List.set_cons_succ]))
         refine doH (i := 10) rfl (by kernel_rfl) (by rfl) (fun K hK => ?_)
         go_simp
         have ka : Blk (y1.alloc (.cells zeroSt 41)) y1.heap.size 41 zeroSt := Blk.new _ _ _
         have hyA := (Below.refl _ y1).alloc (Nat.le_refl _) (.cells zeroSt 41)
         have hE2 := hE1.trans (hyA.mono hE1.size)
         have la : wr.heap.size ≤ y1.heap.size := hE1.size
         have ua : yc.heap.size ≤ y1.heap.size := hbc.size
         replace hbc := hbc.trans (hyA.mono hbc.size)
         generalize y1.alloc (.cells zeroSt 41) = y2 at *
         generalize y1.heap.size = ga at *
         clear hyA
         refine hK.out _ _ (HKP.out _ hE2) (fun hHeld => ?_)
         clear hK K
         (try simp only [Act.put, List.setIfInBounds_toArray, List.set_cons_zero, List.set_cons_succ])
         refine doH (i := 11) rfl (by kernel_rfl) (by rfl) (fun K hK => ?_)
         refine wp_store_row 41 _ _ rfl ga cs' rfl rfl 41 zeroSt ka (by rw [hX.size]; exact infoS) (by rw [hX.size]; rfl) hX.one ?_
         refine hK.out _ _ (HKP.out _ (hE2.grown (only_setRow (grown_refl y2 _) cs') hE2.size (fun k hk => by injection hk; omega))) (fun hHeld => ?_)
         clear hK K
         (try simp only [Act.put])
         (apply tkF [12] rfl rfl (by kernel_rfl) (fun _ _ _ h => h) (by rfl); (case hy => (intro w hSw; (try dsimp only at hSw); go_simp; try with_reducible rfl)); (case hS => assumption); (try simp only [Act.put, List.setIfInBounds_toArray, List.set_cons_zero, List.set_cons_succ]))
         refine wpAnyH_done (by kernel_rfl) ?_ _
         go_wp2_with fail
         go_meet
         exact ⟨ga, cs', rfl, rfl, la, (setRow_heap y2 ga zeroSt cs' 41 (0, 0) ka), (hX.same (by have := hbc.size; simp; omega) (fun q h1 h2 => by have h8 := h2; unfold geP at h8; rw [setRow_other _ ga q _ (by omega)]; exact hbc.block q h1)).imp (P' := geP 0) (fun q _ _ => Nat.zero_le _), (hE2.grown (only_setRow (grown_refl y2 _) cs') hE2.size (fun k hk => by injection hk; omega))⟩
       · go_simp
         have ka : Blk (y0.alloc (.cells zeroSt 41)) y0.heap.size 41 zeroSt := Blk.new _ _ _
         have hyA := (Below.refl _ y0).alloc (Nat.le_refl _) (.cells zeroSt 41)
         have hE3 := hE0.trans (hyA.mono hE0.size)
         have la : wr.heap.size ≤ y0.heap.size := hE0.size
         generalize y0.alloc (.cells zeroSt 41) = y3 at *
         generalize y0.heap.size = ga at *
         clear hyA
         refine hK.out _ _ (HKP.out _ hE3) (fun hHeld => ?_)
         clear hK K
         (try simp only [Act.put, List.setIfInBounds_toArray, List.set_cons_zero, List.set_cons_succ])
         refine doH (i := 6) rfl (by kernel_rfl) (by rfl) (fun K hK => ?_)
         go_simp
         have va : ga < y3.heap.size := ka.lt
         have hvy := hE3.size
         go_at_call 13
         refine (HPR.out y3 hE3).mono ?_
         rintro e y4 ⟨cs', rfl, hX, hy4⟩
         have hE4 : Below wr.heap.size wr y4 := hE3.trans (hy4.mono hE3.size)
         replace ka := ka.below hy4 ka.lt
         obtain ⟨yc, hyc⟩ : ∃ yc, y4 = yc := ⟨_, rfl⟩
         rw [hyc] at hX
         have hbc : Below yc.heap.size yc y4 := by rw [hyc]; exact Below.refl _ _
         have ua : ga < yc.heap.size := by rw [← hyc]; exact ka.lt
         clear hyc
         go_wp2_with fail
         refine hK.out _ _ (HKP.out _ hE4) (fun hHeld => ?_)
         clear hK K
         (try simp only [Act.put, List.setIfInBounds_toArray, List.set_cons_zero, List.set_cons_succ])
         iterate 3 (apply tkF [7, 8, 9] rfl rfl (by kernel_rfl) (fun _ _ _ h => h) (by rfl); (case hy => (intro w hSw; (try dsimp only at hSw); go_simp; try with_reducible rfl)); (case hS => assumption); (try simp only [Act.put, List.setIfInBounds_toArray, List.set_cons_zero, List.set_cons_succ]))
         refine doH (i := 11) rfl (by kernel_rfl) (by rfl) (fun K hK => ?_)
         refine wp_store_row 41 _ _ rfl ga cs' rfl rfl 41 zeroSt ka (by rw [hX.size]; exact infoS) (by rw [hX.size]; rfl) hX.one ?_
         refine hK.out _ _ (HKP.out _ (hE4.grown (only_setRow (grown_refl y4 _) cs') hE4.size (fun k hk => by injection hk; omega))) (fun hHeld => ?_)
         clear hK K
         (try simp only [Act.put])
         (apply tkF [12] rfl rfl (by kernel_rfl) (fun _ _ _ h => h) (by rfl); (case hy => (intro w hSw; (try dsimp only at hSw); go_simp; try with_reducible rfl)); (case hS => assumption); (try simp only [Act.put, List.setIfInBounds_toArray, List.set_cons_zero, List.set_cons_succ]))
         refine wpAnyH_done (by kernel_rfl) ?_ _
         go_wp2_with fail
         go_meet
         exact ⟨ga, cs', rfl, rfl, la, (setRow_heap y4 ga zeroSt cs' 41 (0, 0) ka), (hX.same (by have := hbc.size; simp; omega) (fun q h1 h2 => by have h8 := h2; unfold geP at h8; rw [setRow_other _ ga q _ (by omega)]; exact hbc.block q h1)).imp (P' := geP 0) (fun q _ _ => Nat.zero_le _), (hE4.grown (only_setRow (grown_refl y4 _) cs') hE4.size (fun k hk => by injection hk; omega))⟩
      case rest =>
       obtain ⟨ga, cs', rfl, rfl, la, ka, hSa, hbA⟩ := hcut
       generalize wc = wa at *
       have hBa := hb6.trans ((HBW.out.trans (hbA.mono HBW.out.size)).mono hb6.size)
       obtain ⟨va2, vb2, e8, ⟨or2, cr2, rr2, -, -, -, -⟩, ⟨oh2, ch2, rh2, hH2, hc2, -, -⟩⟩ := hSa
       rw [HVT.out] at rr2
       rw [HFM.out] at rh2 hH2 hc2
       rw [HLM.out] at rh2 hc2
       have e80 : cs'[0]? = some (.slice or2 kk cr2) := by rw [e8, rr2]; rfl
       have e81 : cs'[21]? = some (.slice oh2 m ch2) := by rw [e8, rh2]; rfl
       have HSX : Hid (∀ X, Below wa.heap.size wa X → (loadVar 32 ⟨ga, 0, none⟩).run Tryz.prog X = .ok (.slice or2 kk cr2) X ∧ (loadVar 39 ⟨ga, 21, none⟩).run Tryz.prog X = .ok (.slice oh2 m ch2) X) := Lib.hid fun X hX => ⟨sl_req (((ka.below hX ka.lt).cell 0).trans e80), sl_hd (((ka.below hX ka.lt).cell 21).trans e81)⟩
       have HH2 : Hid (∀ X, Below wa.heap.size wa X → ∀ k, k < m → ∃ x : Hd, ∃ g o g' o', oh2 = some ⟨g, o, none⟩ ∧ ov = some ⟨g', o', none⟩ ∧ (loadVar 48 ⟨g, o + k * 5, none⟩).run Tryz.prog X = .ok (.agg #[.int .i64 x.q, .int .i64 x.z, .int .i64 x.t, .string x.r, .string x.m]) X ∧ (loadVar 48 ⟨g', o' + k * 5, none⟩).run Tryz.prog X = .ok (.agg #[.int .i64 x.q, .int .i64 x.z, .int .i64 x.t, .string x.r, .string x.m]) X) := Lib.hid fun X hX k hk => by
        obtain ⟨g, o, h1, _, h3⟩ := hd_whole hH2 (i := k) (by rw [HLM.out]; exact hk)
        obtain ⟨g', o', h1', _, h3'⟩ := hd_whole HRL.out (i := k) (by rw [HLM.out]; exact hk)
        exact ⟨L[k]'(by rw [HLM.out]; exact hk), g, o, g', o', h1, h1', h3 X hX, h3' X (hbA.trans (hX.mono hbA.size))⟩
       obtain ⟨q1, q2⟩ := HSX.out wa (Below.refl _ _)
       have HBA := Lib.hid hBa
       clear e8 rr2 rh2 hH2 hc2 e80 e81 ka hbA hBa HPR HKP
       have hkk1 : ((kk : Int) == (kk : Int)) = true := by simp
       have hmm1 : ((m : Int) == (m : Int)) = true := by simp
       go_wp2_with fail
       clear q1 q2 hkk1 hmm1 hsl hs1 hlt hltM l3
       go_loopw [14] (fun i wr => ∃ k : Nat, k ≤ m ∧ i = .int .i64 k ∧ Below wa.heap.size wa wr) (fun i _ => m - (intOf i).toNat)
       case atStart => exact ⟨0, by omega, rfl, Below.refl _ _⟩
       case round =>
        obtain ⟨k, hk, rfl, hW⟩ := hrel
        have hm64 : m ≤ 64 := HLL.out
        by_cases hltm : k < m
        · have hltm' : (k : Int) < (m : Int) := by omega
          obtain ⟨x, g, o, g', o', rfl, rfl, d0, d1⟩ := HH2.out wr.drew hW.drew k hltm
          obtain ⟨xq, xz, xt, xr, xm⟩ := x
          dsimp only at d0 d1
          have HW9 := Lib.hid hW.drew
          have HS9 : Hid ((fun W => (loadVar 39 ⟨ga, 21, none⟩).run Tryz.prog W = .ok (.slice (some ⟨g, o, none⟩) m ch2) W ∧ (loadVar 48 ⟨g, o + k * 5, none⟩).run Tryz.prog W = .ok (.agg #[.int .i64 xq, .int .i64 xz, .int .i64 xt, .string xr, .string xm]) W ∧ (loadVar 48 ⟨g', o' + k * 5, none⟩).run Tryz.prog W = .ok (.agg #[.int .i64 xq, .int .i64 xz, .int .i64 xt, .string xr, .string xm]) W) wr.drew) := Lib.hid ⟨(HSX.out wr.drew hW.drew).2, d0, d1⟩
          clear hW d0 d1
          go_wp2_with fail
          refine wp_region_held_drew (S := fun W => (loadVar 39 ⟨ga, 21, none⟩).run Tryz.prog W = .ok (.slice (some ⟨g, o, none⟩) m ch2) W ∧ (loadVar 48 ⟨g, o + k * 5, none⟩).run Tryz.prog W = .ok (.agg #[.int .i64 xq, .int .i64 xz, .int .i64 xt, .string xr, .string xm]) W ∧ (loadVar 48 ⟨g', o' + k * 5, none⟩).run Tryz.prog W = .ok (.agg #[.int .i64 xq, .int .i64 xz, .int .i64 xt, .string xr, .string xm]) W) (by kernel_rfl) ?_ (fun hHeld0 => ?_)
          · exact HS9.out
          iterate 10 (apply tkF [0, 1, 2, 3, 4, 5, 6, 7, 8, 9] rfl rfl (by kernel_rfl) (fun _ _ _ h => h) (by rfl); (case hy => (intro w hSw; (try dsimp only at hSw); go_simp; try with_reducible rfl)); (case hS => assumption); (try simp only [Act.put, List.setIfInBounds_toArray, List.set_cons_zero, List.set_cons_succ]))
          refine wpAnyH_done (by kernel_rfl) ?_ _
          generalize wr.drew = wz at *
          go_wp2_with fail
          go_roundw
          case rel => exact ⟨k + 1, by omega, by go_num, HW9.out⟩
          case measure => simp [intOf]; omega
        · obtain rfl : m = k := by omega
          have hltmm : ¬ (m : Int) < (m : Int) := by omega
          have hBz := HBA.out.trans (hW.mono HBA.out.size)
          go_wp2_with fail
          go_ret
          exact ⟨rfl, hBz⟩
end
end Go.Proofs.YtnbboabaihddbaaGreat

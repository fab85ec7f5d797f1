/-
  The law StateViews.
-/
import Derived.Test.YtjmjkcgldencoaaGreatYDo
import Derived.Test.YtjmjkcgldencoaaGreatYAw
import Derived.Test.YtjmjkcgldencoaaGreatMLeafYLeaves
import Derived.Test.YtjmjkcgldencoaaGreatYMapP
import Derived.Test.YtjmjkcgldencoaaGreatYViewM
import Derived.Test.YtjmjkcgldencoaaGreatRSame
namespace Go.Proofs.YtjmjkcgldencoaaGreat
open Go.RowKit

theorem head_is (hd : List Hd) (q : Int) : (1 ≤ q ∧ q ≤ (hd.length : Int) ∧ ∃ i, i < hd.length ∧ q = (i : Int) + 1 ∧ headAt hd q = (hd.getD i default, true)) ∨ ((q < 1 ∨ (hd.length : Int) < q) ∧ headAt hd q = (default, false)) := by
  unfold headAt
  by_cases h : 1 ≤ q ∧ q ≤ (hd.length : Int)
  · rw [if_pos h]
    have hi : q.toNat - 1 < hd.length := by omega
    exact .inl ⟨h.1, h.2, q.toNat - 1, hi, by omega, rfl⟩
  · rw [if_neg h]
    exact .inr ⟨by omega, rfl⟩
section
attribute [-go_sem] loadVar
set_option maxRecDepth 100000 in
set_option maxHeartbeats 4000000 in
theorem law_views (oa : Option Addr) (n cap : Nat) (os : List OpR) (hl : os.length = n) (_ : n ≤ cap) (_ : n ≤ 9223372036854775807) (hb : ∀ x ∈ os, BndO x)
    (q : Int) (hq : -9223372036854775808 ≤ q ∧ q ≤ 9223372036854775807) (z : Int) (hz : -9223372036854775808 ≤ z ∧ z ≤ 9223372036854775807) (w : World) (hr : RowG opK w oa os) :
    Calls Tryz.prog 5 #[.slice oa n cap, .int .i64 q, .int .i64 z] w fun e w' => e = .returned (.bool true) ∧ Below w.heap.size w w' := by
  have HAW := Lib.hid (fun W => awake11_any W)
  have HMK := Lib.hid (fun W => make_std W)
  have HF1 := Lib.hid (fun W (hW : Below w.heap.size w W) => rfewO_any oa n cap 30 os hl (by decide) W (hr.below hW))
  have HR1 := Lib.hid (show ∀ W e w', RFewO n 30 os W e w' = ((∃ b, e = .returned (.bool b) ∧ (b = true → n ≤ 30 ∧ ∀ x ∈ os, smallB x.r = true)) ∧ Below W.heap.size W w') from fun _ _ _ => rfl)
  obtain ⟨P1, hP1⟩ : ∃ P, playW os = P := ⟨_, rfl⟩
  have HD1 : Hid (∀ W, Below w.heap.size w W → n ≤ 30 → (∀ x ∈ os, smallB x.r = true) → Calls Tryz.prog 11 #[.agg tabV, .slice oa n cap] W fun e w' => ∃ cs ds, e = .returned (.tuple #[.agg cs, .agg ds, .bool true]) ∧ StC w' (geP W.heap.size) cs P1 ∧ WdC w' (geP W.heap.size) ds P1 ∧ Below W.heap.size W w') := Lib.hid fun W hW h1 h2 => by
    rw [← hP1]
    exact do_any oa n cap os hl (by omega) h2 hb W (hr.below hW)
  have HI1 : Hid (InvW P1) := Lib.hid (by rw [← hP1]; exact InvW.play os)
  have HQ := Lib.hid (And.intro hq hz)
  clear hr hP1 hb hq hz
  go_enter Tryz.func5, Tryz.ntmps5
  go_wp2_with fail
  refine (HAW.out _).mono ?_
  rintro e w1 ⟨rfl, hb1⟩
  go_wp2_with fail
  refine (HF1.out _ hb1).mono ?_
  rintro e w2 he2
  rw [HR1.out] at he2
  obtain ⟨⟨b, rfl, hbt⟩, hbf⟩ := he2
  have hb2 := hb1.trans (hbf.mono hb1.size)
  clear hbf
  cases b with
  | false =>
    clear hbt
    go_wp2_with fail
    refine (HAW.out _).mono ?_
    rintro e w3 ⟨rfl, hb3⟩
    have hb4 := hb2.trans (hb3.mono hb2.size)
    go_wp2
    go_ret
    exact ⟨rfl, hb4⟩
  | true =>
    obtain ⟨h30, hsm⟩ := hbt rfl
    have HSM := Lib.hid hsm
    clear hbt hsm
    go_wp2_with fail
    refine (HMK.out _).mono ?_
    rintro e w5 ⟨rfl, hb5⟩
    have hb6 := hb2.trans (hb5.mono hb2.size)
    have hl3 := tab_run (Blk.new w5 47 tabV)
    go_wp2_with (refine wpList_store_row rfl 47 _ _ rfl w5.heap.size tabV rfl rfl 47 zero72 (Blk.new _ _ _) (by rw [tabV_size]; exact infoTable) (by kernel_rfl) (by kernel_rfl) ?_; rw [World.setRow_alloc_new])
    have hb7 := hb6.alloc hb6.size (.cells tabV 47)
    have kT : Blk (w5.alloc (.cells tabV 47)) w5.heap.size 47 tabV := Blk.new _ _ _
    generalize w5.alloc (.cells tabV 47) = w6 at *
    generalize w5.heap.size = gt at *
    refine (HD1.out w6 hb7 h30 HSM.out).mono ?_
    rintro e w7 ⟨cs, ds, rfl, hS, hD, hb8⟩
    replace kT := kT.below hb8 kT.lt
    have hb9 := hb7.trans (hb8.mono hb7.size)
    clear hl3 hb8 hb7 hb6 hb5 hb2 hb1
    have zs8 := zeroS
    have zw8 := zeroW
    obtain ⟨wA8, hwA⟩ : ∃ wA, ((w7.alloc (.cells zeroSt 37)).alloc (.cells zeroWd 40)) = wA := ⟨_, rfl⟩
    have bA : Below w7.heap.size w7 wA8 := by rw [← hwA]; exact ((Below.refl _ w7).alloc (Nat.le_refl _) _).alloc (by simp) _
    have kA : Blk wA8 w7.heap.size 37 zeroSt := by rw [← hwA]; exact (Blk.new _ _ _).alloc _
    have kB : Blk wA8 (w7.heap.size + 1) 40 zeroWd := by rw [← hwA]; exact Blk.new_at (by simp)
    obtain ⟨w8, hw8⟩ : ∃ x, (wA8.setRow w7.heap.size cs).setRow (w7.heap.size + 1) ds = x := ⟨_, rfl⟩
    have ks : Blk w8 w7.heap.size 37 cs := by rw [← hw8]; exact Blk.setRow (setRow_heap wA8 _ zeroSt cs 37 (0, 0) kA) (by omega) _
    have kd : Blk w8 (w7.heap.size + 1) 40 ds := by rw [← hw8]; exact setRow_heap _ _ zeroWd ds 40 (0, 0) (Blk.setRow kB (by omega) _)
    have b8 : Below w7.heap.size w7 w8 := by rw [← hw8]; exact (bA.grown (only_setRow (grown_refl wA8 (some w7.heap.size)) cs) bA.size (fun k hk => by injection hk; omega)).grown (only_setRow (grown_refl _ (some (w7.heap.size + 1))) ds) (by have := bA.size; simp; omega) (fun k hk => by injection hk; omega)
    have HWA8 := Lib.hid hwA
    have HW8 := Lib.hid hw8
    have HKA8 := Lib.hid kA
    have HKB8 := Lib.hid kB
    have HIA8 : Hid ((Tryz.prog.info? 37).map (·.size) = some (cs : Array Value).size) := Lib.hid (by rw [hS.size]; exact infoS)
    have HIB8 : Hid ((Tryz.prog.info? 40).map (·.size) = some (ds : Array Value).size) := Lib.hid (by rw [hD.size]; kernel_rfl)
    have HSA8 : Hid ((zeroSt : Array Value).size = (cs : Array Value).size) := Lib.hid (by rw [hS.size]; rfl)
    have HSB8 : Hid ((zeroWd : Array Value).size = (ds : Array Value).size) := Lib.hid (by rw [hD.size]; rfl)
    have HOA8 : Hid (((cs : Array Value).all fun x => x.oneCell') = true) := Lib.hid hS.one
    have HOB8 : Hid (((ds : Array Value).all fun x => x.oneCell') = true) := Lib.hid hD.one
    clear hwA hw8 kA kB bA
    replace kT := kT.below b8 kT.lt
    have hb10 := hb9.trans (b8.mono hb9.size)
    have hS8 := hS.below b8
    have hD8 := hD.below b8
    clear hS hD hb9 b8
    obtain ⟨va, va', ecs, ⟨o1, c1, rfl, hA, hle, _, _⟩, ⟨o1', c1', rfl, hA', _, _, _⟩⟩ := hS8
    obtain ⟨da, db, dc, eds, ⟨o2, c2, rfl, hB, _, _, _⟩, _, ⟨o3, c3, rfl, hB', _, _, _⟩⟩ := hD8
    obtain ⟨n1, hn1⟩ : ∃ x, P1.tk.length = x := ⟨_, rfl⟩
    obtain ⟨m1, hm1⟩ : ∃ x, P1.hd.length = x := ⟨_, rfl⟩
    have hmost := HI1.out.most
    have hmh := HI1.out.heads
    have hsz := HI1.out.szq
    rw [hn1] at ecs eds hmost hmh hle
    rw [hm1] at ecs eds hmh
    obtain ⟨k, hk⟩ : ∃ k, nearN q n1 = k := ⟨_, rfl⟩
    have hkn : k ≤ n1 := by rw [← hk]; exact nearN_le q n1
    have hkk := nearN_int q n1
    rw [hk] at hkk
    obtain ⟨L0, hL0⟩ : ∃ L, prsQ (P1.tk.take k) = L := ⟨_, rfl⟩
    have hL64 : L0.length ≤ 64 := by have := prsQ_len (P1.tk.take k); rw [hL0, List.length_take] at this; omega
    have HL64 := Lib.hid hL64
    clear hL64
    have hFit : FitP L0 := by rw [← hL0]; exact prsQ_fit hsz k
    obtain ⟨SS, hSS⟩ : ∃ L, (P1.tk.take k).map leafQ = L := ⟨_, rfl⟩
    have hssl : SS.length ≤ 64 := by rw [← hSS, List.length_map, List.length_take]; omega
    have HMAP : Hid (∀ W, Below w8.heap.size w8 W → Calls Tryz.prog 15 #[.agg cs, .int .i64 q] W fun e w' => ∃ b, e = .returned (.map (some b)) ∧ W.heap.size ≤ b ∧ MapAt w' b L0 ∧ Below W.heap.size W w') := Lib.hid fun W hW => by
      have := mapS_any o1 n1 c1 (lastW 0 P1) (lastW 1 P1) (lastW 2 P1) (lastW 3 P1) (.slice o1' m1 c1') q P1.tk hn1 hle (by omega) HQ.out.1 hsz W (hA.below hW)
      rw [hk, hL0, ← ecs] at this
      exact this
    have HPRS : Hid (∀ W, Below w8.heap.size w8 W → Calls Tryz.prog 16 #[.agg ds, .int .i64 (k : Int)] W fun e w' => ∃ v, e = .returned v ∧ OwnP w' W.heap.size v (lastK L0 L0.length) ∧ Below W.heap.size W w') := Lib.hid fun W hW => by
      have := rpairsW_any o2 n1 c2 k db (.slice o3 m1 c3) P1.tk hn1 hkn (by omega) W (hB.below hW)
      rw [hL0, ← eds] at this
      exact this
    have HLVS : Hid (∀ W, Below w8.heap.size w8 W → Calls Tryz.prog 18 #[.agg cs, .agg tabV, .int .i64 q] W fun e w' => ∃ v, e = .returned v ∧ Own w' W.heap.size v SS ∧ Below W.heap.size W w') := Lib.hid fun W hW => by
      have := leavesS_any o1 n1 c1 (lastW 0 P1) (lastW 1 P1) (lastW 2 P1) (lastW 3 P1) (.slice o1' m1 c1') q P1.tk hn1 hle (by omega) HQ.out.1 hsz W (hA.below hW)
      rw [hk, hSS, ← ecs] at this
      exact this
    have HLVW : Hid (∀ W, Below w8.heap.size w8 W → Calls Tryz.prog 19 #[.agg ds, .int .i64 (k : Int)] W fun e w' => ∃ v, e = .returned v ∧ Own w' W.heap.size v SS ∧ Below W.heap.size W w') := Lib.hid fun W hW => by
      have := rleavesW_any o2 n1 c2 k db (.slice o3 m1 c3) P1.tk hn1 hkn (by omega) hsz W (hB.below hW)
      rw [hSS, ← eds] at this
      exact this
    have HSAME : Hid (∀ (oa ob : Option Addr) (c c' : Nat) (W : World), Strs W oa SS → Strs W ob SS → Calls Tryz.prog 17 #[.slice oa SS.length c, .slice ob SS.length c'] W fun e w' => e = .returned (.bool true) ∧ Below W.heap.size W w') := Lib.hid fun oa ob c c' W h1 h2 => rsame_eq oa ob SS.length c c' SS rfl (by omega) W h1 h2
    have HHEAD : Hid (∀ W, Below w8.heap.size w8 W → Calls Tryz.prog 20 #[.agg cs, .int .i64 z] W fun e w' => e = .returned (.tuple #[.agg (headAt P1.hd z).1.enc.toArray, .bool (headAt P1.hd z).2]) ∧ Below W.heap.size W w') := Lib.hid fun W hW => by
      have := stHead_any (.slice o1 n1 c1) (lastW 0 P1) (lastW 1 P1) (lastW 2 P1) (lastW 3 P1) o1' m1 c1' P1.hd hm1 (by omega) z HQ.out.2 W (hA'.below hW)
      rw [← ecs] at this
      exact this
    have HLD : Hid (∀ W, Below w8.heap.size w8 W → ((loadVar 37 ⟨w7.heap.size, 0, none⟩).run Tryz.prog W = .ok (.agg cs) W ∧ (loadVar 40 ⟨w7.heap.size + 1, 0, none⟩).run Tryz.prog W = .ok (.agg ds) W ∧ (loadVar 47 ⟨gt, 0, none⟩).run Tryz.prog W = .ok (.agg tabV) W) ∧ (loadVar 28 ⟨w7.heap.size + 1, 0, none⟩).run Tryz.prog W = .ok (.slice o2 n1 c2) W ∧ (loadVar 35 ⟨w7.heap.size + 1, 2, none⟩).run Tryz.prog W = .ok (.slice o3 m1 c3) W) := Lib.hid fun W hW => by
      have k1 := ks.below hW ks.lt
      have k2 := kd.below hW kd.lt
      refine ⟨⟨st_load (by rw [ecs]; exact cellsS_size _ _ _ _ _ _) k1, wd_load (by rw [eds]; rfl) k2, tab_run (kT.below hW kT.lt)⟩, ?_, ?_⟩
      · rw [eds] at k2
        exact sl_req (k2.cell 0)
      · rw [eds] at k2
        exact sl_hd (k2.cell 2)
    have HHD : Hid (∀ i, i < m1 → ∃ g o, o3 = some ⟨g, o, none⟩ ∧ ∀ W, Below w8.heap.size w8 W → (loadVar 67 ⟨g, o + i * 5, none⟩).run Tryz.prog W = .ok (.agg (P1.hd.getD i default).enc.toArray) W) := Lib.hid fun i h => by
      rw [← hm1] at h
      obtain ⟨g, o, h1, _⟩ := hd_at hB' (i := i) h
      refine ⟨g, o, h1, fun W hW => ?_⟩
      have := hB'.below hW
      rw [h1] at this
      exact RowG.load hdOk this (by rw [List.getD_eq_getElem?_getD, List.getElem?_eq_getElem h]; rfl)
    have HHI := Lib.hid (head_is P1.hd z)
    rw [hm1] at HHI
    have hm64 : m1 ≤ 64 := by omega
    have hn64 : n1 ≤ 64 := hmost
    have HFT := Lib.hid hFit
    have HSL := Lib.hid hssl
    have HM1 := Lib.hid hm1
    have HFC : Hid (∀ W, Below w8.heap.size w8 W → Below w.heap.size w W) := Lib.hid fun W hW => hb10.trans (hW.mono hb10.size)
    have HKS := Lib.hid hkn
    clear kT hA hA' hB hB' hFit hssl hL0 hSS hk hn1 hm1 hsz hmost hmh hle hkn hb10 HD1 HMK HF1 HR1 HSM HI1 ks kd ecs eds
    have hc0 := Below.refl w8.heap.size w8
    obtain ⟨⟨l0, l1, l2⟩, l3, l4⟩ := HLD.out w8 hc0
    go_wp2_with (first
      | rw [HWA8.out]
      | (refine wpList_store_row rfl 37 _ _ rfl w7.heap.size cs rfl rfl 37 zeroSt HKA8.out HIA8.out HSA8.out HOA8.out ?_)
      | (refine wpList_store_row rfl 40 _ _ rfl (w7.heap.size + 1) ds rfl rfl 40 zeroWd (Blk.setRow HKB8.out (by omega) _) HIB8.out HSB8.out HOB8.out ?_; rw [HW8.out]))
    clear HWA8 HW8 HKA8 HKB8 HIA8 HIB8 HSA8 HSB8 HOA8 HOB8 zs8 zw8
    refine (HMAP.out _ hc0).mono ?_
    rintro e w9 ⟨gm, rfl, hgm, hmap, hb9⟩
    have hc1 := hc0.trans (hb9.mono hc0.size)
    clear hc0 l0 l1 l2 l3 l4 hb9 hkk
    obtain ⟨⟨l0, l1, l2⟩, l3, l4⟩ := HLD.out w9 hc1
    go_wp2_with fail
    refine (HPRS.out _ hc1).mono ?_
    rintro e w10 ⟨v, rfl, hP, hb10⟩
    obtain ⟨LL, hLL⟩ : ∃ L, lastK L0 L0.length = L := ⟨_, rfl⟩
    have HLK : Hid (∀ i (h : i < LL.length), LL[i].1.size ≤ 250 ∧ lookP L0 LL[i].1 = some LL[i].2) := Lib.hid (by subst hLL; exact fun i h => pair_look HFT.out h)
    have hll : LL.length ≤ 1000000 := by have h1 := lastK_len L0 L0.length; have h2 := HL64.out; rw [hLL] at h1; omega
    rw [hLL] at hP
    obtain ⟨op, cp, rfl, _, hPr⟩ := hP.form
    obtain ⟨nl, hnl⟩ : ∃ x, LL.length = x := ⟨_, rfl⟩
    have HNL := Lib.hid hnl
    have hm10 := hmap.below hb10
    have HML : Hid (∀ W, Below w10.heap.size w10 W → ∀ ty, (Builtin.len_ #[55] ty #[.map (some gm)]).run Tryz.prog W = .ok (.int .i64 (nl : Int)) W) := Lib.hid fun W hW ty => by
      have := map_len (hm10.below hW) ty
      rw [hLL, hnl] at this
      exact this
    have HMA : Hid (∀ W, Below w10.heap.size w10 W → MapAt W gm L0) := Lib.hid fun W hW => hm10.below hW
    have HPR : Hid (∀ W, Below w10.heap.size w10 W → Prs W op LL) := Lib.hid fun W hW => hPr.below hW
    have hc2 := hc1.trans (hb10.mono hc1.size)
    rw [hnl] at hll
    simp only [hnl]
    clear hc1 l0 l1 l2 l3 l4 hb10 hmap hm10 hP hPr hLL hnl hgm
    have HC2 := Lib.hid hc2
    have HST : Hid (∀ W, Below w10.heap.size w10 W → Below w8.heap.size w8 W) := Lib.hid fun W hW => HC2.out.trans (hW.mono HC2.out.size)
    have HKP : Hid (∀ W, Below w10.heap.size w10 W → ((loadVar 37 ⟨w7.heap.size, 0, none⟩).run Tryz.prog W = .ok (.agg cs) W ∧ (loadVar 40 ⟨w7.heap.size + 1, 0, none⟩).run Tryz.prog W = .ok (.agg ds) W ∧ (loadVar 47 ⟨gt, 0, none⟩).run Tryz.prog W = .ok (.agg tabV) W) ∧ (∀ ty, (Builtin.len_ #[55] ty #[.map (some gm)]).run Tryz.prog W = .ok (.int .i64 (nl : Int)) W) ∧ Below w10.heap.size w10 W) := Lib.hid fun W hW => ⟨(HLD.out W (HST.out W hW)).1, HML.out W hW, hW⟩
    go_upto_region 10 with fail
    have hE0 : Below w10.heap.size w10 w10.drew := (Below.refl _ _).drew
    refine wp_region_held_drew (S := fun W => ((loadVar 37 ⟨w7.heap.size, 0, none⟩).run Tryz.prog W = .ok (.agg cs) W ∧ (loadVar 40 ⟨w7.heap.size + 1, 0, none⟩).run Tryz.prog W = .ok (.agg ds) W ∧ (loadVar 47 ⟨gt, 0, none⟩).run Tryz.prog W = .ok (.agg tabV) W) ∧ (∀ ty, (Builtin.len_ #[55] ty #[.map (some gm)]).run Tryz.prog W = .ok (.int .i64 (nl : Int)) W) ∧ Below w10.heap.size w10 W) (by kernel_rfl) ?_ (fun hHeld0 => ?_)
    · (refine HKP.out _ ?_; first | exact hE3 | exact hE2 | exact hE1 | exact hE0)
    apply takeH (i := 0) rfl (by kernel_rfl) (by kernel_rfl) (by kernel_rfl) (fun _ _ _ h => h) (by rfl)
    case hy => (intro w hSw; (try dsimp only at hSw); go_simp; try with_reducible rfl)
    case hS => assumption
    (try simp only [Act.put, List.setIfInBounds_toArray, List.set_cons_zero, List.set_cons_succ])
    apply takeH (i := 1) rfl (by kernel_rfl) (by kernel_rfl) (by kernel_rfl) (fun _ _ _ h => h) (by rfl)
    case hy => (intro w hSw; (try dsimp only at hSw); go_simp; try with_reducible rfl)
    case hS => assumption
    (try simp only [Act.put, List.setIfInBounds_toArray, List.set_cons_zero, List.set_cons_succ])
    apply takeH (i := 2) rfl (by kernel_rfl) (by kernel_rfl) (by kernel_rfl) (fun _ _ _ h => h) (by rfl)
    case hy => (intro w hSw; (try dsimp only at hSw); go_simp; try with_reducible rfl)
    case hS => assumption
    (try simp only [Act.put, List.setIfInBounds_toArray, List.set_cons_zero, List.set_cons_succ])
    apply takeH (i := 4) rfl (by kernel_rfl) (by kernel_rfl) (by kernel_rfl) (fun _ _ _ h => h) (by rfl)
    case hy => (intro w hSw; (try dsimp only at hSw); go_simp; try with_reducible rfl)
    case hS => assumption
    (try simp only [Act.put, List.setIfInBounds_toArray, List.set_cons_zero, List.set_cons_succ])
    apply takeH (i := 5) rfl (by kernel_rfl) (by kernel_rfl) (by kernel_rfl) (fun _ _ _ h => h) (by rfl)
    case hy => (intro w hSw; (try dsimp only at hSw); go_simp; try with_reducible rfl)
    case hS => assumption
    (try simp only [Act.put, List.setIfInBounds_toArray, List.set_cons_zero, List.set_cons_succ])
    refine doH (i := 3) rfl (by kernel_rfl) (by rfl) (fun K hK => ?_)
    go_simp
    go_at_call 18
    refine (HLVS.out _ (HST.out _ hE0)).mono ?_
    rintro e y1 ⟨v1, rfl, hO1, hy1⟩
    have hE1 : Below w10.heap.size w10 y1 := hE0.trans (hy1.mono hE0.size)
    obtain ⟨oq1, cq1, rfl, hs1⟩ := hO1.form
    clear hO1
    go_wp2_with fail
    refine hK.out _ _ ?_ (fun hHeld3 => ?_)
    · (refine HKP.out _ ?_; first | exact hE3 | exact hE2 | exact hE1 | exact hE0)
    clear hK K hHeld0
    (try simp only [Act.put, List.setIfInBounds_toArray, List.set_cons_zero, List.set_cons_succ])
    refine doH (i := 6) rfl (by kernel_rfl) (by rfl) (fun K hK => ?_)
    go_simp
    go_at_call 19
    refine (HLVW.out _ (HST.out _ hE1)).mono ?_
    rintro e y2 ⟨v2, rfl, hO2, hy2⟩
    have hE2 : Below w10.heap.size w10 y2 := hE1.trans (hy2.mono hE1.size)
    obtain ⟨oq2, cq2, rfl, hs2⟩ := hO2.form
    replace hs1 := hs1.below hy2
    clear hO2
    go_wp2_with fail
    refine hK.out _ _ ?_ (fun hHeld6 => ?_)
    · (refine HKP.out _ ?_; first | exact hE3 | exact hE2 | exact hE1 | exact hE0)
    clear hK K hHeld3
    (try simp only [Act.put, List.setIfInBounds_toArray, List.set_cons_zero, List.set_cons_succ])
    refine doH (i := 7) rfl (by kernel_rfl) (by rfl) (fun K hK => ?_)
    go_simp
    go_at_call 17
    refine (HSAME.out oq1 oq2 cq1 cq2 _ hs1 hs2).mono ?_
    rintro e y3 ⟨rfl, hy3⟩
    have hE3 : Below w10.heap.size w10 y3 := hE2.trans (hy3.mono hE2.size)
    go_wp2_with fail
    refine hK.out _ _ ?_ (fun hHeld7 => ?_)
    · (refine HKP.out _ ?_; first | exact hE3 | exact hE2 | exact hE1 | exact hE0)
    clear hK K hHeld6
    (try simp only [Act.put, List.setIfInBounds_toArray, List.set_cons_zero, List.set_cons_succ])
    apply takeH (i := 8) rfl (by kernel_rfl) (by kernel_rfl) (by kernel_rfl) (fun _ _ _ h => h) (by rfl)
    case hy => (intro w hSw; (try dsimp only at hSw); go_simp; try with_reducible rfl)
    case hS => assumption
    (try simp only [Act.put, List.setIfInBounds_toArray, List.set_cons_zero, List.set_cons_succ])
    apply takeH (i := 9) rfl (by kernel_rfl) (by kernel_rfl) (by kernel_rfl) (fun _ _ _ h => h) (by rfl)
    case hy => (intro w hSw; (try dsimp only at hSw); go_simp; try with_reducible rfl)
    case hS => assumption
    (try simp only [Act.put, List.setIfInBounds_toArray, List.set_cons_zero, List.set_cons_succ])
    apply takeH (i := 10) rfl (by kernel_rfl) (by kernel_rfl) (by kernel_rfl) (fun _ _ _ h => h) (by rfl)
    case hy => (intro w hSw; (try dsimp only at hSw); go_simp; try with_reducible rfl)
    case hS => assumption
    (try simp only [Act.put, List.setIfInBounds_toArray, List.set_cons_zero, List.set_cons_succ])
    apply takeH (i := 11) rfl (by kernel_rfl) (by kernel_rfl) (by kernel_rfl) (fun _ _ _ h => h) (by rfl)
    case hy => (intro w hSw; (try dsimp only at hSw); go_simp; try with_reducible rfl)
    case hS => assumption
    (try simp only [Act.put, List.setIfInBounds_toArray, List.set_cons_zero, List.set_cons_succ])
    apply takeH (i := 12) rfl (by kernel_rfl) (by kernel_rfl) (by kernel_rfl) (fun _ _ _ h => h) (by rfl)
    case hy => (intro w hSw; (try dsimp only at hSw); go_simp; try with_reducible rfl)
    case hS => assumption
    (try simp only [Act.put, List.setIfInBounds_toArray, List.set_cons_zero, List.set_cons_succ])
    apply takeH (i := 13) rfl (by kernel_rfl) (by kernel_rfl) (by kernel_rfl) (fun _ _ _ h => h) (by rfl)
    case hy => (intro w hSw; (try dsimp only at hSw); go_simp; try with_reducible rfl)
    case hS => assumption
    (try simp only [Act.put, List.setIfInBounds_toArray, List.set_cons_zero, List.set_cons_succ])
    apply takeH (i := 14) rfl (by kernel_rfl) (by kernel_rfl) (by kernel_rfl) (fun _ _ _ h => h) (by rfl)
    case hy => (intro w hSw; (try dsimp only at hSw); go_simp; try with_reducible rfl)
    case hS => assumption
    (try simp only [Act.put, List.setIfInBounds_toArray, List.set_cons_zero, List.set_cons_succ])
    apply takeH (i := 15) rfl (by kernel_rfl) (by kernel_rfl) (by kernel_rfl) (fun _ _ _ h => h) (by rfl)
    case hy => (intro w hSw; (try dsimp only at hSw); go_simp; try with_reducible rfl)
    case hS => assumption
    (try simp only [Act.put, List.setIfInBounds_toArray, List.set_cons_zero, List.set_cons_succ])
    refine wpAnyH_done (by kernel_rfl) ?_ _
    clear hs1 hs2 hy1 hy2 hy3 hE2 hE1 hE0 hc2
    go_wp2_with fail
    go_loopw [14] (fun i wr => ∃ t : Nat, t ≤ nl ∧ i = .int .i64 t ∧ Below w10.heap.size w10 wr) (fun i _ => nl - (intOf i).toNat)
    case atStart => exact ⟨0, by omega, rfl, hE3⟩
    case round =>
      clear hE3
      obtain ⟨t, ht, rfl, hW⟩ := hrel
      by_cases hlt : t < nl
      · have hlt' : (t : Int) < (nl : Int) := by omega
        have hPW := HPR.out wr hW
        have hlL : t < LL.length := by rw [HNL.out]; exact hlt
        obtain ⟨hk1, hk2⟩ := HLK.out t hlL
        rcases hPW with h0 | ⟨g, o, rfl, hgl, hcell⟩
        · rw [h0] at hlL; exact absurd hlL (by simp)
        obtain ⟨c0, c1⟩ := hcell t hlL
        have d0 := txt_load c0
        have d1 := txt_load c1
        have dk := view_look (HMA.out wr hW) LL[t].1 LL[t].2 hk1 hk2
        generalize LL[t].1 = kx at *
        generalize LL[t].2 = vx at *
        clear hk1 hk2 hcell c0 c1 hgl
        go_wp2_with fail
        go_roundw
        case rel => exact ⟨t + 1, by omega, by go_num, hW⟩
        case measure => simp [intOf]; omega
      · obtain rfl : nl = t := by omega
        have hlt' : ¬ (nl : Int) < (nl : Int) := by omega
        have hW8 := HST.out wr hW
        obtain ⟨⟨l0, l1, l2⟩, l3, l4⟩ := HLD.out wr hW8
        have hfc := HFC.out wr hW8
        clear l1 l2 l3 l4
        go_wp2_with fail
        refine (HHEAD.out _ hW8).mono ?_
        rintro e w11 ⟨rfl, hb11⟩
        have hW9 := hW8.trans (hb11.mono hW8.size)
        have hfd := hfc.trans (hb11.mono hfc.size)
        clear l0 hW8 hb11 hfc hW hlt hlt'
        have hzh : ∀ W : World, (zeroValue 67).run Tryz.prog W = .ok (.agg #[.int .i64 0, .int .i64 0, .int .i64 0, .string ⟨#[]⟩, .string ⟨#[]⟩]) W := fun W => by kernel_rfl
        obtain ⟨gh, hgh⟩ : ∃ gh, w11.heap.size = gh := ⟨_, rfl⟩
        obtain ⟨wA, hwA⟩ : ∃ x, w11.alloc (.cells #[.int .i64 0, .int .i64 0, .int .i64 0, .string ⟨#[]⟩, .string ⟨#[]⟩] 67) = x := ⟨_, rfl⟩
        have kA : Blk wA gh 67 zeroHd := by rw [← hwA, ← hgh]; exact Blk.new _ _ _
        have bA : Below w11.heap.size w11 wA := by rw [← hwA]; exact (Below.refl _ w11).alloc (Nat.le_refl _) _
        rcases HHI.out with ⟨hz1, hz2, i, hi, rfl, hx⟩ | ⟨hz1, hx⟩
        · rw [hx]
          obtain ⟨g, o, rfl, hld⟩ := HHD.out i hi
          generalize P1.hd.getD i default = X at *
          obtain ⟨xq, xz, xt, xr, xm⟩ := X
          change ∀ W, Below w8.heap.size w8 W → (loadVar 67 ⟨g, o + i * 5, none⟩).run Tryz.prog W = .ok (.agg #[.int .i64 xq, .int .i64 xz, .int .i64 xt, .string xr, .string xm]) W at hld
          have HLH := Lib.hid hld
          clear hld hx hz1 hz2
          unfold Hd.enc
          have t1 : ¬ ((i : Int) + 1 < 1) := by omega
          have t2 : ¬ ((m1 : Int) < (i : Int) + 1) := by omega
          have e1 : (i : Int) + 1 - 1 = (i : Int) := by omega
          have e2 : IntKind.i64.wrap (i : Int) = (i : Int) := by rw [IntKind.wrap_i64]; omega
          have e3 : (i : Int) < (m1 : Int) := by omega
          have e4 : (0 : Int) ≤ (i : Int) := by omega
          obtain ⟨wh, hwh⟩ : ∃ x, wA.setRow gh #[.int .i64 xq, .int .i64 xz, .int .i64 xt, .string xr, .string xm] = x := ⟨_, rfl⟩
          have kh : Blk wh gh 67 #[.int .i64 xq, .int .i64 xz, .int .i64 xt, .string xr, .string xm] := by rw [← hwh]; exact setRow_heap wA _ zeroHd #[.int .i64 xq, .int .i64 xz, .int .i64 xt, .string xr, .string xm] 67 (0, 0) kA
          have bh : Below w11.heap.size w11 wh := by rw [← hwh]; exact bA.grown (only_setRow (grown_refl wA (some gh)) _) bA.size (fun k hk => by injection hk; omega)
          have hWh := hW9.trans (bh.mono hW9.size)
          have hfe := hfd.trans (bh.mono hfd.size)
          have HWA := Lib.hid hwA
          have HWH := Lib.hid hwh
          have HKA := Lib.hid kA
          have HGH := Lib.hid hgh
          have HB := Lib.hid hWh
          have HFE := Lib.hid hfe
          have q0 := head_load5 kh
          have HKH := Lib.hid kh
          have q1 := (HLD.out wh hWh).2.2
          clear hwh hwA kA hgh bA bh hW9 hfd hWh hfe kh
          go_wp2_with (first
            | rw [HGH.out, HWA.out]
            | rw [HWA.out, HGH.out]
            | rw [HWA.out]
            | (refine wpList_store_row rfl 67 _ _ rfl gh #[.int .i64 xq, .int .i64 xz, .int .i64 xt, .string xr, .string xm] rfl rfl 67 zeroHd HKA.out info5 rfl (hd_one _ _ _ _ _) ?_; rw [HWH.out]))
          have HS9 : Hid ((fun W => (loadVar 67 ⟨gh, 0, none⟩).run Tryz.prog W = .ok (.agg #[.int .i64 xq, .int .i64 xz, .int .i64 xt, .string xr, .string xm]) W ∧ (loadVar 35 ⟨w7.heap.size + 1, 2, none⟩).run Tryz.prog W = .ok (.slice (some ⟨g, o, none⟩) m1 c3) W ∧ (loadVar 67 ⟨g, o + i * 5, none⟩).run Tryz.prog W = .ok (.agg #[.int .i64 xq, .int .i64 xz, .int .i64 xt, .string xr, .string xm]) W) wh.drew) := Lib.hid ⟨head_load5 HKH.out.drew, (HLD.out _ HB.out.drew).2.2, HLH.out _ HB.out.drew⟩
          clear q0 q1
          refine wp_region_held_drew (S := fun W => (loadVar 67 ⟨gh, 0, none⟩).run Tryz.prog W = .ok (.agg #[.int .i64 xq, .int .i64 xz, .int .i64 xt, .string xr, .string xm]) W ∧ (loadVar 35 ⟨w7.heap.size + 1, 2, none⟩).run Tryz.prog W = .ok (.slice (some ⟨g, o, none⟩) m1 c3) W ∧ (loadVar 67 ⟨g, o + i * 5, none⟩).run Tryz.prog W = .ok (.agg #[.int .i64 xq, .int .i64 xz, .int .i64 xt, .string xr, .string xm]) W) (by kernel_rfl) ?_ (fun hHeld0 => ?_)
          · exact HS9.out
          apply takeH (i := 0) rfl (by kernel_rfl) (by kernel_rfl) (by kernel_rfl) (fun _ _ _ h => h) (by rfl)
          case hy => (intro w hSw; (try dsimp only at hSw); go_simp; try with_reducible rfl)
          case hS => assumption
          (try simp only [Act.put, List.setIfInBounds_toArray, List.set_cons_zero, List.set_cons_succ])
          apply takeH (i := 1) rfl (by kernel_rfl) (by kernel_rfl) (by kernel_rfl) (fun _ _ _ h => h) (by rfl)
          case hy => (intro w hSw; (try dsimp only at hSw); go_simp; try with_reducible rfl)
          case hS => assumption
          (try simp only [Act.put, List.setIfInBounds_toArray, List.set_cons_zero, List.set_cons_succ])
          apply takeH (i := 2) rfl (by kernel_rfl) (by kernel_rfl) (by kernel_rfl) (fun _ _ _ h => h) (by rfl)
          case hy => (intro w hSw; (try dsimp only at hSw); go_simp; try with_reducible rfl)
          case hS => assumption
          (try simp only [Act.put, List.setIfInBounds_toArray, List.set_cons_zero, List.set_cons_succ])
          apply takeH (i := 3) rfl (by kernel_rfl) (by kernel_rfl) (by kernel_rfl) (fun _ _ _ h => h) (by rfl)
          case hy => (intro w hSw; (try dsimp only at hSw); go_simp; try with_reducible rfl)
          case hS => assumption
          (try simp only [Act.put, List.setIfInBounds_toArray, List.set_cons_zero, List.set_cons_succ])
          apply takeH (i := 4) rfl (by kernel_rfl) (by kernel_rfl) (by kernel_rfl) (fun _ _ _ h => h) (by rfl)
          case hy => (intro w hSw; (try dsimp only at hSw); go_simp; try with_reducible rfl)
          case hS => assumption
          (try simp only [Act.put, List.setIfInBounds_toArray, List.set_cons_zero, List.set_cons_succ])
          apply takeH (i := 5) rfl (by kernel_rfl) (by kernel_rfl) (by kernel_rfl) (fun _ _ _ h => h) (by rfl)
          case hy => (intro w hSw; (try dsimp only at hSw); go_simp; try with_reducible rfl)
          case hS => assumption
          (try simp only [Act.put, List.setIfInBounds_toArray, List.set_cons_zero, List.set_cons_succ])
          apply takeH (i := 6) rfl (by kernel_rfl) (by kernel_rfl) (by kernel_rfl) (fun _ _ _ h => h) (by rfl)
          case hy => (intro w hSw; (try dsimp only at hSw); go_simp; try with_reducible rfl)
          case hS => assumption
          (try simp only [Act.put, List.setIfInBounds_toArray, List.set_cons_zero, List.set_cons_succ])
          apply takeH (i := 7) rfl (by kernel_rfl) (by kernel_rfl) (by kernel_rfl) (fun _ _ _ h => h) (by rfl)
          case hy => (intro w hSw; (try dsimp only at hSw); go_simp; try with_reducible rfl)
          case hS => assumption
          (try simp only [Act.put, List.setIfInBounds_toArray, List.set_cons_zero, List.set_cons_succ])
          apply takeH (i := 8) rfl (by kernel_rfl) (by kernel_rfl) (by kernel_rfl) (fun _ _ _ h => h) (by rfl)
          case hy => (intro w hSw; (try dsimp only at hSw); go_simp; try with_reducible rfl)
          case hS => assumption
          (try simp only [Act.put, List.setIfInBounds_toArray, List.set_cons_zero, List.set_cons_succ])
          apply takeH (i := 9) rfl (by kernel_rfl) (by kernel_rfl) (by kernel_rfl) (fun _ _ _ h => h) (by rfl)
          case hy => (intro w hSw; (try dsimp only at hSw); go_simp; try with_reducible rfl)
          case hS => assumption
          (try simp only [Act.put, List.setIfInBounds_toArray, List.set_cons_zero, List.set_cons_succ])
          apply takeH (i := 10) rfl (by kernel_rfl) (by kernel_rfl) (by kernel_rfl) (fun _ _ _ h => h) (by rfl)
          case hy => (intro w hSw; (try dsimp only at hSw); go_simp; try with_reducible rfl)
          case hS => assumption
          (try simp only [Act.put, List.setIfInBounds_toArray, List.set_cons_zero, List.set_cons_succ])
          apply takeH (i := 11) rfl (by kernel_rfl) (by kernel_rfl) (by kernel_rfl) (fun _ _ _ h => h) (by rfl)
          case hy => (intro w hSw; (try dsimp only at hSw); go_simp; try with_reducible rfl)
          case hS => assumption
          (try simp only [Act.put, List.setIfInBounds_toArray, List.set_cons_zero, List.set_cons_succ])
          refine wpAnyH_done (by kernel_rfl) ?_ _
          go_wp2_with fail
          go_ret
          exact ⟨rfl, HFE.out.drew⟩
        · rw [hx]
          clear hx
          unfold Hd.enc
          rcases (by omega : z < 1 ∨ (¬ z < 1 ∧ (m1 : Int) < z)) with t1 | ⟨t1, t2⟩
          all_goals
            clear hz1
            obtain ⟨wh, hwh⟩ : ∃ x, wA.setRow gh #[.int .i64 0, .int .i64 0, .int .i64 0, .string ⟨#[]⟩, .string ⟨#[]⟩] = x := ⟨_, rfl⟩
            have kh : Blk wh gh 67 #[.int .i64 0, .int .i64 0, .int .i64 0, .string ⟨#[]⟩, .string ⟨#[]⟩] := by rw [← hwh]; exact setRow_heap wA _ zeroHd #[.int .i64 0, .int .i64 0, .int .i64 0, .string ⟨#[]⟩, .string ⟨#[]⟩] 67 (0, 0) kA
            have bh : Below w11.heap.size w11 wh := by rw [← hwh]; exact bA.grown (only_setRow (grown_refl wA (some gh)) _) bA.size (fun k hk => by injection hk; omega)
            have hWh := hW9.trans (bh.mono hW9.size)
            have hfe := hfd.trans (bh.mono hfd.size)
            have HWA := Lib.hid hwA
            have HWH := Lib.hid hwh
            have HKA := Lib.hid kA
            have HGH := Lib.hid hgh
            have HB := Lib.hid hWh
            have HFE := Lib.hid hfe
            have q0 := head_load5 kh
            have HKH := Lib.hid kh
            have q1 := (HLD.out wh hWh).2.2
            clear hwh hwA kA hgh bA bh hW9 hfd hWh hfe kh
            go_wp2_with (first
              | rw [HGH.out, HWA.out]
              | rw [HWA.out, HGH.out]
              | rw [HWA.out]
              | (refine wpList_store_row rfl 67 _ _ rfl gh #[.int .i64 0, .int .i64 0, .int .i64 0, .string ⟨#[]⟩, .string ⟨#[]⟩] rfl rfl 67 zeroHd HKA.out info5 rfl (hd_one _ _ _ _ _) ?_; rw [HWH.out]))
            go_wp2_with fail
            go_ret
            exact ⟨rfl, HFE.out⟩
end
end Go.Proofs.YtjmjkcgldencoaaGreat

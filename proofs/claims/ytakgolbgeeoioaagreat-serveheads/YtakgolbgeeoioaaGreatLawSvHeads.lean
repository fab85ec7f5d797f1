/-
 The law ServeHeads.
-/
import Derived.Test.YtakgolbgeeoioaaGreatSvFindSNilSvValSvAnsSvAw
import Derived.Test.YtakgolbgeeoioaaGreatYDo
import Derived.Test.YtakgolbgeeoioaaGreatWMath
import Derived.Deep.WholeRow
namespace Go.Proofs.YtakgolbgeeoioaaGreat
open Go.RowKit

/-- what ReadHead answers of whatever bytes -/
theorem rd_form (s : ByteArray) : ∃ a b c r m f, rdHead s = #[.agg #[.int .i64 a, .int .i64 b, .int .i64 c, .string r, .string m], .int .i64 f] := by
 unfold rdHead
 split
 · exact ⟨_, _, _, _, _, _, rfl⟩
 · exact ⟨_, _, _, _, _, _, rfl⟩
/-- a head that is there is read as it is, if its time may be written -/
theorem rd_head {W : Wd} (hi : InvW W) {j : Nat} (hj : j < W.hd.length) (ht : W.hd[j].t ≤ 2147483647) : rdHead (hdB1 W.hd[j]) = #[.agg #[.int .i64 W.hd[j].q, .int .i64 W.hd[j].z, .int .i64 W.hd[j].t, .string W.hd[j].r, .string W.hd[j].m], .int .i64 0] := by
 have hx : W.hd.getD j default = W.hd[j] := by rw [List.getD_eq_getElem?_getD, List.getElem?_eq_getElem hj]; rfl
 have i1 := hi.hq j hj
 have i2 := hi.least (j + 1) (by omega)
 have i3 := hi.zle (W.hd.length - (j + 1)) (j + 1) (by omega)
 have i4 := hi.ht j hj
 have i5 := hi.tpos j (by omega)
 have i6 := hi.roots _ (List.getElem_mem hj)
 have i7 := hi.most
 have i8 : zN W.hd (j + 1) = W.hd[j].z := by rw [← hx]; rfl
 have i9 := hi.heads
 rw [hx] at i1 i4
 exact rdHead_right (by unfold rheadB; rw [decide_eq_true_iff]; omega)
/-- the answer of a head that is there -/
theorem ans_head {hd : List Hd} {j : Nat} (hj : j < hd.length) {s : ByteArray} {n : Int} (h : AnsH hd ((j : Int) + 1) s n) : n = 0 ∧ s = hdB1 hd[j] := by
 have e : headAt hd ((j : Int) + 1) = (hd[j], true) := by
  unfold headAt
  rw [if_pos (by omega), show ((j : Int) + 1).toNat - 1 = j by omega, List.getD_eq_getElem?_getD, List.getElem?_eq_getElem hj]
  rfl
 unfold AnsH at h
 rw [e, if_pos rfl] at h
 exact h
theorem ans_any {hd : List Hd} {q : Int} {s : ByteArray} {n : Int} (h : AnsH hd q s n) : (n = 0 ∧ 1 ≤ q ∧ q ≤ hd.length) ∨ (n = 5 ∧ (q < 1 ∨ (1 ≤ q ∧ (hd.length : Int) < q))) := by
 unfold AnsH at h
 cases hc : (headAt hd q).2 with
 | true =>
  obtain ⟨j, hj, hq, _⟩ := headAt_yes hc
  rw [if_pos hc] at h
  exact .inl ⟨h.1, by omega, by omega⟩
 | false =>
  have := (headAt_no hc).2
  rw [if_neg (by rw [hc]; decide)] at h
  exact .inr ⟨h.1, by omega⟩
section
attribute [-go_sem] loadVar
set_option maxRecDepth 100000 in
set_option maxHeartbeats 4000000 in
theorem law_sheads (oa : Option Addr) (n cap : Nat) (os : List OpR) (hl : os.length = n) (_ : n ≤ cap) (_ : n ≤ 9223372036854775807) (hb : ∀ x ∈ os, BndO x) (q : Int) (hq : -9223372036854775808 ≤ q ∧ q ≤ 9223372036854775807) (w : World) (hr : RowG opK w oa os) :
 Calls Tryz.prog 3 #[.slice oa n cap, .int .i64 q] w fun e w' => e = .returned (.bool true) ∧ Below w.heap.size w w' := by
 have HAW := Lib.hid (fun W => awake13_any W)
 have HMK := Lib.hid (fun W => make_std W)
 have HF1 := Lib.hid (fun W (hW : Below w.heap.size w W) => rfewO_any oa n cap 25 os hl (by decide) W (hr.below hW))
 have HR1 := Lib.hid (show ∀ W e w', RFewO n 25 os W e w' = ((∃ b, e = .returned (.bool b) ∧ (b = true → n ≤ 25 ∧ ∀ x ∈ os, smallB x.r = true)) ∧ Below W.heap.size W w') from fun _ _ _ => rfl)
 obtain ⟨P1, hP1⟩ : ∃ P, playW os = P := ⟨_, rfl⟩
 have HD1 : Hid (∀ W, Below w.heap.size w W → n ≤ 25 → (∀ x ∈ os, smallB x.r = true) → Calls Tryz.prog 10 #[.agg tabV, .slice oa n cap] W fun e w' => ∃ cs ds, e = .returned (.tuple #[.agg cs, .agg ds, .bool true]) ∧ StC w' (geP W.heap.size) cs P1 ∧ WdC w' (geP W.heap.size) ds P1 ∧ Below W.heap.size W w') := Lib.hid fun W hW h1 h2 => by
  rw [← hP1]
  exact do_any oa n cap os hl (by omega) h2 (by assumption) W (hr.below hW)
 have HI1 : Hid (InvW P1) := Lib.hid (by rw [← hP1]; exact InvW.play os)
 clear hr hP1 hb
 go_enter Tryz.func3, Tryz.ntmps3
 go_wp2_with fail
 refine (HAW.out _).mono ?_
 rintro e w1 ⟨rfl, hb1⟩
 go_wp2_with fail
 refine (HF1.out _ hb1).mono ?_
 rintro e w2 he
 rw [HR1.out] at he
 obtain ⟨⟨b, rfl, hbt⟩, hbf⟩ := he
 have hb2 := hb1.trans (hbf.mono hb1.size)
 clear hbf
 cases b with
 | false =>
  clear hbt
  go_wp2_with fail
  refine (HAW.out _).mono ?_
  rintro e w52 ⟨rfl, hb52⟩
  have hx52 := hb2.trans (hb52.mono hb2.size)
  go_wp2
  go_ret
  exact ⟨rfl, hx52⟩
 | true =>
  obtain ⟨hn1, hs1⟩ := hbt rfl
  clear hbt
  go_wp2_with fail
  refine (HMK.out _).mono ?_
  rintro e wm ⟨rfl, hbm⟩
  have hbn := hb2.trans (hbm.mono hb2.size)
  have hl3 := tab_run (Blk.new wm 29 tabV)
  go_wp2_with (refine wpList_store_row rfl 29 _ _ rfl wm.heap.size tabV rfl rfl 29 zero72 (Blk.new _ _ _) (by rw [tabV_size]; exact infoTable) (by kernel_rfl) (by kernel_rfl) ?_; rw [World.setRow_alloc_new])
  have hb5 := hbn.alloc hbn.size (.cells tabV 29)
  have kT : Blk (wm.alloc (.cells tabV 29)) wm.heap.size 29 tabV := Blk.new _ _ _
  clear hbm hbn
  generalize wm.alloc (.cells tabV 29) = w5 at *
  generalize wm.heap.size = gt at *
  refine (HD1.out w5 hb5 hn1 hs1).mono ?_
  rintro e wd ⟨cs, ds, rfl, hS, hD, hbd⟩
  replace kT := kT.below hbd kT.lt
  have hbe := hb5.trans (hbd.mono hb5.size)
  clear hl3
  have zs6 := zeroS
  have zw6 := zeroW
  obtain ⟨wA6, hwA⟩ : ∃ wA, ((wd.alloc (.cells zeroSt 40)).alloc (.cells zeroWd 43)) = wA := ⟨_, rfl⟩
  have bA : Below wd.heap.size wd wA6 := by rw [← hwA]; exact ((Below.refl _ wd).alloc (Nat.le_refl _) _).alloc (by simp) _
  have kA : Blk wA6 wd.heap.size 40 zeroSt := by rw [← hwA]; exact (Blk.new _ _ _).alloc _
  have kB : Blk wA6 (wd.heap.size + 1) 43 zeroWd := by rw [← hwA]; exact Blk.new_at (by simp)
  obtain ⟨w6, hw6⟩ : ∃ x, (wA6.setRow wd.heap.size cs).setRow (wd.heap.size + 1) ds = x := ⟨_, rfl⟩
  have ks : Blk w6 wd.heap.size 40 cs := by rw [← hw6]; exact Blk.setRow (setRow_heap wA6 _ zeroSt cs 40 (0, 0) kA) (by omega) _
  have kw : Blk w6 (wd.heap.size + 1) 43 ds := by rw [← hw6]; exact setRow_heap _ _ zeroWd ds 43 (0, 0) (Blk.setRow kB (by omega) _)
  have b6 : Below wd.heap.size wd w6 := by rw [← hw6]; exact (bA.grown (only_setRow (grown_refl wA6 (some wd.heap.size)) cs) bA.size (fun k hk => by injection hk; omega)).grown (only_setRow (grown_refl _ (some (wd.heap.size + 1))) ds) (by have := bA.size; simp; omega) (fun k hk => by injection hk; omega)
  have HWA6 := Lib.hid hwA
  have HW6 := Lib.hid hw6
  have HKA6 := Lib.hid kA
  have HKB6 := Lib.hid kB
  have HIA6 : Hid ((Tryz.prog.info? 40).map (·.size) = some (cs : Array Value).size) := Lib.hid (by rw [hS.size]; exact infoS)
  have HIB6 : Hid ((Tryz.prog.info? 43).map (·.size) = some (ds : Array Value).size) := Lib.hid (by rw [hD.size]; kernel_rfl)
  have HSA6 : Hid ((zeroSt : Array Value).size = (cs : Array Value).size) := Lib.hid (by rw [hS.size]; rfl)
  have HSB6 : Hid ((zeroWd : Array Value).size = (ds : Array Value).size) := Lib.hid (by rw [hD.size]; rfl)
  have HOA6 : Hid (((cs : Array Value).all fun x => x.oneCell') = true) := Lib.hid hS.one
  have HOB6 : Hid (((ds : Array Value).all fun x => x.oneCell') = true) := Lib.hid hD.one
  clear hwA hw6 kA kB bA
  replace kT := kT.below b6 kT.lt
  have hb6 := hbe.trans (b6.mono hbe.size)
  have hS6 := hS.below b6
  have hD6 := hD.below b6
  have HAN : Hid (∀ X a, Below w6.heap.size w6 X → (-9223372036854775808 ≤ a ∧ a ≤ 9223372036854775807) → Calls Tryz.prog 11 #[.agg tabV, .agg cs, .agg #[.int .i64 0, .int .i64 a, .int .i64 0, .string ⟨#[]⟩]] X fun e w' => (∃ s n, e = .returned (.tuple #[.string s, .int .i64 n]) ∧ AnsH P1.hd a s n) ∧ Below X.heap.size X w') := Lib.hid fun X a hX ha => by
   refine (answer_any _ cs P1 HI1.out ⟨0, a, 0, ⟨#[]⟩⟩ ha (by show (-9223372036854775808 : Int) ≤ 0 ∧ (0 : Int) ≤ 9223372036854775807; decide) (by show (0 : Nat) ≤ 1073741824; decide) X (hS6.below hX)).mono ?_
   rintro e w' ⟨⟨s, n, he, h⟩, hb⟩
   unfold Ans at h
   rw [if_pos rfl] at h
   exact ⟨⟨s, n, he, h⟩, hb⟩
  obtain ⟨va, vb, hcs, _, ⟨ob, cb, hvb, hH, _, _, _⟩⟩ := hS6
  have HKL : Hid (∀ X, Below w6.heap.size w6 X → (loadVar 29 ⟨gt, 0, none⟩).run Tryz.prog X = .ok (.agg tabV) X ∧ (loadVar 40 ⟨wd.heap.size, 0, none⟩).run Tryz.prog X = .ok (.agg cs) X ∧ (loadVar 38 ⟨wd.heap.size, 21, none⟩).run Tryz.prog X = .ok (.slice ob P1.hd.length cb) X) := Lib.hid fun X hX => by
   have := (ks.below hX ks.lt).cell 21
   rw [hcs, hvb] at this
   exact ⟨tab_run (kT.below hX kT.lt), st_load hS.size (ks.below hX ks.lt), sl_hd this⟩
  have HRD : Hid (∀ j, j < P1.hd.length → ∃ q z t r m a b c r' m' f s, (∀ s' n, AnsH P1.hd ((j : Int) + 1) s' n → n = 0 ∧ s' = s) ∧ (∀ X, Calls Tryz.prog 12 #[.string s] X fun e w' => e = .returned (.tuple #[.agg #[.int .i64 a, .int .i64 b, .int .i64 c, .string r', .string m'], .int .i64 f]) ∧ Below X.heap.size X w') ∧ (t ≤ 2147483647 → f = 0 ∧ a = q ∧ b = z ∧ c = t ∧ r' = r ∧ m' = m) ∧
    ∃ g o, ob = some ⟨g, o, none⟩ ∧ ∀ X, Below w6.heap.size w6 X → (loadVar 51 ⟨g, o + j * 5, none⟩).run Tryz.prog X = .ok (.agg #[.int .i64 q, .int .i64 z, .int .i64 t, .string r, .string m]) X ∧ (loadVar 3 ⟨g, o + j * 5 + 2, none⟩).run Tryz.prog X = .ok (.int .i64 t) X) := Lib.hid fun j hj => by
   obtain ⟨a, b, c, r', m', f, hform⟩ := rd_form (hdB1 P1.hd[j])
   obtain ⟨g, o, h1, hgl, _, _, h2, _⟩ := hd_at hH (i := j) hj
   have hz := HI1.out.roots _ (List.getElem_mem hj)
   refine ⟨P1.hd[j].q, P1.hd[j].z, P1.hd[j].t, P1.hd[j].r, P1.hd[j].m, a, b, c, r', m', f, hdB1 P1.hd[j], fun s' n h => ans_head hj h, fun X => ?_, fun ht => ?_, g, o, h1, fun X hX => ⟨?_, ?_⟩⟩
   · have := readHead_any (hdB1 P1.hd[j]) (by unfold hdB1; rw [headB_size]; omega) X
     rw [hform] at this
     exact this
   · have h3 := rd_head HI1.out hj ht
     rw [hform] at h3
     simp at h3
     exact ⟨h3.2, h3.1⟩
   · have := hH.below hX
     rw [h1] at this
     exact RowG.load hdOk this (List.getElem?_eq_getElem hj)
   · exact num_load ((hX.cell (p := ⟨g, o + j * 5 + 2, none⟩) hgl).trans h2)
  have HAQ : Hid (∀ s n, AnsH P1.hd q s n → (n = 0 ∧ 1 ≤ q ∧ q ≤ P1.hd.length) ∨ (n = 5 ∧ (q < 1 ∨ (1 ≤ q ∧ (P1.hd.length : Int) < q)))) := Lib.hid fun s n h => ans_any h
  have hm64 : P1.hd.length ≤ 64 := Nat.le_trans HI1.out.heads HI1.out.most
  obtain ⟨PA, hPA⟩ : ∃ PA, AnsH P1.hd = PA := ⟨_, rfl⟩
  rw [hPA] at HAN HRD HAQ
  generalize P1.hd.length = m at *
  clear hS hD hD6 hbe hbd kw hcs hvb kT hH hPA ks HI1 HD1 HF1 HAW HMK HR1
  go_wp2_with (first
    | rw [HWA6.out]
    | (refine wpList_store_row rfl 40 _ _ rfl wd.heap.size cs rfl rfl 40 zeroSt HKA6.out HIA6.out HSA6.out HOA6.out ?_)
    | (refine wpList_store_row rfl 43 _ _ rfl (wd.heap.size + 1) ds rfl rfl 43 zeroWd (Blk.setRow HKB6.out (by omega) _) HIB6.out HSB6.out HOB6.out ?_; rw [HW6.out]))
  generalize wd.heap.size = gs at *
  go_loopw [9] (fun i wr => ∃ k : Nat, k ≤ m ∧ i = .int .i64 k ∧ Below w6.heap.size w6 wr) (fun i _ => m - (intOf i).toNat)
  case atStart => exact ⟨0, by omega, rfl, Below.refl _ _⟩
  case round =>
   obtain ⟨k, hk, rfl, hW⟩ := hrel
   obtain ⟨l0, l1, l2⟩ := HKL.out wr hW
   by_cases hlt : k < m
   · have hlt' : (k : Int) < (m : Int) := by omega
     obtain ⟨xq, z, t, r, mm, a, b, c, r', m', f, s, hun, hrd, hok, g, o, rfl, hld⟩ := HRD.out k hlt
     have HRDC := Lib.hid hrd
     have HLD := Lib.hid hld
     have HUN := Lib.hid hun
     clear hun hrd hld
     go_wp2_with fail
     refine (HAN.out wr _ hW (by omega)).mono ?_
     rintro e w7 ⟨⟨s', n', rfl, hA⟩, hb7⟩
     obtain ⟨rfl, rfl⟩ := HUN.out s' n' hA
     have hB7 := hW.trans (hb7.mono hW.size)
     clear l0 l1 l2 hW hA
     go_wp2_with fail
     refine (HRDC.out w7).mono ?_
     rintro e w8 ⟨rfl, hb8⟩
     have hB8 := hB7.trans (hb8.mono hB7.size)
     obtain ⟨w9, hw9⟩ : ∃ y, w8.alloc (.cells #[.int .i64 a, .int .i64 b, .int .i64 c, .string r', .string m'] 51) = y := ⟨_, rfl⟩
     have hy : Below w8.heap.size w8 w9 := by rw [← hw9]; exact (Below.refl _ w8).alloc (Nat.le_refl _) _
     have k9 : Blk w9 w8.heap.size 51 #[.int .i64 a, .int .i64 b, .int .i64 c, .string r', .string m'] := by rw [← hw9]; exact Blk.new _ _ _
     have hB9 := hB8.trans (hy.mono hB8.size)
     obtain ⟨gh, hgh⟩ : ∃ gh, w8.heap.size = gh := ⟨_, rfl⟩
     have HW9 := Lib.hid hw9
     have HGH := Lib.hid hgh
     rw [hgh] at k9
     have HB9 := Lib.hid hB9.drew
     have HSS : Hid ((fun X => (loadVar 38 ⟨gs, 21, none⟩).run Tryz.prog X = .ok (.slice (some ⟨g, o, none⟩) m cb) X ∧ (loadVar 3 ⟨g, o + k * 5 + 2, none⟩).run Tryz.prog X = .ok (.int .i64 t) X ∧ (loadVar 51 ⟨gh, 0, none⟩).run Tryz.prog X = .ok (.agg #[.int .i64 a, .int .i64 b, .int .i64 c, .string r', .string m']) X ∧ (loadVar 51 ⟨g, o + k * 5, none⟩).run Tryz.prog X = .ok (.agg #[.int .i64 xq, .int .i64 z, .int .i64 t, .string r, .string mm]) X) w9.drew) := Lib.hid ⟨(HKL.out _ HB9.out).2.2, (HLD.out _ HB9.out).2, run_loadVar_row _ gh 51 51 _ (0, 0) _ (k9.below (Below.refl _ _).drew k9.lt) Tryz.underlying51 rfl info5, (HLD.out _ HB9.out).1⟩
     clear hw9 hy k9 hgh hb8 hB8 hb7 hB7 hB9
     by_cases ht : t ≤ 2147483647
     · obtain ⟨rfl, rfl, rfl, rfl, rfl, rfl⟩ := hok ht
       clear hok
       replace ht := eq_true ht
       go_wp2_with (first | rw [HW9.out, HGH.out] | rw [HW9.out])
       refine wp_region_held_drew (S := fun X => (loadVar 38 ⟨gs, 21, none⟩).run Tryz.prog X = .ok (.slice (some ⟨g, o, none⟩) m cb) X ∧ (loadVar 3 ⟨g, o + k * 5 + 2, none⟩).run Tryz.prog X = .ok (.int .i64 c) X ∧ (loadVar 51 ⟨gh, 0, none⟩).run Tryz.prog X = .ok (.agg #[.int .i64 a, .int .i64 b, .int .i64 c, .string r', .string m']) X ∧ (loadVar 51 ⟨g, o + k * 5, none⟩).run Tryz.prog X = .ok (.agg #[.int .i64 a, .int .i64 b, .int .i64 c, .string r', .string m']) X) (by kernel_rfl) ?_ (fun hHeld0 => ?_)
       · exact HSS.out
       apply takeH (i := 0) rfl (by kernel_rfl) (by kernel_rfl) (by kernel_rfl) (fun _ _ _ h => h) (by rfl)
       case hy => (intro w hSw; (try dsimp only at hSw); go_simp; try with_reducible rfl)
       case hS => assumption
       (try simp only [Act.put, List.setIfInBounds_toArray, List.set_cons_zero, List.set_cons_succ])
       apply takeH (i := 1) rfl (by kernel_rfl) (by kernel_rfl) (by kernel_rfl) (fun _ _ _ h => h) (by rfl)
       case hy => (intro w hSw; (try dsimp only at hSw); go_simp; try with_reducible rfl)
       case hS => assumption
       (try simp only [Act.put, List.setIfInBounds_toArray, List.set_cons_zero, List.set_cons_succ])
       apply takeH (i := 2) rfl (by kernel_rfl) (by kernel_rfl) (by kernel_rfl) (fun _ _ _ h => h) (by rfl)
       case hy => (intro w hSw; (try dsimp only at hSw); go_simp; try with_reducible rfl)
       case hS => assumption
       (try simp only [Act.put, List.setIfInBounds_toArray, List.set_cons_zero, List.set_cons_succ])
       apply takeH (i := 3) rfl (by kernel_rfl) (by kernel_rfl) (by kernel_rfl) (fun _ _ _ h => h) (by rfl)
       case hy => (intro w hSw; (try dsimp only at hSw); go_simp; try with_reducible rfl)
       case hS => assumption
       (try simp only [Act.put, List.setIfInBounds_toArray, List.set_cons_zero, List.set_cons_succ])
       apply takeH (i := 4) rfl (by kernel_rfl) (by kernel_rfl) (by kernel_rfl) (fun _ _ _ h => h) (by rfl)
       case hy => (intro w hSw; (try dsimp only at hSw); go_simp; try with_reducible rfl)
       case hS => assumption
       (try simp only [Act.put, List.setIfInBounds_toArray, List.set_cons_zero, List.set_cons_succ])
       apply takeH (i := 5) rfl (by kernel_rfl) (by kernel_rfl) (by kernel_rfl) (fun _ _ _ h => h) (by rfl)
       case hy => (intro w hSw; (try dsimp only at hSw); go_simp; try with_reducible rfl)
       case hS => assumption
       (try simp only [Act.put, List.setIfInBounds_toArray, List.set_cons_zero, List.set_cons_succ])
       apply takeH (i := 6) rfl (by kernel_rfl) (by kernel_rfl) (by kernel_rfl) (fun _ _ _ h => h) (by rfl)
       case hy => (intro w hSw; (try dsimp only at hSw); go_simp; try with_reducible rfl)
       case hS => assumption
       (try simp only [Act.put, List.setIfInBounds_toArray, List.set_cons_zero, List.set_cons_succ])
       apply takeH (i := 7) rfl (by kernel_rfl) (by kernel_rfl) (by kernel_rfl) (fun _ _ _ h => h) (by rfl)
       case hy => (intro w hSw; (try dsimp only at hSw); go_simp; try with_reducible rfl)
       case hS => assumption
       (try simp only [Act.put, List.setIfInBounds_toArray, List.set_cons_zero, List.set_cons_succ])
       apply takeH (i := 8) rfl (by kernel_rfl) (by kernel_rfl) (by kernel_rfl) (fun _ _ _ h => h) (by rfl)
       case hy => (intro w hSw; (try dsimp only at hSw); go_simp; try with_reducible rfl)
       case hS => assumption
       (try simp only [Act.put, List.setIfInBounds_toArray, List.set_cons_zero, List.set_cons_succ])
       apply takeH (i := 9) rfl (by kernel_rfl) (by kernel_rfl) (by kernel_rfl) (fun _ _ _ h => h) (by rfl)
       case hy => (intro w hSw; (try dsimp only at hSw); go_simp; try with_reducible rfl)
       case hS => assumption
       (try simp only [Act.put, List.setIfInBounds_toArray, List.set_cons_zero, List.set_cons_succ])
       apply takeH (i := 10) rfl (by kernel_rfl) (by kernel_rfl) (by kernel_rfl) (fun _ _ _ h => h) (by rfl)
       case hy => (intro w hSw; (try dsimp only at hSw); go_simp; try with_reducible rfl)
       case hS => assumption
       (try simp only [Act.put, List.setIfInBounds_toArray, List.set_cons_zero, List.set_cons_succ])
       apply takeH (i := 11) rfl (by kernel_rfl) (by kernel_rfl) (by kernel_rfl) (fun _ _ _ h => h) (by rfl)
       case hy => (intro w hSw; (try dsimp only at hSw); go_simp; try with_reducible rfl)
       case hS => assumption
       (try simp only [Act.put, List.setIfInBounds_toArray, List.set_cons_zero, List.set_cons_succ])
       apply takeH (i := 12) rfl (by kernel_rfl) (by kernel_rfl) (by kernel_rfl) (fun _ _ _ h => h) (by rfl)
       case hy => (intro w hSw; (try dsimp only at hSw); go_simp; try with_reducible rfl)
       case hS => assumption
       (try simp only [Act.put, List.setIfInBounds_toArray, List.set_cons_zero, List.set_cons_succ])
       apply takeH (i := 13) rfl (by kernel_rfl) (by kernel_rfl) (by kernel_rfl) (fun _ _ _ h => h) (by rfl)
       case hy => (intro w hSw; (try dsimp only at hSw); go_simp; try with_reducible rfl)
       case hS => assumption
       (try simp only [Act.put, List.setIfInBounds_toArray, List.set_cons_zero, List.set_cons_succ])
       apply takeH (i := 14) rfl (by kernel_rfl) (by kernel_rfl) (by kernel_rfl) (fun _ _ _ h => h) (by rfl)
       case hy => (intro w hSw; (try dsimp only at hSw); go_simp; try with_reducible rfl)
       case hS => assumption
       (try simp only [Act.put, List.setIfInBounds_toArray, List.set_cons_zero, List.set_cons_succ])
       apply takeH (i := 15) rfl (by kernel_rfl) (by kernel_rfl) (by kernel_rfl) (fun _ _ _ h => h) (by rfl)
       case hy => (intro w hSw; (try dsimp only at hSw); go_simp; try with_reducible rfl)
       case hS => assumption
       (try simp only [Act.put, List.setIfInBounds_toArray, List.set_cons_zero, List.set_cons_succ])
       apply takeH (i := 16) rfl (by kernel_rfl) (by kernel_rfl) (by kernel_rfl) (fun _ _ _ h => h) (by rfl)
       case hy => (intro w hSw; (try dsimp only at hSw); go_simp; try with_reducible rfl)
       case hS => assumption
       (try simp only [Act.put, List.setIfInBounds_toArray, List.set_cons_zero, List.set_cons_succ])
       apply takeH (i := 17) rfl (by kernel_rfl) (by kernel_rfl) (by kernel_rfl) (fun _ _ _ h => h) (by rfl)
       case hy => (intro w hSw; (try dsimp only at hSw); go_simp; try with_reducible rfl)
       case hS => assumption
       (try simp only [Act.put, List.setIfInBounds_toArray, List.set_cons_zero, List.set_cons_succ])
       apply takeH (i := 18) rfl (by kernel_rfl) (by kernel_rfl) (by kernel_rfl) (fun _ _ _ h => h) (by rfl)
       case hy => (intro w hSw; (try dsimp only at hSw); go_simp; try with_reducible rfl)
       case hS => assumption
       (try simp only [Act.put, List.setIfInBounds_toArray, List.set_cons_zero, List.set_cons_succ])
       apply takeH (i := 19) rfl (by kernel_rfl) (by kernel_rfl) (by kernel_rfl) (fun _ _ _ h => h) (by rfl)
       case hy => (intro w hSw; (try dsimp only at hSw); go_simp; try with_reducible rfl)
       case hS => assumption
       (try simp only [Act.put, List.setIfInBounds_toArray, List.set_cons_zero, List.set_cons_succ])
       apply takeH (i := 20) rfl (by kernel_rfl) (by kernel_rfl) (by kernel_rfl) (fun _ _ _ h => h) (by rfl)
       case hy => (intro w hSw; (try dsimp only at hSw); go_simp; try with_reducible rfl)
       case hS => assumption
       (try simp only [Act.put, List.setIfInBounds_toArray, List.set_cons_zero, List.set_cons_succ])
       apply takeH (i := 21) rfl (by kernel_rfl) (by kernel_rfl) (by kernel_rfl) (fun _ _ _ h => h) (by rfl)
       case hy => (intro w hSw; (try dsimp only at hSw); go_simp; try with_reducible rfl)
       case hS => assumption
       (try simp only [Act.put, List.setIfInBounds_toArray, List.set_cons_zero, List.set_cons_succ])
       apply takeH (i := 22) rfl (by kernel_rfl) (by kernel_rfl) (by kernel_rfl) (fun _ _ _ h => h) (by rfl)
       case hy => (intro w hSw; (try dsimp only at hSw); go_simp; try with_reducible rfl)
       case hS => assumption
       (try simp only [Act.put, List.setIfInBounds_toArray, List.set_cons_zero, List.set_cons_succ])
       apply takeH (i := 23) rfl (by kernel_rfl) (by kernel_rfl) (by kernel_rfl) (fun _ _ _ h => h) (by rfl)
       case hy => (intro w hSw; (try dsimp only at hSw); go_simp; try with_reducible rfl)
       case hS => assumption
       (try simp only [Act.put, List.setIfInBounds_toArray, List.set_cons_zero, List.set_cons_succ])
       refine wpAnyH_done (by kernel_rfl) ?_ _
       generalize w9.drew = wz at *
       go_wp2_with fail
       go_roundw
       case rel => exact ⟨k + 1, by omega, by go_num, HB9.out⟩
       case measure => simp [intOf]; omega
     · clear hok
       replace ht := eq_false ht
       go_wp2_with (first | rw [HW9.out, HGH.out] | rw [HW9.out])
       refine wp_region_held_drew (S := fun X => (loadVar 38 ⟨gs, 21, none⟩).run Tryz.prog X = .ok (.slice (some ⟨g, o, none⟩) m cb) X ∧ (loadVar 3 ⟨g, o + k * 5 + 2, none⟩).run Tryz.prog X = .ok (.int .i64 t) X ∧ (loadVar 51 ⟨gh, 0, none⟩).run Tryz.prog X = .ok (.agg #[.int .i64 a, .int .i64 b, .int .i64 c, .string r', .string m']) X ∧ (loadVar 51 ⟨g, o + k * 5, none⟩).run Tryz.prog X = .ok (.agg #[.int .i64 xq, .int .i64 z, .int .i64 t, .string r, .string mm]) X) (by kernel_rfl) ?_ (fun hHeld0 => ?_)
       · exact HSS.out
       apply takeH (i := 0) rfl (by kernel_rfl) (by kernel_rfl) (by kernel_rfl) (fun _ _ _ h => h) (by rfl)
       case hy => (intro w hSw; (try dsimp only at hSw); go_simp; try with_reducible rfl)
       case hS => assumption
       (try simp only [Act.put, List.setIfInBounds_toArray, List.set_cons_zero, List.set_cons_succ])
       apply takeH (i := 1) rfl (by kernel_rfl) (by kernel_rfl) (by kernel_rfl) (fun _ _ _ h => h) (by rfl)
       case hy => (intro w hSw; (try dsimp only at hSw); go_simp; try with_reducible rfl)
       case hS => assumption
       (try simp only [Act.put, List.setIfInBounds_toArray, List.set_cons_zero, List.set_cons_succ])
       apply takeH (i := 2) rfl (by kernel_rfl) (by kernel_rfl) (by kernel_rfl) (fun _ _ _ h => h) (by rfl)
       case hy => (intro w hSw; (try dsimp only at hSw); go_simp; try with_reducible rfl)
       case hS => assumption
       (try simp only [Act.put, List.setIfInBounds_toArray, List.set_cons_zero, List.set_cons_succ])
       apply takeH (i := 3) rfl (by kernel_rfl) (by kernel_rfl) (by kernel_rfl) (fun _ _ _ h => h) (by rfl)
       case hy => (intro w hSw; (try dsimp only at hSw); go_simp; try with_reducible rfl)
       case hS => assumption
       (try simp only [Act.put, List.setIfInBounds_toArray, List.set_cons_zero, List.set_cons_succ])
       apply takeH (i := 4) rfl (by kernel_rfl) (by kernel_rfl) (by kernel_rfl) (fun _ _ _ h => h) (by rfl)
       case hy => (intro w hSw; (try dsimp only at hSw); go_simp; try with_reducible rfl)
       case hS => assumption
       (try simp only [Act.put, List.setIfInBounds_toArray, List.set_cons_zero, List.set_cons_succ])
       apply takeH (i := 5) rfl (by kernel_rfl) (by kernel_rfl) (by kernel_rfl) (fun _ _ _ h => h) (by rfl)
       case hy => (intro w hSw; (try dsimp only at hSw); go_simp; try with_reducible rfl)
       case hS => assumption
       (try simp only [Act.put, List.setIfInBounds_toArray, List.set_cons_zero, List.set_cons_succ])
       apply takeH (i := 6) rfl (by kernel_rfl) (by kernel_rfl) (by kernel_rfl) (fun _ _ _ h => h) (by rfl)
       case hy => (intro w hSw; (try dsimp only at hSw); go_simp; try with_reducible rfl)
       case hS => assumption
       (try simp only [Act.put, List.setIfInBounds_toArray, List.set_cons_zero, List.set_cons_succ])
       apply takeH (i := 7) rfl (by kernel_rfl) (by kernel_rfl) (by kernel_rfl) (fun _ _ _ h => h) (by rfl)
       case hy => (intro w hSw; (try dsimp only at hSw); go_simp; try with_reducible rfl)
       case hS => assumption
       (try simp only [Act.put, List.setIfInBounds_toArray, List.set_cons_zero, List.set_cons_succ])
       apply takeH (i := 8) rfl (by kernel_rfl) (by kernel_rfl) (by kernel_rfl) (fun _ _ _ h => h) (by rfl)
       case hy => (intro w hSw; (try dsimp only at hSw); go_simp; try with_reducible rfl)
       case hS => assumption
       (try simp only [Act.put, List.setIfInBounds_toArray, List.set_cons_zero, List.set_cons_succ])
       apply takeH (i := 9) rfl (by kernel_rfl) (by kernel_rfl) (by kernel_rfl) (fun _ _ _ h => h) (by rfl)
       case hy => (intro w hSw; (try dsimp only at hSw); go_simp; try with_reducible rfl)
       case hS => assumption
       (try simp only [Act.put, List.setIfInBounds_toArray, List.set_cons_zero, List.set_cons_succ])
       apply takeH (i := 10) rfl (by kernel_rfl) (by kernel_rfl) (by kernel_rfl) (fun _ _ _ h => h) (by rfl)
       case hy => (intro w hSw; (try dsimp only at hSw); go_simp; try with_reducible rfl)
       case hS => assumption
       (try simp only [Act.put, List.setIfInBounds_toArray, List.set_cons_zero, List.set_cons_succ])
       refine skipH (i := 11) rfl (by kernel_rfl) (by kernel_rfl) (by kernel_rfl) (fun _ _ _ h => h) (by rfl) (by assumption) ?_
       (try simp only [Act.put, List.setIfInBounds_toArray, List.set_cons_zero, List.set_cons_succ])
       refine skipH (i := 12) rfl (by kernel_rfl) (by kernel_rfl) (by kernel_rfl) (fun _ _ _ h => h) (by rfl) (by assumption) ?_
       (try simp only [Act.put, List.setIfInBounds_toArray, List.set_cons_zero, List.set_cons_succ])
       refine skipH (i := 13) rfl (by kernel_rfl) (by kernel_rfl) (by kernel_rfl) (fun _ _ _ h => h) (by rfl) (by assumption) ?_
       (try simp only [Act.put, List.setIfInBounds_toArray, List.set_cons_zero, List.set_cons_succ])
       refine skipH (i := 14) rfl (by kernel_rfl) (by kernel_rfl) (by kernel_rfl) (fun _ _ _ h => h) (by rfl) (by assumption) ?_
       (try simp only [Act.put, List.setIfInBounds_toArray, List.set_cons_zero, List.set_cons_succ])
       refine skipH (i := 15) rfl (by kernel_rfl) (by kernel_rfl) (by kernel_rfl) (fun _ _ _ h => h) (by rfl) (by assumption) ?_
       (try simp only [Act.put, List.setIfInBounds_toArray, List.set_cons_zero, List.set_cons_succ])
       refine skipH (i := 16) rfl (by kernel_rfl) (by kernel_rfl) (by kernel_rfl) (fun _ _ _ h => h) (by rfl) (by assumption) ?_
       (try simp only [Act.put, List.setIfInBounds_toArray, List.set_cons_zero, List.set_cons_succ])
       refine skipH (i := 17) rfl (by kernel_rfl) (by kernel_rfl) (by kernel_rfl) (fun _ _ _ h => h) (by rfl) (by assumption) ?_
       (try simp only [Act.put, List.setIfInBounds_toArray, List.set_cons_zero, List.set_cons_succ])
       refine skipH (i := 18) rfl (by kernel_rfl) (by kernel_rfl) (by kernel_rfl) (fun _ _ _ h => h) (by rfl) (by assumption) ?_
       (try simp only [Act.put, List.setIfInBounds_toArray, List.set_cons_zero, List.set_cons_succ])
       refine skipH (i := 19) rfl (by kernel_rfl) (by kernel_rfl) (by kernel_rfl) (fun _ _ _ h => h) (by rfl) (by assumption) ?_
       (try simp only [Act.put, List.setIfInBounds_toArray, List.set_cons_zero, List.set_cons_succ])
       refine skipH (i := 20) rfl (by kernel_rfl) (by kernel_rfl) (by kernel_rfl) (fun _ _ _ h => h) (by rfl) (by assumption) ?_
       (try simp only [Act.put, List.setIfInBounds_toArray, List.set_cons_zero, List.set_cons_succ])
       refine skipH (i := 21) rfl (by kernel_rfl) (by kernel_rfl) (by kernel_rfl) (fun _ _ _ h => h) (by rfl) (by assumption) ?_
       (try simp only [Act.put, List.setIfInBounds_toArray, List.set_cons_zero, List.set_cons_succ])
       apply takeH (i := 22) rfl (by kernel_rfl) (by kernel_rfl) (by kernel_rfl) (fun _ _ _ h => h) (by rfl)
       case hy => (intro w hSw; (try dsimp only at hSw); go_simp; try with_reducible rfl)
       case hS => assumption
       (try simp only [Act.put, List.setIfInBounds_toArray, List.set_cons_zero, List.set_cons_succ])
       apply takeH (i := 23) rfl (by kernel_rfl) (by kernel_rfl) (by kernel_rfl) (fun _ _ _ h => h) (by rfl)
       case hy => (intro w hSw; (try dsimp only at hSw); go_simp; try with_reducible rfl)
       case hS => assumption
       (try simp only [Act.put, List.setIfInBounds_toArray, List.set_cons_zero, List.set_cons_succ])
       refine wpAnyH_done (by kernel_rfl) ?_ _
       generalize w9.drew = wz at *
       go_wp2_with fail
       go_roundw
       case rel => exact ⟨k + 1, by omega, by go_num, HB9.out⟩
       case measure => simp [intOf]; omega
   · obtain rfl : m = k := by omega
     have hlt' : ¬ (m : Int) < (m : Int) := by omega
     clear HRD
     go_wp2_with fail
     refine (HAN.out wr q hW hq).mono ?_
     rintro e w7 ⟨⟨s, x, rfl, hA⟩, hb7⟩
     have hB7 := hW.trans (hb7.mono hW.size)
     have hBz := hb6.trans (hB7.mono hb6.size)
     obtain ⟨_, _, m3⟩ := HKL.out w7 hB7
     have hq2 := HAQ.out s x hA
     clear HAN HKL HAQ l0 l1 l2 hb7 hA
     rcases hq2 with ⟨rfl, h1, h2⟩ | ⟨rfl, h1 | ⟨h1, h2⟩⟩
     · have h1' : q ≥ 1 := h1
       go_wp2_with fail
       go_ret
       exact ⟨rfl, hBz⟩
     · have h1' : ¬ 1 ≤ q := by omega
       go_wp2_with fail
       go_ret
       exact ⟨rfl, hBz⟩
     · have h2' : decide (q ≤ (m : Int)) = false := by rw [decide_eq_false_iff_not]; omega
       have H2 := Lib.hid h2'
       clear h2 h2'
       go_wp2_with fail
       go_ret
       exact ⟨by show Ending.returned (.bool (!decide (q ≤ (m : Int)))) = _; rw [H2.out]; rfl, hBz⟩
end
end Go.Proofs.YtakgolbgeeoioaaGreat

/-
  Whether one head is a beginning of another: the walk. A leaf, and that it is one of a head's: the walk.
-/
import Derived.Test.YtakgolbgeeoioaaGreatMProveRCatAWListSvPr
import Derived.Test.YtakgolbgeeoioaaGreatMRefLSRefAHSBitMSPairSRefAMHStep
namespace Go.Proofs.YtakgolbgeeoioaaGreat
open Go.RowKit

section
attribute [-go_sem] loadVar
set_option maxRecDepth 100000 in
set_option maxHeartbeats 4000000 in
theorem sbeg_any (P : Nat → Prop) (cs : Array Value) (W : Wd) (hi : InvW W) (a b : Int) (ha : -9223372036854775808 ≤ a ∧ a ≤ 9223372036854775807) (hb : -9223372036854775808 ≤ b ∧ b ≤ 9223372036854775807) (w : World) (hS : StC w P cs W) :
 Calls Tryz.prog 26 #[.agg tabV, .agg cs, .int .i64 a, .int .i64 b] w fun e w' => (∃ s n, e = .returned (.tuple #[.string s, .int .i64 n]) ∧ AnsB W.tk W.hd a b s n) ∧ Below w.heap.size w w' := by
 obtain ⟨w0, hw0⟩ : ∃ w0, (w.alloc (.cells tabV 29)).alloc (.cells cs 40) = w0 := ⟨_, rfl⟩
 have hb0 : Below w.heap.size w w0 := by rw [← hw0]; exact ((Below.refl _ w).alloc (Nat.le_refl _) _).alloc (by simp) _
 have kT : Blk w0 w.heap.size 29 tabV := by rw [← hw0]; exact (Blk.new _ _ _).alloc _
 have kS : Blk w0 (w.heap.size + 1) 40 cs := by rw [← hw0]; exact Blk.new_at (by simp)
 have hgs : w.heap.size + 1 < w0.heap.size := kS.lt
 have hS0 := hS.below hb0
 have HLS : Hid (∀ X, Below w0.heap.size w0 X → (loadVar 40 ⟨w.heap.size + 1, 0, none⟩).run Tryz.prog X = .ok (.agg cs) X) := Lib.hid fun X hX => st_load hS.size (kS.below hX kS.lt)
 have HLT : Hid (∀ X, Below w0.heap.size w0 X → (loadVar 29 ⟨w.heap.size, 0, none⟩).run Tryz.prog X = .ok (.agg tabV) X) := Lib.hid fun X hX => tab_run (kT.below hX kT.lt)
 have HHa : Hid (∀ X, Below w0.heap.size w0 X → Calls Tryz.prog 46 #[.agg cs, .int .i64 a] X fun e w' => (∃ q t r m, e = .returned (.tuple #[.agg #[.int .i64 q, .int .i64 (zQ W.hd a : Int), .int .i64 t, .string r, .string m], .bool (headAt W.hd a).2])) ∧ Below X.heap.size X w') := Lib.hid fun X hX => (head_of hi (hS0.below hX) a ha).mono fun e w' ⟨⟨q, t, r, m, he, _⟩, hb⟩ => ⟨⟨q, t, r, m, he⟩, hb⟩
 have HHb : Hid (∀ X, Below w0.heap.size w0 X → Calls Tryz.prog 46 #[.agg cs, .int .i64 b] X fun e w' => (∃ q t r m, e = .returned (.tuple #[.agg #[.int .i64 q, .int .i64 (zQ W.hd b : Int), .int .i64 t, .string r, .string m], .bool (headAt W.hd b).2])) ∧ Below X.heap.size X w') := Lib.hid fun X hX => (head_of hi (hS0.below hX) b hb).mono fun e w' ⟨⟨q, t, r, m, he, _⟩, hb⟩ => ⟨⟨q, t, r, m, he⟩, hb⟩
 have HLV : Hid (∀ X, Below w0.heap.size w0 X → Calls Tryz.prog 48 #[.agg cs, .agg tabV, .int .i64 (zQ W.hd b : Int)] X fun e w' => ∃ oa cap, e = .returned (.slice oa (zQ W.hd b) cap) ∧ zQ W.hd b ≤ cap ∧ Strs w' oa (lfsQ W.tk W.hd b) ∧ Below X.heap.size X w') := Lib.hid fun X hX => leaves_row hi (hS0.below hX) b
 obtain ⟨PF, x, hco, hx, hpl, hpz⟩ := cons_of hi a b
 have HCO := Lib.hid hco
 have HX := Lib.hid hx
 have HLI : Hid (∀ op cp X, Strs X op PF → Calls Tryz.prog 57 #[.slice op PF.length cp] X fun e w' => e = .returned (.string (listB PF)) ∧ Below X.heap.size X w') := Lib.hid fun op cp X h => list_any op PF.length cp PF rfl hpz (by omega) X h
 generalize AnsB W.tk W.hd a b = PA at *
 generalize zQ W.hd a = za at *
 generalize zQ W.hd b = zb at *
 generalize (headAt W.hd a).2 = oka at *
 generalize (headAt W.hd b).2 = okb at *
 generalize lfsQ W.tk W.hd b = LQ at *
 generalize PF.length = np at *
 generalize listB PF = LB at *
 have HW0 := Lib.hid hw0
 have HB0 := Lib.hid hb0
 clear hw0 hb0 hS hS0 kT kS hi hco hx hpz hpl
 go_enter Tryz.func26, Tryz.ntmps26
 have hr0 := Below.refl w0.heap.size w0
 have ls1 := HLS.out w0 hr0
 go_wp2_with (rw [HW0.out])
 refine (HHa.out _ hr0).mono ?_
 rintro e x1 ⟨⟨q1, t1, r1, m1, rfl⟩, hx⟩
 obtain ⟨w1, hw1⟩ : ∃ y, x1.alloc (.cells #[.int .i64 q1, .int .i64 (za : Int), .int .i64 t1, .string r1, .string m1] 51) = y := ⟨_, rfl⟩
 have hy : Below x1.heap.size x1 w1 := by rw [← hw1]; exact (Below.refl _ x1).alloc (Nat.le_refl _) _
 have k1 : Blk w1 x1.heap.size 51 #[.int .i64 q1, .int .i64 (za : Int), .int .i64 t1, .string r1, .string m1] := by rw [← hw1]; exact Blk.new _ _ _
 have hxx := hr0.trans (hx.mono hr0.size)
 have hb1 : Below w0.heap.size w0 w1 := hxx.trans (hy.mono hxx.size)
 obtain ⟨g1, hg1⟩ : ∃ g, x1.heap.size = g := ⟨_, rfl⟩
 have HW1 := Lib.hid hw1
 have HG1 := Lib.hid hg1
 rw [hg1] at k1
 have HZ1 : Hid (∀ X, Below w1.heap.size w1 X → (loadVar 3 ⟨g1, 1, none⟩).run Tryz.prog X = .ok (.int .i64 (za : Int)) X) := Lib.hid fun X hX => num_load ((k1.below hX k1.lt).cell 1)
 clear ls1 hw1 hy hxx hg1 hx
 have ls2 := HLS.out w1 hb1
 go_wp2_with (first | rw [HW1.out, HG1.out] | rw [HW1.out])
 refine (HHb.out _ hb1).mono ?_
 rintro e x2 ⟨⟨q2, t2, r2, m2, rfl⟩, hx⟩
 obtain ⟨w2, hw2⟩ : ∃ y, x2.alloc (.cells #[.int .i64 q2, .int .i64 (zb : Int), .int .i64 t2, .string r2, .string m2] 51) = y := ⟨_, rfl⟩
 have hy : Below x2.heap.size x2 w2 := by rw [← hw2]; exact (Below.refl _ x2).alloc (Nat.le_refl _) _
 have k2 : Blk w2 x2.heap.size 51 #[.int .i64 q2, .int .i64 (zb : Int), .int .i64 t2, .string r2, .string m2] := by rw [← hw2]; exact Blk.new _ _ _
 have hxx := hb1.trans (hx.mono hb1.size)
 have hb2 : Below w0.heap.size w0 w2 := hxx.trans (hy.mono hxx.size)
 obtain ⟨g2, hg2⟩ : ∃ g, x2.heap.size = g := ⟨_, rfl⟩
 have HW2 := Lib.hid hw2
 have HG2 := Lib.hid hg2
 rw [hg2] at k2
 have HZ2 : Hid (∀ X, Below w2.heap.size w2 X → (loadVar 3 ⟨g2, 1, none⟩).run Tryz.prog X = .ok (.int .i64 (zb : Int)) X) := Lib.hid fun X hX => num_load ((k2.below hX k2.lt).cell 1)
 have h12 : Below w1.heap.size w1 w2 := hx.trans (hy.mono hx.size)
 clear ls2 hw2 hy hxx hg2 hx
 have HSS : Hid (∀ X, Below w2.heap.size w2 X → (fun X => (loadVar 29 ⟨w.heap.size, 0, none⟩).run Tryz.prog X = .ok (.agg tabV) X ∧ (loadVar 40 ⟨w.heap.size + 1, 0, none⟩).run Tryz.prog X = .ok (.agg cs) X ∧ (loadVar 3 ⟨g1, 1, none⟩).run Tryz.prog X = .ok (.int .i64 (za : Int)) X ∧ (loadVar 3 ⟨g2, 1, none⟩).run Tryz.prog X = .ok (.int .i64 (zb : Int)) X) X) := Lib.hid fun X hX => ⟨HLT.out X (hb2.trans (hX.mono hb2.size)), HLS.out X (hb2.trans (hX.mono hb2.size)), HZ1.out X (h12.trans (hX.mono h12.size)), HZ2.out X hX⟩
 have HB2 := Lib.hid hb2
 clear h12 hb1 hb2 hr0 k1 k2 HZ1 HZ2 HLS HLT HHa HHb
 go_wp2_with (first | rw [HW2.out, HG2.out] | rw [HW2.out])
 refine wp_region_held_drew (S := fun X => (loadVar 29 ⟨w.heap.size, 0, none⟩).run Tryz.prog X = .ok (.agg tabV) X ∧ (loadVar 40 ⟨w.heap.size + 1, 0, none⟩).run Tryz.prog X = .ok (.agg cs) X ∧ (loadVar 3 ⟨g1, 1, none⟩).run Tryz.prog X = .ok (.int .i64 (za : Int)) X ∧ (loadVar 3 ⟨g2, 1, none⟩).run Tryz.prog X = .ok (.int .i64 (zb : Int)) X) (by kernel_rfl) ?_ (fun hHeld0 => ?_)
 · (first | exact HSS.out _ hB6 | exact HSS.out _ hB5 | exact HSS.out _ (Below.refl _ _).drew)
 apply takeH (i := 0) rfl (by kernel_rfl) (by kernel_rfl) (by kernel_rfl) (fun _ _ _ h => h) (by rfl)
 case hy => (intro w hSw; (try dsimp only at hSw); go_simp; try with_reducible rfl)
 case hS => assumption
 (try simp only [Act.put, List.setIfInBounds_toArray, List.set_cons_zero, List.set_cons_succ])
 apply takeH (i := 1) rfl (by kernel_rfl) (by kernel_rfl) (by kernel_rfl) (fun _ _ _ h => h) (by rfl)
 case hy => (intro w hSw; (try dsimp only at hSw); go_simp; try with_reducible rfl)
 case hS => assumption
 (try simp only [Act.put, List.setIfInBounds_toArray, List.set_cons_zero, List.set_cons_succ])
 apply takeH (i := 2) rfl (by kernel_rfl) (by kernel_rfl) (by kernel_rfl) (fun _ _ _ h => h) (by rfl)
 case hy => (intro w hSw; (try dsimp only at hSw); go_simp; try with_reducible rfl)
 case hS => assumption
 (try simp only [Act.put, List.setIfInBounds_toArray, List.set_cons_zero, List.set_cons_succ])
 apply takeH (i := 3) rfl (by kernel_rfl) (by kernel_rfl) (by kernel_rfl) (fun _ _ _ h => h) (by rfl)
 case hy => (intro w hSw; (try dsimp only at hSw); go_simp; try with_reducible rfl)
 case hS => assumption
 (try simp only [Act.put, List.setIfInBounds_toArray, List.set_cons_zero, List.set_cons_succ])
 apply takeH (i := 4) rfl (by kernel_rfl) (by kernel_rfl) (by kernel_rfl) (fun _ _ _ h => h) (by rfl)
 case hy => (intro w hSw; (try dsimp only at hSw); go_simp; try with_reducible rfl)
 case hS => assumption
 (try simp only [Act.put, List.setIfInBounds_toArray, List.set_cons_zero, List.set_cons_succ])
 apply takeH (i := 6) rfl (by kernel_rfl) (by kernel_rfl) (by kernel_rfl) (fun _ _ _ h => h) (by rfl)
 case hy => (intro w hSw; (try dsimp only at hSw); go_simp; try with_reducible rfl)
 case hS => assumption
 (try simp only [Act.put, List.setIfInBounds_toArray, List.set_cons_zero, List.set_cons_succ])
 apply takeH (i := 7) rfl (by kernel_rfl) (by kernel_rfl) (by kernel_rfl) (fun _ _ _ h => h) (by rfl)
 case hy => (intro w hSw; (try dsimp only at hSw); go_simp; try with_reducible rfl)
 case hS => assumption
 (try simp only [Act.put, List.setIfInBounds_toArray, List.set_cons_zero, List.set_cons_succ])
 refine doH (i := 5) rfl (by kernel_rfl) (by rfl) (fun K hK => ?_)
 go_simp
 (go_at_call 48; refine (HLV.out _ HB2.out.drew).mono ?_; rintro e w5 ⟨ol, cl, rfl, hcl, hsl, hb5⟩; have hB5 : Below w2.heap.size w2 w5 := (Below.refl _ _).drew.trans hb5)
 go_wp2_with fail
 refine hK.out _ _ ?_ (fun hHeld5 => ?_)
 · (first | exact HSS.out _ hB6 | exact HSS.out _ hB5 | exact HSS.out _ (Below.refl _ _).drew)
 clear hK K hHeld0
 (try simp only [Act.put, List.setIfInBounds_toArray, List.set_cons_zero, List.set_cons_succ])
 refine doH (i := 8) rfl (by kernel_rfl) (by rfl) (fun K hK => ?_)
 go_simp
 (go_at_call 59; refine (HCO.out ol cl _ hcl hsl).mono ?_; rintro e w6 ⟨op, cp, rfl, hsp, hcp, hb6⟩; have hB6 : Below w2.heap.size w2 w6 := hB5.trans (hb6.mono hB5.size))
 go_wp2_with fail
 refine hK.out _ _ ?_ (fun hHeld8 => ?_)
 · (first | exact HSS.out _ hB6 | exact HSS.out _ hB5 | exact HSS.out _ (Below.refl _ _).drew)
 clear hK K hHeld5
 (try simp only [Act.put, List.setIfInBounds_toArray, List.set_cons_zero, List.set_cons_succ])
 apply takeH (i := 9) rfl (by kernel_rfl) (by kernel_rfl) (by kernel_rfl) (fun _ _ _ h => h) (by rfl)
 case hy => (intro w hSw; (try dsimp only at hSw); go_simp; try with_reducible rfl)
 case hS => assumption
 (try simp only [Act.put, List.setIfInBounds_toArray, List.set_cons_zero, List.set_cons_succ])
 apply takeH (i := 10) rfl (by kernel_rfl) (by kernel_rfl) (by kernel_rfl) (fun _ _ _ h => h) (by rfl)
 case hy => (intro w hSw; (try dsimp only at hSw); go_simp; try with_reducible rfl)
 case hS => assumption
 (try simp only [Act.put, List.setIfInBounds_toArray, List.set_cons_zero, List.set_cons_succ])
 apply takeH (i := 11) rfl (by kernel_rfl) (by kernel_rfl) (by kernel_rfl) (fun _ _ _ h => h) (by rfl)
 case hy => (intro w hSw; (try dsimp only at hSw); go_simp; try with_reducible rfl)
 case hS => assumption
 (try simp only [Act.put, List.setIfInBounds_toArray, List.set_cons_zero, List.set_cons_succ])
 apply takeH (i := 12) rfl (by kernel_rfl) (by kernel_rfl) (by kernel_rfl) (fun _ _ _ h => h) (by rfl)
 case hy => (intro w hSw; (try dsimp only at hSw); go_simp; try with_reducible rfl)
 case hS => assumption
 (try simp only [Act.put, List.setIfInBounds_toArray, List.set_cons_zero, List.set_cons_succ])
 apply takeH (i := 13) rfl (by kernel_rfl) (by kernel_rfl) (by kernel_rfl) (fun _ _ _ h => h) (by rfl)
 case hy => (intro w hSw; (try dsimp only at hSw); go_simp; try with_reducible rfl)
 case hS => assumption
 (try simp only [Act.put, List.setIfInBounds_toArray, List.set_cons_zero, List.set_cons_succ])
 refine wpAnyH_done (by kernel_rfl) ?_ _
 have hB7 := (HB0.out.trans (HB2.out.mono HB0.out.size)).trans (hB6.mono (Nat.le_trans HB0.out.size HB2.out.size))
 clear hB5 hB6 hb5 hb6 hsl hcl hHeld8 HSS
 rcases HX.out with ⟨rfl, hA⟩ | ⟨rfl, hA⟩
 · go_wp2_with fail
   refine (HLI.out op cp _ hsp).mono ?_
   rintro e w8 ⟨rfl, hb8⟩
   have hB8 := hB7.trans (hb8.mono hB7.size)
   go_wp2
   go_ret2
   exact ⟨⟨_, _, rfl, hA⟩, hB8⟩
 · go_wp2_with fail
   go_ret2
   exact ⟨⟨_, _, rfl, hA⟩, hB7⟩
end
end Go.Proofs.YtakgolbgeeoioaaGreat
namespace Go.Proofs.YtakgolbgeeoioaaGreat
open Go.RowKit

section
attribute [-go_sem] loadVar
set_option maxRecDepth 100000 in
set_option maxHeartbeats 4000000 in
theorem sleaf_any (P : Nat → Prop) (cs : Array Value) (W : Wd) (hi : InvW W) (ix b : Int) (hix : -9223372036854775808 ≤ ix ∧ ix ≤ 9223372036854775807) (hb : -9223372036854775808 ≤ b ∧ b ≤ 9223372036854775807) (w : World) (hS : StC w P cs W) :
 Calls Tryz.prog 25 #[.agg tabV, .agg cs, .int .i64 ix, .int .i64 b] w fun e w' => (∃ s n, e = .returned (.tuple #[.string s, .int .i64 n]) ∧ AnsL W.tk W.hd ix b s n) ∧ Below w.heap.size w w' := by
 obtain ⟨w0, hw0⟩ : ∃ w0, (w.alloc (.cells tabV 29)).alloc (.cells cs 40) = w0 := ⟨_, rfl⟩
 have hb0 : Below w.heap.size w w0 := by rw [← hw0]; exact ((Below.refl _ w).alloc (Nat.le_refl _) _).alloc (by simp) _
 have kT : Blk w0 w.heap.size 29 tabV := by rw [← hw0]; exact (Blk.new _ _ _).alloc _
 have kS : Blk w0 (w.heap.size + 1) 40 cs := by rw [← hw0]; exact Blk.new_at (by simp)
 have hgs : w.heap.size + 1 < w0.heap.size := kS.lt
 have hS0 := hS.below hb0
 have HLS : Hid (∀ X, Below w0.heap.size w0 X → (loadVar 40 ⟨w.heap.size + 1, 0, none⟩).run Tryz.prog X = .ok (.agg cs) X) := Lib.hid fun X hX => st_load hS.size (kS.below hX kS.lt)
 have HLT : Hid (∀ X, Below w0.heap.size w0 X → (loadVar 29 ⟨w.heap.size, 0, none⟩).run Tryz.prog X = .ok (.agg tabV) X) := Lib.hid fun X hX => tab_run (kT.below hX kT.lt)
 have HHb : Hid (∀ X, Below w0.heap.size w0 X → Calls Tryz.prog 46 #[.agg cs, .int .i64 b] X fun e w' => (∃ q t r m, e = .returned (.tuple #[.agg #[.int .i64 q, .int .i64 (zQ W.hd b : Int), .int .i64 t, .string r, .string m], .bool (headAt W.hd b).2])) ∧ Below X.heap.size X w') := Lib.hid fun X hX => (head_of hi (hS0.below hX) b hb).mono fun e w' ⟨⟨q, t, r, m, he, _⟩, hb⟩ => ⟨⟨q, t, r, m, he⟩, hb⟩
 have HLV : Hid (∀ X, Below w0.heap.size w0 X → Calls Tryz.prog 48 #[.agg cs, .agg tabV, .int .i64 (zQ W.hd b : Int)] X fun e w' => ∃ oa cap, e = .returned (.slice oa (zQ W.hd b) cap) ∧ zQ W.hd b ≤ cap ∧ Strs w' oa (lfsQ W.tk W.hd b) ∧ Below X.heap.size X w') := Lib.hid fun X hX => leaves_row hi (hS0.below hX) b
 obtain ⟨PF, x, hco, hx, hpl, hpz⟩ := inc_of hi ix b
 have HCO := Lib.hid hco
 obtain ⟨va, vb, hcs, ⟨oa, ca, hva, hA, hca, _, _⟩, _⟩ := hS0
 have HLQ : Hid (∀ X, Below w0.heap.size w0 X → (loadVar 31 ⟨w.heap.size + 1, 0, none⟩).run Tryz.prog X = .ok (.slice oa W.tk.length ca) X) := Lib.hid fun X hX => by
  have := (kS.below hX kS.lt).cell 0
  rw [hcs, hva] at this
  exact sl_req this
 have HRQ : Hid (∀ j, j < W.tk.length → ∃ c q l k v, W.tk.getD j default = ⟨c, q, l, k, v⟩ ∧ l.size ≤ 250 ∧ k.size ≤ 250 ∧ v.size ≤ 250 ∧ ∃ g o, oa = some ⟨g, o, none⟩ ∧ ∀ X, Below w0.heap.size w0 X → (loadVar 61 ⟨g, o + j * 5, none⟩).run Tryz.prog X = .ok (.agg #[.int .i64 c, .int .i64 q, .string l, .string k, .string v]) X) := Lib.hid fun j hj => by
  obtain ⟨g, o, h1, _⟩ := req_at hA (i := j) hj
  have hz := of_decide_eq_true (hi.szq _ (List.getElem_mem hj))
  have hgd : W.tk.getD j default = W.tk[j] := by rw [List.getD_eq_getElem?_getD, List.getElem?_eq_getElem hj]; rfl
  rw [hgd]
  refine ⟨W.tk[j].c, W.tk[j].q, W.tk[j].l, W.tk[j].k, W.tk[j].v, rfl, by omega, by omega, by omega, g, o, h1, fun X hX => ?_⟩
  have := hA.below hX
  rw [h1] at this
  exact RowG.load reqOk this (List.getElem?_eq_getElem hj)
 have h64 := hi.most
 have hLI : ∀ r : ByteArray, r.size ≤ 1000 → ∀ NP, NP = PF.length + 1 → ∀ op cp X, Strs X op (r :: PF) → Calls Tryz.prog 57 #[.slice op NP cp] X fun e w' => e = .returned (.string (listB (r :: PF))) ∧ Below X.heap.size X w' := fun r hr NP hNP op cp X h => list_any op NP cp (r :: PF) (by rw [hNP]; rfl) (by show (txt r ++ txts PF).size ≤ _; rw [ByteArray.size_append, txt_size]; omega) (by omega) X h
 have HLI := Lib.hid hLI
 obtain ⟨Q, hQ⟩ : ∃ Q : Int → ByteArray → Prop, Q = fun j s => AnsL W.tk W.hd ix b s j := ⟨_, rfl⟩
 obtain ⟨N, hN⟩ : ∃ N, W.tk.length = N := ⟨_, rfl⟩
 obtain ⟨F, hF⟩ : ∃ F : Nat → Req, F = fun j => W.tk.getD j default := ⟨_, rfl⟩
 have hF' : ∀ j, W.tk.getD j default = F j := fun j => by rw [hF]
 simp only [hF'] at HRQ hx
 rw [hN] at HLQ HRQ hx h64
 generalize AnsL W.tk W.hd ix b = PA at *
 generalize zQ W.hd b = z at *
 generalize (headAt W.hd b).2 = ok at *
 generalize lfsQ W.tk W.hd b = LQ at *
 have HX := Lib.hid hx
 obtain ⟨np, hnp⟩ : ∃ np, PF.length = np := ⟨_, rfl⟩
 rw [hnp] at HLI hpl
 have HNP := Lib.hid hnp
 have HW0 := Lib.hid hw0
 have HB0 := Lib.hid hb0
 clear hw0 hb0 hS kT kS hi hco hx hpz hcs hva hA hLI hQ hF hF' hN hnp
 go_enter Tryz.func25, Tryz.ntmps25
 have hr0 := Below.refl w0.heap.size w0
 have ls1 := HLS.out w0 hr0
 go_wp2_with (rw [HW0.out])
 refine (HHb.out _ hr0).mono ?_
 rintro e x1 ⟨⟨q1, t1, r1, m1, rfl⟩, hx⟩
 obtain ⟨w1, hw1⟩ : ∃ y, x1.alloc (.cells #[.int .i64 q1, .int .i64 (z : Int), .int .i64 t1, .string r1, .string m1] 51) = y := ⟨_, rfl⟩
 have hy : Below x1.heap.size x1 w1 := by rw [← hw1]; exact (Below.refl _ x1).alloc (Nat.le_refl _) _
 have k1 : Blk w1 x1.heap.size 51 #[.int .i64 q1, .int .i64 (z : Int), .int .i64 t1, .string r1, .string m1] := by rw [← hw1]; exact Blk.new _ _ _
 have hxx := hr0.trans (hx.mono hr0.size)
 have hb1 : Below w0.heap.size w0 w1 := hxx.trans (hy.mono hxx.size)
 obtain ⟨g1, hg1⟩ : ∃ g, x1.heap.size = g := ⟨_, rfl⟩
 have HW1 := Lib.hid hw1
 have HG1 := Lib.hid hg1
 rw [hg1] at k1
 have HZ1 : Hid (∀ X, Below w1.heap.size w1 X → (loadVar 3 ⟨g1, 1, none⟩).run Tryz.prog X = .ok (.int .i64 (z : Int)) X) := Lib.hid fun X hX => num_load ((k1.below hX k1.lt).cell 1)
 clear ls1 hw1 hy hxx hg1 hx
 have HSS : Hid (∀ X, Below w1.heap.size w1 X → (fun X => (loadVar 29 ⟨w.heap.size, 0, none⟩).run Tryz.prog X = .ok (.agg tabV) X ∧ (loadVar 40 ⟨w.heap.size + 1, 0, none⟩).run Tryz.prog X = .ok (.agg cs) X ∧ (loadVar 3 ⟨g1, 1, none⟩).run Tryz.prog X = .ok (.int .i64 (z : Int)) X) X) := Lib.hid fun X hX => ⟨HLT.out X (hb1.trans (hX.mono hb1.size)), HLS.out X (hb1.trans (hX.mono hb1.size)), HZ1.out X hX⟩
 have HB1 := Lib.hid hb1
 clear hb1 hr0 k1 HZ1 HLS HLT HHb
 go_wp2_with (first | rw [HW1.out, HG1.out] | rw [HW1.out])
 refine wp_region_held_drew (S := fun X => (loadVar 29 ⟨w.heap.size, 0, none⟩).run Tryz.prog X = .ok (.agg tabV) X ∧ (loadVar 40 ⟨w.heap.size + 1, 0, none⟩).run Tryz.prog X = .ok (.agg cs) X ∧ (loadVar 3 ⟨g1, 1, none⟩).run Tryz.prog X = .ok (.int .i64 (z : Int)) X) (by kernel_rfl) ?_ (fun hHeld0 => ?_)
 · (first | exact HSS.out _ hB6 | exact HSS.out _ hB5 | exact HSS.out _ (Below.refl _ _).drew)
 apply takeH (i := 0) rfl (by kernel_rfl) (by kernel_rfl) (by kernel_rfl) (fun _ _ _ h => h) (by rfl)
 case hy => (intro w hSw; (try dsimp only at hSw); go_simp; try with_reducible rfl)
 case hS => assumption
 (try simp only [Act.put, List.setIfInBounds_toArray, List.set_cons_zero, List.set_cons_succ])
 apply takeH (i := 1) rfl (by kernel_rfl) (by kernel_rfl) (by kernel_rfl) (fun _ _ _ h => h) (by rfl)
 case hy => (intro w hSw; (try dsimp only at hSw); go_simp; try with_reducible rfl)
 case hS => assumption
 (try simp only [Act.put, List.setIfInBounds_toArray, List.set_cons_zero, List.set_cons_succ])
 apply takeH (i := 2) rfl (by kernel_rfl) (by kernel_rfl) (by kernel_rfl) (fun _ _ _ h => h) (by rfl)
 case hy => (intro w hSw; (try dsimp only at hSw); go_simp; try with_reducible rfl)
 case hS => assumption
 (try simp only [Act.put, List.setIfInBounds_toArray, List.set_cons_zero, List.set_cons_succ])
 apply takeH (i := 3) rfl (by kernel_rfl) (by kernel_rfl) (by kernel_rfl) (fun _ _ _ h => h) (by rfl)
 case hy => (intro w hSw; (try dsimp only at hSw); go_simp; try with_reducible rfl)
 case hS => assumption
 (try simp only [Act.put, List.setIfInBounds_toArray, List.set_cons_zero, List.set_cons_succ])
 apply takeH (i := 4) rfl (by kernel_rfl) (by kernel_rfl) (by kernel_rfl) (fun _ _ _ h => h) (by rfl)
 case hy => (intro w hSw; (try dsimp only at hSw); go_simp; try with_reducible rfl)
 case hS => assumption
 (try simp only [Act.put, List.setIfInBounds_toArray, List.set_cons_zero, List.set_cons_succ])
 apply takeH (i := 6) rfl (by kernel_rfl) (by kernel_rfl) (by kernel_rfl) (fun _ _ _ h => h) (by rfl)
 case hy => (intro w hSw; (try dsimp only at hSw); go_simp; try with_reducible rfl)
 case hS => assumption
 (try simp only [Act.put, List.setIfInBounds_toArray, List.set_cons_zero, List.set_cons_succ])
 refine doH (i := 5) rfl (by kernel_rfl) (by rfl) (fun K hK => ?_)
 go_simp
 (go_at_call 48; refine (HLV.out _ HB1.out.drew).mono ?_; rintro e w5 ⟨ol, cl, rfl, hcl, hsl, hb5⟩; have hB5 : Below w1.heap.size w1 w5 := (Below.refl _ _).drew.trans hb5)
 go_wp2_with fail
 refine hK.out _ _ ?_ (fun hHeld5 => ?_)
 · (first | exact HSS.out _ hB6 | exact HSS.out _ hB5 | exact HSS.out _ (Below.refl _ _).drew)
 clear hK K hHeld0
 (try simp only [Act.put, List.setIfInBounds_toArray, List.set_cons_zero, List.set_cons_succ])
 refine doH (i := 7) rfl (by kernel_rfl) (by rfl) (fun K hK => ?_)
 go_simp
 (go_at_call 56; refine (HCO.out ol cl _ hcl hsl).mono ?_; rintro e w6 ⟨vp, rfl, hop, hb6⟩; have hB6 : Below w1.heap.size w1 w6 := hB5.trans (hb6.mono hB5.size))
 go_wp2_with fail
 refine hK.out _ _ ?_ (fun hHeld7 => ?_)
 · (first | exact HSS.out _ hB6 | exact HSS.out _ hB5 | exact HSS.out _ (Below.refl _ _).drew)
 clear hK K hHeld5
 (try simp only [Act.put, List.setIfInBounds_toArray, List.set_cons_zero, List.set_cons_succ])
 apply takeH (i := 8) rfl (by kernel_rfl) (by kernel_rfl) (by kernel_rfl) (fun _ _ _ h => h) (by rfl)
 case hy => (intro w hSw; (try dsimp only at hSw); go_simp; try with_reducible rfl)
 case hS => assumption
 (try simp only [Act.put, List.setIfInBounds_toArray, List.set_cons_zero, List.set_cons_succ])
 apply takeH (i := 9) rfl (by kernel_rfl) (by kernel_rfl) (by kernel_rfl) (fun _ _ _ h => h) (by rfl)
 case hy => (intro w hSw; (try dsimp only at hSw); go_simp; try with_reducible rfl)
 case hS => assumption
 (try simp only [Act.put, List.setIfInBounds_toArray, List.set_cons_zero, List.set_cons_succ])
 apply takeH (i := 10) rfl (by kernel_rfl) (by kernel_rfl) (by kernel_rfl) (fun _ _ _ h => h) (by rfl)
 case hy => (intro w hSw; (try dsimp only at hSw); go_simp; try with_reducible rfl)
 case hS => assumption
 (try simp only [Act.put, List.setIfInBounds_toArray, List.set_cons_zero, List.set_cons_succ])
 apply takeH (i := 11) rfl (by kernel_rfl) (by kernel_rfl) (by kernel_rfl) (fun _ _ _ h => h) (by rfl)
 case hy => (intro w hSw; (try dsimp only at hSw); go_simp; try with_reducible rfl)
 case hS => assumption
 (try simp only [Act.put, List.setIfInBounds_toArray, List.set_cons_zero, List.set_cons_succ])
 apply takeH (i := 12) rfl (by kernel_rfl) (by kernel_rfl) (by kernel_rfl) (fun _ _ _ h => h) (by rfl)
 case hy => (intro w hSw; (try dsimp only at hSw); go_simp; try with_reducible rfl)
 case hS => assumption
 (try simp only [Act.put, List.setIfInBounds_toArray, List.set_cons_zero, List.set_cons_succ])
 refine wpAnyH_done (by kernel_rfl) ?_ _
 have hB7 : Below w0.heap.size w0 w6 := HB1.out.trans (hB6.mono HB1.out.size)
 obtain ⟨op, cp, rfl, hsp, hcp, hnil⟩ := hop.formd
 rw [HNP.out] at hnil hcp ⊢
 clear hB5 hB6 hb5 hb6 hsl hcl hHeld7 HSS HCO HLV hop
 rcases HX.out with ⟨rfl, h0, hlt, hA⟩ | ⟨rfl, hA⟩
 · obtain ⟨j, rfl⟩ : ∃ j : Nat, ix = j := ⟨ix.toNat, by omega⟩
   rw [Int.toNat_natCast] at hA
   obtain ⟨c, sq, l, k, v, hr, hl, hk, hv, g, o, rfl, hld⟩ := HRQ.out j (by omega)
   have d0 := HLQ.out w6 hB7
   have d1 := hld w6 hB7
   have HRE := Lib.hid (request_any c sq l k v (by omega) (by omega) (by omega) w6)
   rw [hr] at hA
   have hrz : (reqB c sq l k v).size ≤ 1000 := by rw [reqB_size]; omega
   have hA2 : PA (listB (reqB c sq l k v :: PF)) 0 := hA
   clear hA hr HRQ
   generalize reqB c sq l k v = R at *
   have hlt' : (j : Int) < (N : Int) := hlt
   go_wp2_with fail
   refine HRE.out.mono ?_
   rintro e w7 ⟨rfl, hb7⟩
   have hB8 := hB7.trans (hb7.mono hB7.size)
   have hs7 := hsp.below hb7
   have ho7 := own_one w7 R
   have hb78 : Below w7.heap.size w7 (w7.alloc (.cells #[.string R] 9)) := (Below.refl _ w7).alloc (Nat.le_refl _) _
   obtain ⟨v8, w8, hr8, ho8, hg8, _⟩ := append_strs ho7 op np cp HNP.out (hs7.below hb78) hnil (by show 1 + np ≤ _; omega) (by simp)
   have hB9 : Below w0.heap.size w0 w8 := (hB8.trans (hb78.mono hB8.size)).grown hg8 (by have := hB8.size; have := hb78.size; omega) (fun z hz => by have := (World.ownsRow.lt ho7 z hz).1; have := hB8.size; omega)
   obtain ⟨o8, c8, hv8, hs8⟩ := ho8.form
   obtain ⟨NP, hNP⟩ : ∃ NP, ([R] ++ PF).length = NP := ⟨_, rfl⟩
   rw [hNP] at hv8
   subst hv8
   have HLL := Lib.hid (HLI.out R hrz NP (by rw [← hNP, ← HNP.out]; simp) o8 c8 w8 hs8)
   have hBz := HB0.out.trans (hB9.mono HB0.out.size)
   clear d0 d1 hb7 hb78 ho7 ho8 hg8 hs8 hs7 hsp hNP hB7 hB8 hB9 HLI HLQ hld
   go_wp2_with (at_builtin; refine Lib.wpList_append_run _ rfl _ _ 86 86 rfl _ _ rfl rfl _ _ hr8 ?_)
   refine HLL.out.mono ?_
   rintro e w9 ⟨rfl, hb9⟩
   have hBy := hBz.trans (hb9.mono hBz.size)
   go_wp2
   go_ret2
   exact ⟨⟨_, _, rfl, hA2⟩, hBy⟩
 · have hBz := HB0.out.trans (hB7.mono HB0.out.size)
   clear HRQ HLQ HLI hsp hB7
   go_wp2_with fail
   go_ret2
   exact ⟨⟨_, _, rfl, hA⟩, hBz⟩
end
end Go.Proofs.YtakgolbgeeoioaaGreat

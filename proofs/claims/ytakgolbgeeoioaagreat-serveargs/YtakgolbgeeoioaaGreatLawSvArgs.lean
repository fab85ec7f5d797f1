/-
 The law ServeArgs.
-/
import Derived.Test.YtakgolbgeeoioaaGreatSvFindSNilSvValSvAnsSvAw
import Derived.Test.YtakgolbgeeoioaaGreatYDo
import Derived.Test.YtakgolbgeeoioaaGreatOpQry
import Derived.Deep.WholeRow
namespace Go.Proofs.YtakgolbgeeoioaaGreat
open Go.RowKit

section
attribute [-go_sem] loadVar
set_option maxRecDepth 100000 in
set_option maxHeartbeats 4000000 in
theorem law_sargs (oa : Option Addr) (n cap : Nat) (os : List OpR) (hl : os.length = n) (_ : n ≤ cap) (_ : n ≤ 9223372036854775807) (hb : ∀ x ∈ os, BndO x) (q : Qry) (hq : BndY q) (w : World) (hr : RowG opK w oa os) :
 Calls Tryz.prog 6 #[.slice oa n cap, .agg q.enc] w fun e w' => e = .returned (.bool true) ∧ Below w.heap.size w w' := by
 obtain ⟨k, a, b, key⟩ := q
 obtain ⟨hqk, hqa, hqb, hqz⟩ := hq
 dsimp only at hqk hqa hqb hqz
 change Calls Tryz.prog 6 #[.slice oa n cap, .agg #[.int .i64 k, .int .i64 a, .int .i64 b, .string key]] w _
 obtain ⟨w0, hw0⟩ : ∃ w0, w.alloc (.cells #[.int .i64 k, .int .i64 a, .int .i64 b, .string key] 49) = w0 := ⟨_, rfl⟩
 have hb0 : Below w.heap.size w w0 := by rw [← hw0]; exact (Below.refl _ w).alloc (Nat.le_refl _) _
 have kq : Blk w0 w.heap.size 49 #[.int .i64 k, .int .i64 a, .int .i64 b, .string key] := by rw [← hw0]; exact Blk.new _ _ _
 have hg0 : w.heap.size < w0.heap.size := kq.lt
 have HQL : Hid (∀ X, Below w0.heap.size w0 X → (loadVar 49 ⟨w.heap.size, 0, none⟩).run Tryz.prog X = .ok (.agg #[.int .i64 k, .int .i64 a, .int .i64 b, .string key]) X ∧ (loadVar 3 ⟨w.heap.size, 0, none⟩).run Tryz.prog X = .ok (.int .i64 k) X ∧ (loadVar 9 ⟨w.heap.size, 3, none⟩).run Tryz.prog X = .ok (.string key) X) := Lib.hid fun X hX =>
  ⟨run_loadVar_row X w.heap.size 49 49 _ (0, 0) _ (kq.below hX kq.lt) Tryz.underlying49 rfl (by kernel_rfl), num_load ((kq.below hX kq.lt).cell 0), txt_load ((kq.below hX kq.lt).cell 3)⟩
 have HW0 := Lib.hid hw0
 have HB0 := Lib.hid hb0
 have HAW := Lib.hid (fun W => awake13_any W)
 have HMK := Lib.hid (fun W => make_std W)
 have hr0 := hr.below hb0
 have HF1 := Lib.hid (fun W (hW : Below w0.heap.size w0 W) => rfewO_any oa n cap 15 os hl (by decide) W (hr0.below hW))
 have HR1 := Lib.hid (show ∀ W e w', RFewO n 15 os W e w' = ((∃ b, e = .returned (.bool b) ∧ (b = true → n ≤ 15 ∧ ∀ x ∈ os, smallB x.r = true)) ∧ Below W.heap.size W w') from fun _ _ _ => rfl)
 obtain ⟨P1, hP1⟩ : ∃ P, playW os = P := ⟨_, rfl⟩
 have HD1 : Hid (∀ W, Below w0.heap.size w0 W → n ≤ 15 → (∀ x ∈ os, smallB x.r = true) → Calls Tryz.prog 10 #[.agg tabV, .slice oa n cap] W fun e w' => ∃ cs ds, e = .returned (.tuple #[.agg cs, .agg ds, .bool true]) ∧ StC w' (geP W.heap.size) cs P1 ∧ WdC w' (geP W.heap.size) ds P1 ∧ Below W.heap.size W w') := Lib.hid fun W hW h1 h2 => by
  rw [← hP1]
  exact do_any oa n cap os hl (by omega) h2 (by assumption) W (hr0.below hW)
 have HI1 : Hid (InvW P1) := Lib.hid (by rw [← hP1]; exact InvW.play os)
 clear hr hr0 hP1 hb hw0 hb0 kq
 go_enter Tryz.func6, Tryz.ntmps6
 go_wp2_with (rw [HW0.out])
 refine (HAW.out _).mono ?_
 rintro e w1 ⟨rfl, hb1⟩
 go_wp2_with fail
 refine (HF1.out _ hb1).mono ?_
 rintro e w2 he
 rw [HR1.out] at he
 obtain ⟨⟨b, rfl, hbt⟩, hbf⟩ := he
 have hb2 := hb1.trans (hbf.mono hb1.size)
 clear hbf
 cases b with
 | false =>
  clear hbt
  go_wp2_with fail
  refine (HAW.out _).mono ?_
  rintro e w52 ⟨rfl, hb52⟩
  have hx52 := hb2.trans (hb52.mono hb2.size)
  go_wp2
  go_ret
  exact ⟨rfl, HB0.out.trans (hx52.mono HB0.out.size)⟩
 | true =>
  obtain ⟨hn1, hs1⟩ := hbt rfl
  clear hbt
  obtain ⟨_, _, lk⟩ := HQL.out _ hb2
  by_cases hkl : 100 < key.size
  · have hkl' : (100 : Int) < (key.size : Int) := by omega
    go_wp2_with fail
    refine (HAW.out _).mono ?_
    rintro e w60 ⟨rfl, hb60⟩
    have hx60 := hb2.trans (hb60.mono hb2.size)
    go_wp2
    go_ret
    exact ⟨rfl, HB0.out.trans (hx60.mono HB0.out.size)⟩
  have hkl' : ¬ (100 : Int) < (key.size : Int) := by omega
  go_wp2_with fail
  refine (HMK.out _).mono ?_
  rintro e wm ⟨rfl, hbm⟩
  have hbn := hb2.trans (hbm.mono hb2.size)
  have hl3 := tab_run (Blk.new wm 29 tabV)
  go_wp2_with (refine wpList_store_row rfl 29 _ _ rfl wm.heap.size tabV rfl rfl 29 zero72 (Blk.new _ _ _) (by rw [tabV_size]; exact infoTable) (by kernel_rfl) (by kernel_rfl) ?_; rw [World.setRow_alloc_new])
  have hb5 := hbn.alloc hbn.size (.cells tabV 29)
  have kT : Blk (wm.alloc (.cells tabV 29)) wm.heap.size 29 tabV := Blk.new _ _ _
  clear hbm hbn
  generalize wm.alloc (.cells tabV 29) = w5 at *
  generalize wm.heap.size = gt at *
  refine (HD1.out w5 hb5 hn1 hs1).mono ?_
  rintro e wd ⟨cs, ds, rfl, hS, hD, hbd⟩
  replace kT := kT.below hbd kT.lt
  have hbe := hb5.trans (hbd.mono hb5.size)
  clear hl3 lk
  have zs6 := zeroS
  have zw6 := zeroW
  obtain ⟨wA6, hwA⟩ : ∃ wA, ((wd.alloc (.cells zeroSt 40)).alloc (.cells zeroWd 43)) = wA := ⟨_, rfl⟩
  have bA : Below wd.heap.size wd wA6 := by rw [← hwA]; exact ((Below.refl _ wd).alloc (Nat.le_refl _) _).alloc (by simp) _
  have kA : Blk wA6 wd.heap.size 40 zeroSt := by rw [← hwA]; exact (Blk.new _ _ _).alloc _
  have kB : Blk wA6 (wd.heap.size + 1) 43 zeroWd := by rw [← hwA]; exact Blk.new_at (by simp)
  obtain ⟨w6, hw6⟩ : ∃ x, (wA6.setRow wd.heap.size cs).setRow (wd.heap.size + 1) ds = x := ⟨_, rfl⟩
  have ks : Blk w6 wd.heap.size 40 cs := by rw [← hw6]; exact Blk.setRow (setRow_heap wA6 _ zeroSt cs 40 (0, 0) kA) (by omega) _
  have kw : Blk w6 (wd.heap.size + 1) 43 ds := by rw [← hw6]; exact setRow_heap _ _ zeroWd ds 43 (0, 0) (Blk.setRow kB (by omega) _)
  have b6 : Below wd.heap.size wd w6 := by rw [← hw6]; exact (bA.grown (only_setRow (grown_refl wA6 (some wd.heap.size)) cs) bA.size (fun k hk => by injection hk; omega)).grown (only_setRow (grown_refl _ (some (wd.heap.size + 1))) ds) (by have := bA.size; simp; omega) (fun k hk => by injection hk; omega)
  have HWA6 := Lib.hid hwA
  have HW6 := Lib.hid hw6
  have HKA6 := Lib.hid kA
  have HKB6 := Lib.hid kB
  have HIA6 : Hid ((Tryz.prog.info? 40).map (·.size) = some (cs : Array Value).size) := Lib.hid (by rw [hS.size]; exact infoS)
  have HIB6 : Hid ((Tryz.prog.info? 43).map (·.size) = some (ds : Array Value).size) := Lib.hid (by rw [hD.size]; kernel_rfl)
  have HSA6 : Hid ((zeroSt : Array Value).size = (cs : Array Value).size) := Lib.hid (by rw [hS.size]; rfl)
  have HSB6 : Hid ((zeroWd : Array Value).size = (ds : Array Value).size) := Lib.hid (by rw [hD.size]; rfl)
  have HOA6 : Hid (((cs : Array Value).all fun x => x.oneCell') = true) := Lib.hid hS.one
  have HOB6 : Hid (((ds : Array Value).all fun x => x.oneCell') = true) := Lib.hid hD.one
  clear hwA hw6 kA kB bA
  replace kT := kT.below b6 kT.lt
  have hb6 := hbe.trans (b6.mono hbe.size)
  have hS6 := hS.below b6
  have hD6 := hD.below b6
  have HAN := Lib.hid (answer_any _ cs P1 HI1.out ⟨k, a, b, key⟩ hqa hqb (by show key.size ≤ _; omega) w6 hS6)
  change Hid (Calls Tryz.prog 11 #[.agg tabV, .agg cs, .agg #[.int .i64 k, .int .i64 a, .int .i64 b, .string key]] w6 _) at HAN
  obtain ⟨va, vb, hcs, _, ⟨ob, cb, hvb, _, _, _, _⟩⟩ := hS6
  have HHL : Hid (∀ X, Below w6.heap.size w6 X → (loadVar 38 ⟨wd.heap.size, 21, none⟩).run Tryz.prog X = .ok (.slice ob P1.hd.length cb) X) := Lib.hid fun X hX => by
   have := (ks.below hX ks.lt).cell 21
   rw [hcs, hvb] at this
   exact sl_hd this
  have l1 := st_load hS.size ks
  have l2 := tab_run kT
  obtain ⟨l3, _, _⟩ := HQL.out _ hb6
  have HT : Hid (∀ s e, Ans P1.tk P1.hd ⟨k, a, b, key⟩ s e → ((k < 0 ∨ 3 < k) → e = 1 ∧ s = ⟨#[]⟩) ∧ ((P1.hd.length = 0 ∧ 0 ≤ k ∧ k ≤ 3 ∧ (k ≠ 3 ∨ key.size ≤ 50)) → e = 5 ∧ s = ⟨#[]⟩) ∧ ((e = 0 ∧ s.size ≠ 0) ∨ (s = ⟨#[]⟩ ∧ (e = 5 ∨ e = 1)))) := Lib.hid fun s e h => by
   obtain ⟨h1, h2, h3⟩ := ans_told h
   exact ⟨h1, fun h4 => h2 ⟨List.length_eq_zero_iff.1 h4.1, h4.2⟩, h3⟩
  generalize Ans P1.tk P1.hd ⟨k, a, b, key⟩ = PA at *
  generalize P1.hd.length = m at *
  clear hS hD hD6 hbe hbd kw hcs hvb kT
  go_wp2_with (first
    | rw [HWA6.out]
    | (refine wpList_store_row rfl 40 _ _ rfl wd.heap.size cs rfl rfl 40 zeroSt HKA6.out HIA6.out HSA6.out HOA6.out ?_)
    | (refine wpList_store_row rfl 43 _ _ rfl (wd.heap.size + 1) ds rfl rfl 43 zeroWd (Blk.setRow HKB6.out (by omega) _) HIB6.out HSB6.out HOB6.out ?_; rw [HW6.out]))
  refine HAN.out.mono ?_
  rintro e w7 ⟨⟨s, x, rfl, hA⟩, hb7⟩
  have hB7 := hb6.trans (hb7.mono hb6.size)
  have hBz := HB0.out.trans (hB7.mono HB0.out.size)
  obtain ⟨_, m1, m2⟩ := HQL.out _ hB7
  have m3 := HHL.out w7 hb7
  obtain ⟨t1, t2, t3⟩ := HT.out s x hA
  clear HAN HHL HQL HT l1 l2 l3 ks hb7 hB7 hb6 HI1 HD1 HF1 HAW HMK hA
  by_cases c1 : k < 0
  · obtain ⟨rfl, rfl⟩ := t1 (.inl c1)
    clear t1 t2 t3
    go_wp2_with fail
    go_ret
    exact ⟨rfl, hBz⟩
  by_cases c2 : 3 < k
  · obtain ⟨rfl, rfl⟩ := t1 (.inr c2)
    clear t1 t2 t3
    go_wp2_with fail
    go_ret
    exact ⟨rfl, hBz⟩
  clear t1
  by_cases c3 : m = 0
  · subst c3
    have e0 : (((0 : Nat) : Int) == 0) = true := rfl
    by_cases c4 : k = 3
    · subst c4
      by_cases c5 : key.size ≤ 50
      · have c5' : (key.size : Int) ≤ 50 := by omega
        obtain ⟨rfl, rfl⟩ := t2 ⟨rfl, by omega, by omega, .inr c5⟩
        clear t2 t3
        go_wp2_with fail
        go_ret
        exact ⟨rfl, hBz⟩
      · have c5' : ¬ (key.size : Int) ≤ 50 := by omega
        clear t2
        rcases t3 with ⟨rfl, hs⟩ | ⟨rfl, rfl | rfl⟩
        · have hs1 : s.toList.isEmpty = false := by rw [toList_nil', decide_eq_false_iff_not]; exact hs
          clear hs
          go_wp2_with fail
          go_ret
          exact ⟨rfl, hBz⟩
        · skip
          go_wp2_with fail
          go_ret
          exact ⟨rfl, hBz⟩
        · skip
          go_wp2_with fail
          go_ret
          exact ⟨rfl, hBz⟩
    · have c4' : (k != 3) = true := bne_iff_ne.2 c4
      obtain ⟨rfl, rfl⟩ := t2 ⟨rfl, by omega, by omega, .inl c4⟩
      clear t2 t3
      go_wp2_with fail
      go_ret
      exact ⟨rfl, hBz⟩
  · have e0 : ((m : Int) == 0) = false := by rw [beq_eq_false_iff_ne]; omega
    clear t2
    rcases t3 with ⟨rfl, hs⟩ | ⟨rfl, rfl | rfl⟩
    · have hs1 : s.toList.isEmpty = false := by rw [toList_nil', decide_eq_false_iff_not]; exact hs
      clear hs
      go_wp2_with fail
      go_ret
      exact ⟨rfl, hBz⟩
    · skip
      go_wp2_with fail
      go_ret
      exact ⟨rfl, hBz⟩
    · skip
      go_wp2_with fail
      go_ret
      exact ⟨rfl, hBz⟩
end
end Go.Proofs.YtakgolbgeeoioaaGreat

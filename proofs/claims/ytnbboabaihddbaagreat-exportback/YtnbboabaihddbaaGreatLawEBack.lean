/-
 The law ExportBack.
-/
import Derived.Test.YtnbboabaihddbaaGreatEAwMRefRt
import Derived.Test.YtnbboabaihddbaaGreatEImp
import Derived.Test.YtnbboabaihddbaaGreatEByt
import Derived.Test.YtnbboabaihddbaaGreatYDo
import Derived.Test.YtnbboabaihddbaaGreatYSame
import Derived.Deep.WholeRow
namespace Go.Proofs.YtnbboabaihddbaaGreat
open Go.RowKit

section
attribute [-go_sem] loadVar
set_option maxRecDepth 100000 in
set_option maxHeartbeats 4000000 in
theorem law_eback (oa : Option Addr) (n cap : Nat) (os : List OpR) (hl : os.length = n) (_ : n ≤ cap) (_ : n ≤ 9223372036854775807) (hb : ∀ x ∈ os, BndO x) (w : World) (hr : RowG opK w oa os) :
 Calls Tryz.prog 4 #[.slice oa n cap] w fun e w' => e = .returned (.bool true) ∧ Below w.heap.size w w' := by
 have HAW := Lib.hid (fun W => awake12_any W)
 have HMK := Lib.hid (fun W => make_std W)
 have HF1 := Lib.hid (fun W (hW : Below w.heap.size w W) => rfewO_any oa n cap 40 os hl (by decide) W (hr.below hW))
 have HR1 := Lib.hid (show ∀ W e w', RFewO n 40 os W e w' = ((∃ b, e = .returned (.bool b) ∧ (b = true → n ≤ 40 ∧ ∀ x ∈ os, smallB x.r = true)) ∧ Below W.heap.size W w') from fun _ _ _ => rfl)
 have HT1 := Lib.hid (fun W (hW : Below w.heap.size w W) (h : n ≤ 40) => times_any oa n cap os hl (by omega) W (hr.below hW))
 have HU1 := Lib.hid (show ∀ W e w', RTimes os W e w' = ((∃ b, e = .returned (.bool b) ∧ (b = true → ∀ x ∈ os, x.now ≤ 2147483647)) ∧ Below W.heap.size W w') from fun _ _ _ => rfl)
 obtain ⟨P1, hP1⟩ : ∃ P, playW os = P := ⟨_, rfl⟩
 have HD1 : Hid (∀ W, Below w.heap.size w W → n ≤ 40 → (∀ x ∈ os, smallB x.r = true) → Calls Tryz.prog 12 #[.agg tabV, .slice oa n cap] W fun e w' => ∃ cs ds, e = .returned (.tuple #[.agg cs, .agg ds, .bool true]) ∧ StC w' (geP W.heap.size) cs P1 ∧ WdC w' (geP W.heap.size) ds P1 ∧ Below W.heap.size W w') := Lib.hid fun W hW h1 h2 => by
  rw [← hP1]
  exact do_any oa n cap os hl (by omega) h2 (by assumption) W (hr.below hW)
 have HO1 : Hid ((∀ x ∈ os, x.now ≤ 2147483647) → OwnW P1) := Lib.hid fun h => by rw [← hP1]; exact OwnW.play os h
 clear hr hP1 hb
 go_enter Tryz.func4, Tryz.ntmps4
 go_wp2_with fail
 refine (HAW.out _).mono ?_
 rintro e w1 ⟨rfl, hb1⟩
 go_wp2_with fail
 refine (HF1.out _ hb1).mono ?_
 rintro e w2 he
 rw [HR1.out] at he
 obtain ⟨⟨b, rfl, hbt⟩, hbf⟩ := he
 have hb2 := hb1.trans (hbf.mono hb1.size)
 clear hbf
 cases b with
 | false =>
  clear hbt
  go_wp2_with fail
  refine (HAW.out _).mono ?_
  rintro e w52 ⟨rfl, hb52⟩
  have hx52 := hb2.trans (hb52.mono hb2.size)
  go_wp2
  go_ret
  exact ⟨rfl, hx52⟩
 | true =>
  obtain ⟨hn1, hs1⟩ := hbt rfl
  clear hbt
  go_wp2_with fail
  refine (HT1.out _ hb2 hn1).mono ?_
  rintro e w3 he
  rw [HU1.out] at he
  obtain ⟨⟨b, rfl, hbt⟩, hbf⟩ := he
  have hb3 := hb2.trans (hbf.mono hb2.size)
  clear hbf
  cases b with
  | false =>
   clear hbt
   go_wp2_with fail
   refine (HAW.out _).mono ?_
   rintro e w53 ⟨rfl, hb53⟩
   have hx53 := hb3.trans (hb53.mono hb3.size)
   go_wp2
   go_ret
   exact ⟨rfl, hx53⟩
  | true =>
   have ho1 := HO1.out (hbt rfl)
   clear hbt
   go_wp2_with fail
   refine (HMK.out _).mono ?_
   rintro e wm ⟨rfl, hbm⟩
   have hbn := hb3.trans (hbm.mono hb3.size)
   have hl3 := tab_run (Blk.new wm 30 tabV)
   go_wp2_with (refine wpList_store_row rfl 30 _ _ rfl wm.heap.size tabV rfl rfl 30 zero72 (Blk.new _ _ _) (by rw [tabV_size]; exact infoTable) (by kernel_rfl) (by kernel_rfl) ?_; rw [World.setRow_alloc_new])
   have hb5 := hbn.alloc hbn.size (.cells tabV 30)
   have kT : Blk (wm.alloc (.cells tabV 30)) wm.heap.size 30 tabV := Blk.new _ _ _
   clear hbm hbn
   generalize wm.alloc (.cells tabV 30) = w5 at *
   generalize wm.heap.size = gt at *
   refine (HD1.out w5 hb5 hn1 hs1).mono ?_
   rintro e wd ⟨cs, ds, rfl, hS, hD, hbd⟩
   replace kT := kT.below hbd kT.lt
   have hbe := hb5.trans (hbd.mono hb5.size)
   clear hl3
   have zs6 := zeroS
   have zw6 := zeroW
   obtain ⟨wA6, hwA⟩ : ∃ wA, ((wd.alloc (.cells zeroSt 41)).alloc (.cells zeroWd 44)) = wA := ⟨_, rfl⟩
   have bA : Below wd.heap.size wd wA6 := by rw [← hwA]; exact ((Below.refl _ wd).alloc (Nat.le_refl _) _).alloc (by simp) _
   have kA : Blk wA6 wd.heap.size 41 zeroSt := by rw [← hwA]; exact (Blk.new _ _ _).alloc _
   have kB : Blk wA6 (wd.heap.size + 1) 44 zeroWd := by rw [← hwA]; exact Blk.new_at (by simp)
   obtain ⟨w6, hw6⟩ : ∃ x, (wA6.setRow wd.heap.size cs).setRow (wd.heap.size + 1) ds = x := ⟨_, rfl⟩
   have ks : Blk w6 wd.heap.size 41 cs := by rw [← hw6]; exact Blk.setRow (setRow_heap wA6 _ zeroSt cs 41 (0, 0) kA) (by omega) _
   have kw : Blk w6 (wd.heap.size + 1) 44 ds := by rw [← hw6]; exact setRow_heap _ _ zeroWd ds 44 (0, 0) (Blk.setRow kB (by omega) _)
   have b6 : Below wd.heap.size wd w6 := by rw [← hw6]; exact (bA.grown (only_setRow (grown_refl wA6 (some wd.heap.size)) cs) bA.size (fun k hk => by injection hk; omega)).grown (only_setRow (grown_refl _ (some (wd.heap.size + 1))) ds) (by have := bA.size; simp; omega) (fun k hk => by injection hk; omega)
   have HWA6 := Lib.hid hwA
   have HW6 := Lib.hid hw6
   have HKA6 := Lib.hid kA
   have HKB6 := Lib.hid kB
   have HIA6 : Hid ((Tryz.prog.info? 41).map (·.size) = some (cs : Array Value).size) := Lib.hid (by rw [hS.size]; exact infoS)
   have HIB6 : Hid ((Tryz.prog.info? 44).map (·.size) = some (ds : Array Value).size) := Lib.hid (by rw [hD.size]; kernel_rfl)
   have HSA6 : Hid ((zeroSt : Array Value).size = (cs : Array Value).size) := Lib.hid (by rw [hS.size]; rfl)
   have HSB6 : Hid ((zeroWd : Array Value).size = (ds : Array Value).size) := Lib.hid (by rw [hD.size]; rfl)
   have HOA6 : Hid (((cs : Array Value).all fun x => x.oneCell') = true) := Lib.hid hS.one
   have HOB6 : Hid (((ds : Array Value).all fun x => x.oneCell') = true) := Lib.hid hD.one
   clear hwA hw6 kA kB bA
   replace kT := kT.below b6 kT.lt
   have hb6 := hbe.trans (b6.mono hbe.size)
   have hS6 := hS.below b6
   have hD6 := hD.below b6
   have l1 := st_load hS.size ks
   have HEX := Lib.hid (export_any _ cs P1 ho1.1 w6 hS6)
   have HEZ := Lib.hid (expB_size ho1.1)
   have HOW := Lib.hid ho1
   obtain ⟨EX, hEX⟩ : ∃ EX, expB P1 = EX := ⟨_, rfl⟩
   rw [hEX] at HEX HEZ
   have HEE := Lib.hid hEX
   have HDS := Lib.hid hD.size
   clear hEX hS hD hbe hbd
   go_wp2_with (first
    | rw [HWA6.out]
    | (refine wpList_store_row rfl 41 _ _ rfl wd.heap.size cs rfl rfl 41 zeroSt HKA6.out HIA6.out HSA6.out HOA6.out ?_)
    | (refine wpList_store_row rfl 44 _ _ rfl (wd.heap.size + 1) ds rfl rfl 44 zeroWd (Blk.setRow HKB6.out (by omega) _) HIB6.out HSB6.out HOB6.out ?_; rw [HW6.out]))
   refine HEX.out.mono ?_
   rintro e w7 ⟨rfl, hb7⟩
   have hB7 := hb6.trans (hb7.mono hb6.size)
   have kT7 := kT.below hb7 kT.lt
   have kw7 := kw.below hb7 kw.lt
   have hD7 := hD6.below hb7
   have lT := tab_run kT7
   have HIM := Lib.hid (import_any EX (by have := HEZ.out; omega) w7)
   have HRM := Lib.hid (show ∀ e w', RImp EX w7 e w' = (((e = .returned (.tuple #[.agg zeroSt, .int .i64 2]) ∧ ∀ V, OwnW V → expB V ≠ EX) ∨
    (∃ W cs, e = .returned (.tuple #[.agg cs, .int .i64 0]) ∧ StC w' (geP w7.heap.size) cs W ∧ InvW W ∧ expB W = EX ∧ ∀ V, OwnW V → expB V = EX → V = W)) ∧ Below w7.heap.size w7 w') from fun _ _ => rfl)
   generalize RImp EX w7 = PI at *
   clear l1 hb6 hb7 kT kw hD6 hS6 ks HEX
   go_wp2_with fail
   refine HIM.out.mono ?_
   rintro e w8 he
   rw [HRM.out] at he
   obtain ⟨he, hb8⟩ := he
   obtain ⟨W, cs2, rfl, hX, hi, _, huq⟩ := he.resolve_left (fun h => h.2 P1 HOW.out HEE.out)
   obtain rfl := huq P1 HOW.out HEE.out
   have hB8 := hB7.trans (hb8.mono hB7.size)
   have kw8 := kw7.below hb8 kw7.lt
   have hD8 := hD7.below hb8
   obtain ⟨w9, hw9⟩ : ∃ w9, w8.alloc (.cells cs2 41) = w9 := ⟨_, rfl⟩
   have hb9 : Below w8.heap.size w8 w9 := by rw [← hw9]; exact (Below.refl _ w8).alloc (Nat.le_refl _) _
   have k9 : Blk w9 w8.heap.size 41 cs2 := by rw [← hw9]; exact Blk.new _ _ _
   have hB9 := hB8.trans (hb9.mono hB8.size)
   have kw9 := kw8.below hb9 kw8.lt
   have hD9 := hD8.below hb9
   have hX9 := hX.below hb9
   have HW9 := Lib.hid hw9
   have HIS : Hid ((Tryz.prog.info? 41).map (·.size) = some (cs2 : Array Value).size) := Lib.hid (by rw [hX.size]; exact infoS)
   have HOS := Lib.hid hX.one
   have HCS : Hid ((zeroSt : Array Value).size = cs2.size) := Lib.hid (by rw [hX.size]; rfl)
   have HDZ := HDS
   have d9 := wd_load HDS.out kw9
   have HBY := Lib.hid (rbytes_any _ ds P1 hi w9 hD9)
   rw [HEE.out] at HBY
   have zs9 := zeroS
   clear he huq lT kT7 hB7 hb8 kw7 hD7 hB8 kw8 hD8 hw9 HIM HRM
   go_wp2_with (refine wpList_store_row rfl 41 _ _ rfl w8.heap.size cs2 rfl rfl 41 zeroSt (Blk.new _ _ _) HIS.out HCS.out HOS.out ?_; rw [World.setRow_alloc_new, HW9.out])
   refine HBY.out.mono ?_
   rintro e w10 ⟨rfl, hb10⟩
   have hB10 := hB9.trans (hb10.mono hB9.size)
   have dx := st_load hX9.size (k9.below hb10 k9.lt)
   have dw := wd_load HDS.out (kw9.below hb10 kw9.lt)
   have HSM := Lib.hid (same11_any _ _ cs2 ds P1 hi w10 (hX9.below hb10) (hD9.below hb10))
   clear d9 hB9 hb9 hb10 k9 kw9 hD9 hX9 hX hi
   go_wp2_with fail
   refine HSM.out.mono ?_
   rintro e w11 ⟨rfl, hb11⟩
   have hB11 := hB10.trans (hb11.mono hB10.size)
   go_wp2
   go_ret
   exact ⟨rfl, hB11⟩
end
end Go.Proofs.YtnbboabaihddbaaGreat

/-
 The law ExportReads.
-/
import Derived.Test.YtnbboabaihddbaaGreatEAwMRefRt
import Derived.Test.YtnbboabaihddbaaGreatEReads
import Derived.Test.YtnbboabaihddbaaGreatYDo
import Derived.Test.YtnbboabaihddbaaGreatBent
import Derived.Deep.WholeRow
namespace Go.Proofs.YtnbboabaihddbaaGreat
open Go.RowKit

theorem u8_load {w : World} {p : Addr} {x : Int} (h : w.cell? p = some (.int .u8 x)) : (loadVar 5 p).run Tryz.prog w = .ok (.int .u8 x) w := by
 go_simp
theorem expB_pos (W : Wd) : 1 ≤ (expB W).size := by
 unfold expB
 rw [ByteArray.size_append, ByteArray.size_append]
 show 1 ≤ 1 + _ + _
 omega
theorem bent_lt (s : ByteArray) (j : Nat) : (nums s).getD j 0 < 256 := by
 rw [List.getD_eq_getElem?_getD]
 cases h : (nums s)[j]? with
 | none => decide
 | some x => exact nums_lt s x (List.mem_of_getElem? h)
section
attribute [-go_sem] loadVar
set_option maxRecDepth 100000 in
set_option maxHeartbeats 4000000 in
theorem law_ereads (oa : Option Addr) (n cap : Nat) (os : List OpR) (hl : os.length = n) (_ : n ≤ cap) (_ : n ≤ 9223372036854775807) (hb : ∀ x ∈ os, BndO x) (raw : ByteArray) (_ : raw.size ≤ 9223372036854775807) (x0 x1 : Int) (hx : (0 ≤ x0 ∧ x0 ≤ 65535) ∧ (0 ≤ x1 ∧ x1 ≤ 65535)) (w : World) (hr : RowG opK w oa os) :
 Calls Tryz.prog 6 #[.slice oa n cap, .string raw, .agg #[.int .u16 x0, .int .u16 x1]] w fun e w' => e = .returned (.bool true) ∧ Below w.heap.size w w' := by
 obtain ⟨n0, rfl⟩ : ∃ n : Nat, x0 = n := ⟨x0.toNat, by omega⟩
 obtain ⟨n1, rfl⟩ : ∃ n : Nat, x1 = n := ⟨x1.toNat, by omega⟩
 have HAW := Lib.hid (fun W => awake12_any W)
 have HMK := Lib.hid (fun W => make_std W)
 obtain ⟨w0, hw0⟩ : ∃ w0, w.alloc (.cells #[.int .u16 n0, .int .u16 n1] 65) = w0 := ⟨_, rfl⟩
 have hb0 : Below w.heap.size w w0 := by rw [← hw0]; exact (Below.refl _ w).alloc (Nat.le_refl _) _
 have k0 : Blk w0 w.heap.size 65 #[.int .u16 n0, .int .u16 n1] := by rw [← hw0]; exact Blk.new _ _ _
 have hr0 := hr.below hb0
 have HF1 := Lib.hid (fun W (hW : Below w0.heap.size w0 W) => rfewO_any oa n cap 12 os hl (by decide) W (hr0.below hW))
 have HR1 := Lib.hid (show ∀ W e w', RFewO n 12 os W e w' = ((∃ b, e = .returned (.bool b) ∧ (b = true → n ≤ 12 ∧ ∀ x ∈ os, smallB x.r = true)) ∧ Below W.heap.size W w') from fun _ _ _ => rfl)
 have HT1 := Lib.hid (fun W (hW : Below w0.heap.size w0 W) (h : n ≤ 12) => times_any oa n cap os hl (by omega) W (hr0.below hW))
 have HU1 := Lib.hid (show ∀ W e w', RTimes os W e w' = ((∃ b, e = .returned (.bool b) ∧ (b = true → ∀ x ∈ os, x.now ≤ 2147483647)) ∧ Below W.heap.size W w') from fun _ _ _ => rfl)
 obtain ⟨P1, hP1⟩ : ∃ P, playW os = P := ⟨_, rfl⟩
 have HD1 : Hid (∀ W, Below w0.heap.size w0 W → n ≤ 12 → (∀ x ∈ os, smallB x.r = true) → Calls Tryz.prog 12 #[.agg tabV, .slice oa n cap] W fun e w' => ∃ cs ds, e = .returned (.tuple #[.agg cs, .agg ds, .bool true]) ∧ StC w' (geP W.heap.size) cs P1 ∧ WdC w' (geP W.heap.size) ds P1 ∧ Below W.heap.size W w') := Lib.hid fun W hW h1 h2 => by
  rw [← hP1]
  exact do_any oa n cap os hl (by omega) h2 (by assumption) W (hr0.below hW)
 have HO1 : Hid ((∀ x ∈ os, x.now ≤ 2147483647) → OwnW P1) := Lib.hid fun h => by rw [← hP1]; exact OwnW.play os h
 have HW0 := Lib.hid hw0
 have HKB : Hid (∀ X, Below w0.heap.size w0 X → Blk X w.heap.size 65 #[.int .u16 n0, .int .u16 n1]) := Lib.hid fun X hX => k0.below hX k0.lt
 have hg0 : w.heap.size < w0.heap.size := k0.lt
 have HB0 := Lib.hid hb0
 have HX := Lib.hid hx
 clear hr hr0 hP1 hb hw0 k0 hb0 hx
 go_enter Tryz.func6, Tryz.ntmps6
 go_wp2_with (rw [HW0.out])
 refine (HAW.out _).mono ?_
 rintro e w1 ⟨rfl, hb1⟩
 go_wp2_with fail
 refine (HF1.out _ hb1).mono ?_
 rintro e w2 he
 rw [HR1.out] at he
 obtain ⟨⟨b, rfl, hbt⟩, hbf⟩ := he
 have hb2 := hb1.trans (hbf.mono hb1.size)
 clear hbf
 cases b with
 | false =>
  clear hbt
  go_wp2_with fail
  refine (HAW.out _).mono ?_
  rintro e w52 ⟨rfl, hb52⟩
  have hx52 := hb2.trans (hb52.mono hb2.size)
  go_wp2
  go_ret
  exact ⟨rfl, HB0.out.trans (hx52.mono HB0.out.size)⟩
 | true =>
  obtain ⟨hn1, hs1⟩ := hbt rfl
  clear hbt
  by_cases hraw : 1500 < raw.size
  · have hraw' : (1500 : Int) < (raw.size : Int) := by omega
    go_wp2_with fail
    refine (HAW.out _).mono ?_
    rintro e w60 ⟨rfl, hb60⟩
    have hx60 := hb2.trans (hb60.mono hb2.size)
    go_wp2
    go_ret
    exact ⟨rfl, HB0.out.trans (hx60.mono HB0.out.size)⟩
  · have hraw' : ¬ (1500 : Int) < (raw.size : Int) := by omega
    go_wp2_with fail
    refine (HT1.out _ hb2 hn1).mono ?_
    rintro e w3 he
    rw [HU1.out] at he
    obtain ⟨⟨b, rfl, hbt⟩, hbf⟩ := he
    have hb3 := hb2.trans (hbf.mono hb2.size)
    clear hbf
    cases b with
    | false =>
     clear hbt
     go_wp2_with fail
     refine (HAW.out _).mono ?_
     rintro e w53 ⟨rfl, hb53⟩
     have hx53 := hb3.trans (hb53.mono hb3.size)
     go_wp2
     go_ret
     exact ⟨rfl, HB0.out.trans (hx53.mono HB0.out.size)⟩
    | true =>
     have ho1 := HO1.out (hbt rfl)
     clear hbt
     go_wp2_with fail
     refine (HMK.out _).mono ?_
     rintro e wm ⟨rfl, hbm⟩
     have hbn := hb3.trans (hbm.mono hb3.size)
     have hl3 := tab_run (Blk.new wm 30 tabV)
     go_wp2_with (refine wpList_store_row rfl 30 _ _ rfl wm.heap.size tabV rfl rfl 30 zero72 (Blk.new _ _ _) (by rw [tabV_size]; exact infoTable) (by kernel_rfl) (by kernel_rfl) ?_; rw [World.setRow_alloc_new])
     have hb5 := hbn.alloc hbn.size (.cells tabV 30)
     have kT : Blk (wm.alloc (.cells tabV 30)) wm.heap.size 30 tabV := Blk.new _ _ _
     clear hbm hbn
     generalize wm.alloc (.cells tabV 30) = w5 at *
     generalize wm.heap.size = gt at *
     refine (HD1.out w5 hb5 hn1 hs1).mono ?_
     rintro e wd ⟨cs, ds, rfl, hS, hD, hbd⟩
     replace kT := kT.below hbd kT.lt
     have hbe := hb5.trans (hbd.mono hb5.size)
     clear hl3
     have zs6 := zeroS
     have zw6 := zeroW
     obtain ⟨wA6, hwA⟩ : ∃ wA, ((wd.alloc (.cells zeroSt 41)).alloc (.cells zeroWd 44)) = wA := ⟨_, rfl⟩
     have bA : Below wd.heap.size wd wA6 := by rw [← hwA]; exact ((Below.refl _ wd).alloc (Nat.le_refl _) _).alloc (by simp) _
     have kA : Blk wA6 wd.heap.size 41 zeroSt := by rw [← hwA]; exact (Blk.new _ _ _).alloc _
     have kB : Blk wA6 (wd.heap.size + 1) 44 zeroWd := by rw [← hwA]; exact Blk.new_at (by simp)
     obtain ⟨w6, hw6⟩ : ∃ x, (wA6.setRow wd.heap.size cs).setRow (wd.heap.size + 1) ds = x := ⟨_, rfl⟩
     have ks : Blk w6 wd.heap.size 41 cs := by rw [← hw6]; exact Blk.setRow (setRow_heap wA6 _ zeroSt cs 41 (0, 0) kA) (by omega) _
     have kw : Blk w6 (wd.heap.size + 1) 44 ds := by rw [← hw6]; exact setRow_heap _ _ zeroWd ds 44 (0, 0) (Blk.setRow kB (by omega) _)
     have b6 : Below wd.heap.size wd w6 := by rw [← hw6]; exact (bA.grown (only_setRow (grown_refl wA6 (some wd.heap.size)) cs) bA.size (fun k hk => by injection hk; omega)).grown (only_setRow (grown_refl _ (some (wd.heap.size + 1))) ds) (by have := bA.size; simp; omega) (fun k hk => by injection hk; omega)
     have HWA6 := Lib.hid hwA
     have HW6 := Lib.hid hw6
     have HKA6 := Lib.hid kA
     have HKB6 := Lib.hid kB
     have HIA6 : Hid ((Tryz.prog.info? 41).map (·.size) = some (cs : Array Value).size) := Lib.hid (by rw [hS.size]; exact infoS)
     have HIB6 : Hid ((Tryz.prog.info? 44).map (·.size) = some (ds : Array Value).size) := Lib.hid (by rw [hD.size]; kernel_rfl)
     have HSA6 : Hid ((zeroSt : Array Value).size = (cs : Array Value).size) := Lib.hid (by rw [hS.size]; rfl)
     have HSB6 : Hid ((zeroWd : Array Value).size = (ds : Array Value).size) := Lib.hid (by rw [hD.size]; rfl)
     have HOA6 : Hid (((cs : Array Value).all fun x => x.oneCell') = true) := Lib.hid hS.one
     have HOB6 : Hid (((ds : Array Value).all fun x => x.oneCell') = true) := Lib.hid hD.one
     clear hwA hw6 kA kB bA
     replace kT := kT.below b6 kT.lt
     have hb6 := hbe.trans (b6.mono hbe.size)
     have hS6 := hS.below b6
     have hD6 := hD.below b6
     have l1 := st_load hS.size ks
     have HEX := Lib.hid (export_any _ cs P1 ho1.1 w6 hS6)
     have HEZ := Lib.hid (And.intro (expB_size ho1.1) (expB_pos P1))
     obtain ⟨EX, hEX⟩ : ∃ EX, expB P1 = EX := ⟨_, rfl⟩
     rw [hEX] at HEX HEZ
     clear hEX hS hD hbe hbd hS6 hD6 kw ks
     go_wp2_with (first
       | rw [HWA6.out]
       | (refine wpList_store_row rfl 41 _ _ rfl wd.heap.size cs rfl rfl 41 zeroSt HKA6.out HIA6.out HSA6.out HOA6.out ?_)
       | (refine wpList_store_row rfl 44 _ _ rfl (wd.heap.size + 1) ds rfl rfl 44 zeroWd (Blk.setRow HKB6.out (by omega) _) HIB6.out HSB6.out HOB6.out ?_; rw [HW6.out]))
     refine HEX.out.mono ?_
     rintro e w7 ⟨rfl, hb7⟩
     have hB7 := hb6.trans (hb7.mono hb6.size)
     have kT7 := kT.below hb7 kT.lt
     clear l1 hb6 hb7 kT HEX
     obtain ⟨w8, bcap, hrun, hcap, hcells, hgl, hb8⟩ := run_bytes_row (P := Tryz.prog) w7 9 66 5 EX Tryz.underlying9 Tryz.underlying66 Tryz.underlying5
     have hB8 := hB7.trans (hb8.mono hB7.size)
     have kT8 := kT7.below hb8 kT7.lt
     have hgT : gt < w7.heap.size := kT7.lt
     have hgB : w0.heap.size ≤ w7.heap.size := hB7.size
     generalize w7.heap.size = gb at *
     have HCL := Lib.hid hcells
     have hez := HEZ.out
     have hnz : ((EX.size : Int) == 0) = false := by rw [beq_eq_false_iff_ne]; omega
     have hnz2 : ¬ (EX.size : Int) = 0 := by omega
     have hne : ¬ EX = ByteArray.empty := fun h => by rw [h] at hez; exact absurd hez.2 (by decide)
     clear hb8 hcells hB7 kT7 hcap
     go_wp2_with fail
     clear hrun
     have hxx := HX.out
     obtain ⟨i, hi⟩ : ∃ i, n0 % EX.size = i := ⟨_, rfl⟩
     have hil : i < EX.size := by rw [← hi]; exact Nat.mod_lt _ (by omega)
     have e1 : (n0 : Int).tmod (EX.size : Int) = (i : Int) := by rw [Int.tmod_eq_emod_of_nonneg (by omega), ← Int.natCast_emod, hi]
     have e3 : IntKind.i64.wrap (n0 : Int) = (n0 : Int) := by rw [IntKind.wrap_i64]; omega
     have e4 : IntKind.i64.wrap (i : Int) = (i : Int) := by rw [IntKind.wrap_i64]; omega
     have hil' : (i : Int) < (EX.size : Int) := by omega
     have hi0 : (0 : Int) ≤ (i : Int) := by omega
     obtain ⟨hci, hfi⟩ := HCL.out i hil
     have ha := bent_lt EX i
     obtain ⟨y, hy, hyl⟩ := xor_byte ((nums EX).getD i 0) ha (n1 % 256) (by omega)
     have e2 : IntKind.u8.wrap (n1 : Int) = ((n1 % 256 : Nat) : Int) := by rw [IntKind.wrap_u8']; omega
     unfold U8 at hci
     generalize (nums EX).getD i 0 = a at *
     generalize n1 % 256 = z at *
     have HKL : Hid (∀ X, Below w0.heap.size w0 X → (fun X => (loadVar 64 ⟨w.heap.size, 0, none⟩).run Tryz.prog X = .ok (.int .u16 n0) X ∧ (loadVar 64 ⟨w.heap.size, 1, none⟩).run Tryz.prog X = .ok (.int .u16 n1) X) X) := Lib.hid fun X hX => ⟨half_load ((HKB.out X hX).cell 0), half_load ((HKB.out X hX).cell 1)⟩
     have hB9 := hB8.drew
     have hT9 : Blk w8.drew gt 30 tabV := kT8
     have c9 : w8.drew.cell? ⟨gb, i, none⟩ = some (.int .u8 a) := hci
     have f9 : w8.drew.frozen? ⟨gb, i, none⟩ = false := hfi
     have HC9 : Hid (∀ j, j < EX.size → w8.drew.cell? ⟨gb, j, none⟩ = some (U8 ((nums EX).getD j 0))) := Lib.hid (fun j hj => (HCL.out j hj).1)
     clear hci hfi hB8 kT8 HCL
     refine wp_region_held_drew (S := fun X => (loadVar 64 ⟨w.heap.size, 0, none⟩).run Tryz.prog X = .ok (.int .u16 n0) X ∧ (loadVar 64 ⟨w.heap.size, 1, none⟩).run Tryz.prog X = .ok (.int .u16 n1) X) (by kernel_rfl) ?_ (fun hHeld0 => ?_)
     · exact HKL.out _ hB9
     generalize w8.drew = w9 at *
     apply takeH (i := 0) rfl (by kernel_rfl) (by kernel_rfl) (by kernel_rfl) (fun _ _ _ h => h) (by rfl)
     case hy => (intro w hSw; (try dsimp only at hSw); go_simp; try with_reducible rfl)
     case hS => assumption
     (try simp only [Act.put, List.setIfInBounds_toArray, List.set_cons_zero, List.set_cons_succ])
     apply takeH (i := 1) rfl (by kernel_rfl) (by kernel_rfl) (by kernel_rfl) (fun _ _ _ h => h) (by rfl)
     case hy => (intro w hSw; (try dsimp only at hSw); go_simp; try with_reducible rfl)
     case hS => assumption
     (try simp only [Act.put, List.setIfInBounds_toArray, List.set_cons_zero, List.set_cons_succ])
     apply takeH (i := 2) rfl (by kernel_rfl) (by kernel_rfl) (by kernel_rfl) (fun _ _ _ h => h) (by rfl)
     case hy => (intro w hSw; (try dsimp only at hSw); go_simp; try with_reducible rfl)
     case hS => assumption
     (try simp only [Act.put, List.setIfInBounds_toArray, List.set_cons_zero, List.set_cons_succ])
     apply takeH (i := 3) rfl (by kernel_rfl) (by kernel_rfl) (by kernel_rfl) (fun _ _ _ h => h) (by rfl)
     case hy => (intro w hSw; (try dsimp only at hSw); go_simp; try with_reducible rfl)
     case hS => assumption
     (try simp only [Act.put, List.setIfInBounds_toArray, List.set_cons_zero, List.set_cons_succ])
     apply takeH (i := 4) rfl (by kernel_rfl) (by kernel_rfl) (by kernel_rfl) (fun _ _ _ h => h) (by rfl)
     case hy => (intro w hSw; (try dsimp only at hSw); go_simp; try with_reducible rfl)
     case hS => assumption
     (try simp only [Act.put, List.setIfInBounds_toArray, List.set_cons_zero, List.set_cons_succ])
     apply takeH (i := 5) rfl (by kernel_rfl) (by kernel_rfl) (by kernel_rfl) (fun _ _ _ h => h) (by rfl)
     case hy => (intro w hSw; (try dsimp only at hSw); go_simp; try with_reducible rfl)
     case hS => assumption
     (try simp only [Act.put, List.setIfInBounds_toArray, List.set_cons_zero, List.set_cons_succ])
     apply takeH (i := 6) rfl (by kernel_rfl) (by kernel_rfl) (by kernel_rfl) (fun _ _ _ h => h) (by rfl)
     case hy => (intro w hSw; (try dsimp only at hSw); go_simp; try with_reducible rfl)
     case hS => assumption
     (try simp only [Act.put, List.setIfInBounds_toArray, List.set_cons_zero, List.set_cons_succ])
     apply takeH (i := 7) rfl (by kernel_rfl) (by kernel_rfl) (by kernel_rfl) (fun _ _ _ h => h) (by rfl)
     case hy => (intro w hSw; (try dsimp only at hSw); go_simp; try with_reducible rfl)
     case hS => assumption
     (try simp only [Act.put, List.setIfInBounds_toArray, List.set_cons_zero, List.set_cons_succ])
     apply takeH (i := 9) rfl (by kernel_rfl) (by kernel_rfl) (by kernel_rfl) (fun _ _ _ h => h) (by rfl)
     case hy => (intro w hSw; (try dsimp only at hSw); go_simp; try with_reducible rfl)
     case hS => assumption
     (try simp only [Act.put, List.setIfInBounds_toArray, List.set_cons_zero, List.set_cons_succ])
     apply takeH (i := 10) rfl (by kernel_rfl) (by kernel_rfl) (by kernel_rfl) (fun _ _ _ h => h) (by rfl)
     case hy => (intro w hSw; (try dsimp only at hSw); go_simp; try with_reducible rfl)
     case hS => assumption
     (try simp only [Act.put, List.setIfInBounds_toArray, List.set_cons_zero, List.set_cons_succ])
     apply takeH (i := 11) rfl (by kernel_rfl) (by kernel_rfl) (by kernel_rfl) (fun _ _ _ h => h) (by rfl)
     case hy => (intro w hSw; (try dsimp only at hSw); go_simp; try with_reducible rfl)
     case hS => assumption
     (try simp only [Act.put, List.setIfInBounds_toArray, List.set_cons_zero, List.set_cons_succ])
     have l9 := u8_load c9
     refine doH (i := 8) rfl (by kernel_rfl) (by rfl) (fun K hK => ?_)
     go_simp
     refine hK.out _ _ (HKL.out _ hB9) (fun hHeld => ?_)
     clear hK K hHeld0 l9
     (try simp only [Act.put, List.setIfInBounds_toArray, List.set_cons_zero, List.set_cons_succ])
     apply takeH (i := 12) rfl (by kernel_rfl) (by kernel_rfl) (by kernel_rfl) (fun _ _ _ h => h) (by rfl)
     case hy => (intro w hSw; (try dsimp only at hSw); go_simp; try with_reducible rfl)
     case hS => assumption
     (try simp only [Act.put, List.setIfInBounds_toArray, List.set_cons_zero, List.set_cons_succ])
     apply takeH (i := 13) rfl (by kernel_rfl) (by kernel_rfl) (by kernel_rfl) (fun _ _ _ h => h) (by rfl)
     case hy => (intro w hSw; (try dsimp only at hSw); go_simp; try with_reducible rfl)
     case hS => assumption
     (try simp only [Act.put, List.setIfInBounds_toArray, List.set_cons_zero, List.set_cons_succ])
     refine doH (i := 14) rfl (by kernel_rfl) (by rfl) (fun K hK => ?_)
     go_simp
     have hB10 := hB9.setCell (p := ⟨gb, i, none⟩) (by show w0.heap.size ≤ gb; omega) (.int .u8 y)
     have hT10 := hT9.far (p := ⟨gb, i, none⟩) (by show gt ≠ gb; omega) (.int .u8 y)
     have hcv := conv_bent w9 gb bcap i y EX hil HC9.out _ rfl
     have HS0 := Lib.hid (bentB_size EX i y)
     refine hK.out _ _ (HKL.out _ hB10) (fun hHeld => ?_)
     clear hK K hT9 hB9 c9 f9 HKL HKB e1 e2 e3 e4 hi hil hil' hi0 hy ha HC9
     (try simp only [Act.put, List.setIfInBounds_toArray, List.set_cons_zero, List.set_cons_succ])
     refine wpAnyH_done (by kernel_rfl) ?_ _
     generalize bentB EX i y = S0 at *
     generalize w9.setCell ⟨gb, i, none⟩ (.int .u8 (y : Int)) = w10 at *
     have lT := tab_run hT10
     have HR1 := Lib.hid (fun X => reads_any S0 (by rw [HS0.out]; omega) X)
     have HR2 := Lib.hid (fun X => reads_any raw (by omega) X)
     go_wp2_with fail
     refine (HR1.out _).mono ?_
     rintro e w11 ⟨rfl, hb11⟩
     have hB11 := hB10.trans (hb11.mono hB10.size)
     have lT2 := tab_run (hT10.below hb11 hT10.lt)
     clear lT hB10 hT10 hb11 hcv
     go_wp2_with fail
     refine (HR2.out _).mono ?_
     rintro e w12 ⟨rfl, hb12⟩
     have hB12 := hB11.trans (hb12.mono hB11.size)
     go_wp2
     go_ret
     exact ⟨rfl, HB0.out.trans (hB12.mono HB0.out.size)⟩
end
end Go.Proofs.YtnbboabaihddbaaGreat

/-
  The law StatePlays.
-/
import Derived.Test.YtjmjkcgldencoaaGreatYDo
import Derived.Test.YtjmjkcgldencoaaGreatYAwYSame
namespace Go.Proofs.YtjmjkcgldencoaaGreat
open Go.RowKit

section
attribute [-go_sem] loadVar
set_option maxRecDepth 100000 in
set_option maxHeartbeats 2000000 in
theorem law_plays (oa : Option Addr) (n cap : Nat) (os : List OpR) (hl : os.length = n) (_ : n ≤ cap) (_ : n ≤ 9223372036854775807) (hb : ∀ x ∈ os, BndO x) (w : World) (hr : RowG opK w oa os) :
    Calls Tryz.prog 4 #[.slice oa n cap] w fun e w' => e = .returned (.bool true) ∧ Below w.heap.size w w' := by
  have HAW := Lib.hid (fun W => awake11_any W)
  have HMK := Lib.hid (fun W => make_std W)
  have HFE := Lib.hid (fun W (hW : Below w.heap.size w W) => rfewO_any oa n cap 60 os hl (by decide) W (hr.below hW))
  have HDO := Lib.hid (fun W (hW : Below w.heap.size w W) (h1 : n ≤ 60) (h2 : ∀ x ∈ os, smallB x.r = true) => do_any oa n cap os hl (by omega) h2 hb W (hr.below hW))
  have HSM := Lib.hid (fun P P' cs ds W hS hD => same11_any P P' cs ds (playW os) (InvW.play os) W hS hD)
  have HRF := Lib.hid (show ∀ W e w', RFewO n 60 os W e w' = ((∃ b, e = .returned (.bool b) ∧ (b = true → n ≤ 60 ∧ ∀ x ∈ os, smallB x.r = true)) ∧ Below W.heap.size W w') from fun _ _ _ => rfl)
  have HRD := Lib.hid (show ∀ W e w', RDo os W e w' = ∃ cs ds, e = .returned (.tuple #[.agg cs, .agg ds, .bool true]) ∧ StC w' (geP W.heap.size) cs (playW os) ∧ WdC w' (geP W.heap.size) ds (playW os) ∧ Below W.heap.size W w' from fun _ _ _ => rfl)
  generalize playW os = PW at *
  clear hr
  go_enter Tryz.func4, Tryz.ntmps4
  go_wp2_with fail
  refine (HAW.out _).mono ?_
  rintro e w1 ⟨rfl, hb1⟩
  go_wp2_with fail
  refine (HFE.out _ hb1).mono ?_
  rintro e w2 he2
  rw [HRF.out] at he2
  obtain ⟨⟨b, rfl, hbt⟩, hbf⟩ := he2
  have hb2 := hb1.trans (hbf.mono hb1.size)
  clear hbf
  cases b with
  | false =>
    clear hbt
    go_wp2_with fail
    refine (HAW.out _).mono ?_
    rintro e w3 ⟨rfl, hb3⟩
    have hb4 := hb2.trans (hb3.mono hb2.size)
    go_wp2
    go_ret
    exact ⟨rfl, hb4⟩
  | true =>
    obtain ⟨h60, hsm⟩ := hbt rfl
    go_wp2_with fail
    refine (HMK.out _).mono ?_
    rintro e w3 ⟨rfl, hb3⟩
    have hb4 := hb2.trans (hb3.mono hb2.size)
    have HD1 := Lib.hid (HDO.out w3 hb4 h60 hsm)
    have HSX := Lib.hid hsm
    clear hsm hbt HDO HSX
    go_wp2_with fail
    refine HD1.out.mono ?_
    rintro e w4 he4
    rw [HRD.out] at he4
    obtain ⟨cs, ds, rfl, hS, hD, hb5⟩ := he4
    have hb6 := hb4.trans (hb5.mono hb4.size)
    have zs5 := zeroS
    have zw5 := zeroW
    obtain ⟨wA5, hwA⟩ : ∃ wA, ((w4.alloc (.cells zeroSt 37)).alloc (.cells zeroWd 40)) = wA := ⟨_, rfl⟩
    have bA : Below w4.heap.size w4 wA5 := by rw [← hwA]; exact ((Below.refl _ w4).alloc (Nat.le_refl _) _).alloc (by simp) _
    have kA : Blk wA5 w4.heap.size 37 zeroSt := by rw [← hwA]; exact (Blk.new _ _ _).alloc _
    have kB : Blk wA5 (w4.heap.size + 1) 40 zeroWd := by rw [← hwA]; exact Blk.new_at (by simp)
    obtain ⟨w5, hw5⟩ : ∃ x, (wA5.setRow w4.heap.size cs).setRow (w4.heap.size + 1) ds = x := ⟨_, rfl⟩
    have ks : Blk w5 w4.heap.size 37 cs := by rw [← hw5]; exact Blk.setRow (setRow_heap wA5 _ zeroSt cs 37 (0, 0) kA) (by omega) _
    have kd : Blk w5 (w4.heap.size + 1) 40 ds := by rw [← hw5]; exact setRow_heap _ _ zeroWd ds 40 (0, 0) (Blk.setRow kB (by omega) _)
    have b5 : Below w4.heap.size w4 w5 := by rw [← hw5]; exact (bA.grown (only_setRow (grown_refl wA5 (some w4.heap.size)) cs) bA.size (fun k hk => by injection hk; omega)).grown (only_setRow (grown_refl _ (some (w4.heap.size + 1))) ds) (by have := bA.size; simp; omega) (fun k hk => by injection hk; omega)
    have HWA5 := Lib.hid hwA
    have HW5 := Lib.hid hw5
    have HKA5 := Lib.hid kA
    have HKB5 := Lib.hid kB
    have HIA5 : Hid ((Tryz.prog.info? 37).map (·.size) = some (cs : Array Value).size) := Lib.hid (by rw [hS.size]; exact infoS)
    have HIB5 : Hid ((Tryz.prog.info? 40).map (·.size) = some (ds : Array Value).size) := Lib.hid (by rw [hD.size]; kernel_rfl)
    have HSA5 : Hid ((zeroSt : Array Value).size = (cs : Array Value).size) := Lib.hid (by rw [hS.size]; rfl)
    have HSB5 : Hid ((zeroWd : Array Value).size = (ds : Array Value).size) := Lib.hid (by rw [hD.size]; rfl)
    have HOA5 : Hid (((cs : Array Value).all fun x => x.oneCell') = true) := Lib.hid hS.one
    have HOB5 : Hid (((ds : Array Value).all fun x => x.oneCell') = true) := Lib.hid hD.one
    clear hwA hw5 kA kB bA
    have l1 := st_load hS.size ks
    have l2 := wd_load hD.size kd
    have HSM5 := Lib.hid (HSM.out _ _ cs ds w5 (hS.below b5) (hD.below b5))
    have hb7 := hb6.trans (b5.mono hb6.size)
    clear ks kd hS hD hb5 hb6
    go_wp2_with (first
      | rw [HWA5.out]
      | (refine wpList_store_row rfl 37 _ _ rfl w4.heap.size cs rfl rfl 37 zeroSt HKA5.out HIA5.out HSA5.out HOA5.out ?_)
      | (refine wpList_store_row rfl 40 _ _ rfl (w4.heap.size + 1) ds rfl rfl 40 zeroWd (Blk.setRow HKB5.out (by omega) _) HIB5.out HSB5.out HOB5.out ?_; rw [HW5.out]))
    refine HSM5.out.mono ?_
    rintro e w6 ⟨rfl, hb8⟩
    have hb9 := hb7.trans (hb8.mono hb7.size)
    go_wp2
    go_ret
    exact ⟨rfl, hb9⟩
end
end Go.Proofs.YtjmjkcgldencoaaGreat

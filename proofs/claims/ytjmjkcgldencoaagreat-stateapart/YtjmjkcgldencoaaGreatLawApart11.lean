/-
  The law StateApart.
-/
import Derived.Test.YtjmjkcgldencoaaGreatYDo
import Derived.Test.YtjmjkcgldencoaaGreatYAwYSame
namespace Go.Proofs.YtjmjkcgldencoaaGreat
open Go.RowKit

section
attribute [-go_sem] loadVar
set_option maxRecDepth 100000 in
set_option maxHeartbeats 4000000 in
theorem law_apart11 (oa : Option Addr) (n cap : Nat) (os : List OpR) (hl : os.length = n) (_ : n ≤ cap) (_ : n ≤ 9223372036854775807) (hb : ∀ x ∈ os, BndO x) (r : Req) (_ : BndQ r) (w : World) (hr : RowG opK w oa os) :
    Calls Tryz.prog 3 #[.slice oa n cap, .agg r.enc.toArray] w fun e w' => e = .returned (.bool true) ∧ Below w.heap.size w w' := by
  obtain ⟨rc, rq, rl, rk, rv⟩ := r
  change Calls Tryz.prog 3 #[.slice oa n cap, .agg #[.int .i64 rc, .int .i64 rq, .string rl, .string rk, .string rv]] w _
  have HAW := Lib.hid (fun W => awake11_any W)
  have HMK := Lib.hid (fun W => make_std W)
  have HFE := Lib.hid (fun W (hW : Below w.heap.size w W) => rfewO_any oa n cap 30 os hl (by decide) W (hr.below hW))
  have HSB : Hid (∀ W, Calls Tryz.prog 10 #[.agg #[.int .i64 rc, .int .i64 rq, .string rl, .string rk, .string rv]] W fun e w' => e = .returned (.bool (smallB (⟨rc, rq, rl, rk, rv⟩ : Req))) ∧ Below W.heap.size W w') := Lib.hid fun W => rsmall_any (⟨rc, rq, rl, rk, rv⟩ : Req) W
  have HDO := Lib.hid (fun W (hW : Below w.heap.size w W) (h1 : n ≤ 30) (h2 : ∀ x ∈ os, smallB x.r = true) => do_any oa n cap os hl (by omega) h2 hb W (hr.below hW))
  have HRF := Lib.hid (show ∀ W e w', RFewO n 30 os W e w' = ((∃ b, e = .returned (.bool b) ∧ (b = true → n ≤ 30 ∧ ∀ x ∈ os, smallB x.r = true)) ∧ Below W.heap.size W w') from fun _ _ _ => rfl)
  have HRD := Lib.hid (show ∀ W e w', RDo os W e w' = ∃ cs ds, e = .returned (.tuple #[.agg cs, .agg ds, .bool true]) ∧ StC w' (geP W.heap.size) cs (playW os) ∧ WdC w' (geP W.heap.size) ds (playW os) ∧ Below W.heap.size W w' from fun _ _ _ => rfl)
  have HINV := Lib.hid (InvW.play os)
  generalize playW os = PW at *
  obtain ⟨w0, hw0⟩ : ∃ w0, w.alloc (.cells #[.int .i64 rc, .int .i64 rq, .string rl, .string rk, .string rv] 24) = w0 := ⟨_, rfl⟩
  have hb0 : Below w.heap.size w w0 := by rw [← hw0]; exact (Below.refl _ w).alloc (Nat.le_refl _) _
  have k0 : Blk w0 w.heap.size 24 #[.int .i64 rc, .int .i64 rq, .string rl, .string rk, .string rv] := by rw [← hw0]; exact Blk.new _ _ _
  have HW0 := Lib.hid hw0
  clear hr hw0
  go_enter Tryz.func3, Tryz.ntmps3
  go_wp2_with (rw [HW0.out])
  refine (HAW.out _).mono ?_
  rintro e w1 ⟨rfl, hb1⟩
  replace k0 := k0.below hb1 k0.lt
  replace hb1 := hb0.trans (hb1.mono hb0.size)
  clear hb0
  go_wp2_with fail
  refine (HFE.out _ hb1).mono ?_
  rintro e w2 he2
  rw [HRF.out] at he2
  obtain ⟨⟨b, rfl, hbt⟩, hbf⟩ := he2
  replace k0 := k0.below hbf k0.lt
  have hb2 := hb1.trans (hbf.mono hb1.size)
  clear hbf
  cases b with
  | false =>
    clear hbt
    go_wp2_with fail
    refine (HAW.out _).mono ?_
    rintro e w3 ⟨rfl, hb3⟩
    have hb4 := hb2.trans (hb3.mono hb2.size)
    go_wp2
    go_ret
    exact ⟨rfl, hb4⟩
  | true =>
    obtain ⟨h60, hsm⟩ := hbt rfl
    have l0 := req_load5 k0
    obtain ⟨sb, hsb⟩ : ∃ sb, smallB (⟨rc, rq, rl, rk, rv⟩ : Req) = sb := ⟨_, rfl⟩
    rw [hsb] at HSB
    go_wp2_with fail
    refine (HSB.out _).mono ?_
    rintro e w3 ⟨rfl, hb3⟩
    replace k0 := k0.below hb3 k0.lt
    have hb4 := hb2.trans (hb3.mono hb2.size)
    clear l0 hb2 hb3 hbt
    cases sb with
    | false =>
      clear hsb hsm
      go_wp2_with fail
      refine (HAW.out _).mono ?_
      rintro e w5 ⟨rfl, hb5⟩
      have hb6 := hb4.trans (hb5.mono hb4.size)
      go_wp2
      go_ret
      exact ⟨rfl, hb6⟩
    | true =>
      have HSM := Lib.hid hsb
      clear hsb
      go_wp2_with fail
      refine (HMK.out _).mono ?_
      rintro e w5 ⟨rfl, hb5⟩
      replace k0 := k0.below hb5 k0.lt
      have hb6 := hb4.trans (hb5.mono hb4.size)
      have HD1 := Lib.hid (HDO.out w5 hb6 h60 hsm)
      clear hsm HDO hb4 hb5
      go_wp2_with fail
      refine HD1.out.mono ?_
      rintro e w6 he6
      rw [HRD.out] at he6
      obtain ⟨cs, ds, rfl, hS, hD, hb7⟩ := he6
      replace k0 := k0.below hb7 k0.lt
      have hb8 := hb6.trans (hb7.mono hb6.size)
      clear hb6 hb7
      have zs7 := zeroS
      have zw7 := zeroW
      obtain ⟨wA7, hwA⟩ : ∃ wA, ((w6.alloc (.cells zeroSt 37)).alloc (.cells zeroWd 40)) = wA := ⟨_, rfl⟩
      have bA : Below w6.heap.size w6 wA7 := by rw [← hwA]; exact ((Below.refl _ w6).alloc (Nat.le_refl _) _).alloc (by simp) _
      have kA : Blk wA7 w6.heap.size 37 zeroSt := by rw [← hwA]; exact (Blk.new _ _ _).alloc _
      have kB : Blk wA7 (w6.heap.size + 1) 40 zeroWd := by rw [← hwA]; exact Blk.new_at (by simp)
      obtain ⟨w7, hw7⟩ : ∃ x, (wA7.setRow w6.heap.size cs).setRow (w6.heap.size + 1) ds = x := ⟨_, rfl⟩
      have ks : Blk w7 w6.heap.size 37 cs := by rw [← hw7]; exact Blk.setRow (setRow_heap wA7 _ zeroSt cs 37 (0, 0) kA) (by omega) _
      have kd : Blk w7 (w6.heap.size + 1) 40 ds := by rw [← hw7]; exact setRow_heap _ _ zeroWd ds 40 (0, 0) (Blk.setRow kB (by omega) _)
      have b7 : Below w6.heap.size w6 w7 := by rw [← hw7]; exact (bA.grown (only_setRow (grown_refl wA7 (some w6.heap.size)) cs) bA.size (fun k hk => by injection hk; omega)).grown (only_setRow (grown_refl _ (some (w6.heap.size + 1))) ds) (by have := bA.size; simp; omega) (fun k hk => by injection hk; omega)
      have HWA7 := Lib.hid hwA
      have HW7 := Lib.hid hw7
      have HKA7 := Lib.hid kA
      have HKB7 := Lib.hid kB
      have HIA7 : Hid ((Tryz.prog.info? 37).map (·.size) = some (cs : Array Value).size) := Lib.hid (by rw [hS.size]; exact infoS)
      have HIB7 : Hid ((Tryz.prog.info? 40).map (·.size) = some (ds : Array Value).size) := Lib.hid (by rw [hD.size]; kernel_rfl)
      have HSA7 : Hid ((zeroSt : Array Value).size = (cs : Array Value).size) := Lib.hid (by rw [hS.size]; rfl)
      have HSB7 : Hid ((zeroWd : Array Value).size = (ds : Array Value).size) := Lib.hid (by rw [hD.size]; rfl)
      have HOA7 : Hid (((cs : Array Value).all fun x => x.oneCell') = true) := Lib.hid hS.one
      have HOB7 : Hid (((ds : Array Value).all fun x => x.oneCell') = true) := Lib.hid hD.one
      clear hwA hw7 kA kB bA
      replace k0 := k0.below b7 k0.lt
      have hb9 := hb8.trans (b7.mono hb8.size)
      have hS7 := hS.below b7
      have hD7 := hD.below b7
      clear hS hD hb8
      have l1 := st_load hS7.size ks
      have l2 := req_load5 k0
      obtain ⟨⟨xe, xi, xh⟩, hsay⟩ : ∃ y, saysS PW (⟨rc, rq, rl, rk, rv⟩ : Req) = y := ⟨_, rfl⟩
      have HA1 : Hid (∀ W, Below w7.heap.size w7 W → Calls Tryz.prog 13 #[.agg cs, .agg #[.int .i64 rc, .int .i64 rq, .string rl, .string rk, .string rv]] W fun e w' => ∃ cs', e = .returned (.tuple #[.agg cs', .agg #[.int .i64 xe, .int .i64 xi, .int .i64 xh]]) ∧ StC w' (geP W.heap.size) cs' (askS PW (⟨rc, rq, rl, rk, rv⟩ : Req)) ∧ Below W.heap.size W w') := Lib.hid fun W hW => by
        have key := applyC _ cs PW (⟨rc, rq, rl, rk, rv⟩ : Req) W HINV.out HSM.out (hS7.below hW)
        rw [hsay] at key
        exact key
      go_wp2_with (first
        | rw [HWA7.out]
        | (refine wpList_store_row rfl 37 _ _ rfl w6.heap.size cs rfl rfl 37 zeroSt HKA7.out HIA7.out HSA7.out HOA7.out ?_)
        | (refine wpList_store_row rfl 40 _ _ rfl (w6.heap.size + 1) ds rfl rfl 40 zeroWd (Blk.setRow HKB7.out (by omega) _) HIB7.out HSB7.out HOB7.out ?_; rw [HW7.out]))
      refine (HA1.out w7 (Below.refl _ _)).mono ?_
      rintro e w8 ⟨ca, rfl, hSa, hb10⟩
      have hS8 := hS7.below hb10
      have hD8 := hD7.below hb10
      replace k0 := k0.below hb10 k0.lt
      replace ks := ks.below hb10 ks.lt
      replace kd := kd.below hb10 kd.lt
      have hb11 := hb9.trans (hb10.mono hb9.size)
      clear l1 l2 HA1 hS7 hD7 hb9 hb10 b7
      have zs9 := zeroS
      have zw9 := zeroW
      obtain ⟨wA9, hwA⟩ : ∃ wA, ((w8.alloc (.cells zeroSt 37)).alloc (.cells #[.int .i64 0, .int .i64 0, .int .i64 0] 31)) = wA := ⟨_, rfl⟩
      have bA : Below w8.heap.size w8 wA9 := by rw [← hwA]; exact ((Below.refl _ w8).alloc (Nat.le_refl _) _).alloc (by simp) _
      have kA : Blk wA9 w8.heap.size 37 zeroSt := by rw [← hwA]; exact (Blk.new _ _ _).alloc _
      have kB : Blk wA9 (w8.heap.size + 1) 31 #[.int .i64 0, .int .i64 0, .int .i64 0] := by rw [← hwA]; exact Blk.new_at (by simp)
      obtain ⟨w9, hw9⟩ : ∃ x, (wA9.setRow w8.heap.size ca).setRow (w8.heap.size + 1) #[.int .i64 xe, .int .i64 xi, .int .i64 xh] = x := ⟨_, rfl⟩
      have ka : Blk w9 w8.heap.size 37 ca := by rw [← hw9]; exact Blk.setRow (setRow_heap wA9 _ zeroSt ca 37 (0, 0) kA) (by omega) _
      have kx : Blk w9 (w8.heap.size + 1) 31 #[.int .i64 xe, .int .i64 xi, .int .i64 xh] := by rw [← hw9]; exact setRow_heap _ _ #[.int .i64 0, .int .i64 0, .int .i64 0] #[.int .i64 xe, .int .i64 xi, .int .i64 xh] 31 (0, 0) (Blk.setRow kB (by omega) _)
      have b9 : Below w8.heap.size w8 w9 := by rw [← hw9]; exact (bA.grown (only_setRow (grown_refl wA9 (some w8.heap.size)) ca) bA.size (fun k hk => by injection hk; omega)).grown (only_setRow (grown_refl _ (some (w8.heap.size + 1))) #[.int .i64 xe, .int .i64 xi, .int .i64 xh]) (by have := bA.size; simp; omega) (fun k hk => by injection hk; omega)
      have HWA9 := Lib.hid hwA
      have HW9 := Lib.hid hw9
      have HKA9 := Lib.hid kA
      have HKB9 := Lib.hid kB
      have HIA9 : Hid ((Tryz.prog.info? 37).map (·.size) = some (ca : Array Value).size) := Lib.hid (by rw [hSa.size]; exact infoS)
      have HIB9 : Hid ((Tryz.prog.info? 31).map (·.size) = some (#[.int .i64 xe, .int .i64 xi, .int .i64 xh] : Array Value).size) := Lib.hid info3
      have HSA9 : Hid ((zeroSt : Array Value).size = (ca : Array Value).size) := Lib.hid (by rw [hSa.size]; rfl)
      have HSB9 : Hid ((#[.int .i64 0, .int .i64 0, .int .i64 0] : Array Value).size = (#[.int .i64 xe, .int .i64 xi, .int .i64 xh] : Array Value).size) := Lib.hid rfl
      have HOA9 : Hid (((ca : Array Value).all fun x => x.oneCell') = true) := Lib.hid hSa.one
      have HOB9 : Hid (((#[.int .i64 xe, .int .i64 xi, .int .i64 xh] : Array Value).all fun x => x.oneCell') = true) := Lib.hid (rep_one _ _ _)
      clear hwA hw9 kA kB bA
      replace k0 := k0.below b9 k0.lt
      replace ks := ks.below b9 ks.lt
      replace kd := kd.below b9 kd.lt
      have hb12 := hb11.trans (b9.mono hb11.size)
      have hS9 := hS8.below b9
      have hD9 := hD8.below b9
      have hA9 := hSa.below b9
      clear hS8 hD8 hSa hb11 b9
      go_wp2_with (first
        | rw [HWA9.out]
        | (refine wpList_store_row rfl 37 _ _ rfl w8.heap.size ca rfl rfl 37 zeroSt HKA9.out HIA9.out HSA9.out HOA9.out ?_)
        | (refine wpList_store_row rfl 31 _ _ rfl (w8.heap.size + 1) #[.int .i64 xe, .int .i64 xi, .int .i64 xh] rfl rfl 31 #[.int .i64 0, .int .i64 0, .int .i64 0] (Blk.setRow HKB9.out (by omega) _) HIB9.out HSB9.out HOB9.out ?_; rw [HW9.out]))
      have HOT := Lib.hid (fun (c : Nat) (hc : (c : Int) ≠ rc) => ask_others HINV.out (⟨rc, rq, rl, rk, rv⟩ : Req) hc)
      obtain ⟨va, va', rfl, ⟨o1, c1, rfl, _, hc1, _, _⟩, ⟨o1', c1', rfl, _, hc1', _, _⟩⟩ := hA9
      obtain ⟨vb, vb', rfl, ⟨o2, c2, rfl, _, hc2, _, _⟩, ⟨o2', c2', rfl, _, hc2', _, _⟩⟩ := hS9
      obtain ⟨f, hf⟩ : ∃ f : Nat → Lst, f = fun c : Nat => lastW (c : Int) (askS PW (⟨rc, rq, rl, rk, rv⟩ : Req)) := ⟨_, rfl⟩
      obtain ⟨f2, hf2⟩ : ∃ f : Nat → Lst, f = fun c : Nat => lastW (c : Int) PW := ⟨_, rfl⟩
      have HFF : Hid (∀ c : Nat, (c : Int) ≠ rc → f c = f2 c) := Lib.hid fun c hc => by
        rw [hf, hf2]
        exact HOT.out c hc
      have a0 : lastW 0 (askS PW (⟨rc, rq, rl, rk, rv⟩ : Req)) = f 0 := by rw [hf]; rfl
      have a1 : lastW 1 (askS PW (⟨rc, rq, rl, rk, rv⟩ : Req)) = f 1 := by rw [hf]; rfl
      have a2 : lastW 2 (askS PW (⟨rc, rq, rl, rk, rv⟩ : Req)) = f 2 := by rw [hf]; rfl
      have a3 : lastW 3 (askS PW (⟨rc, rq, rl, rk, rv⟩ : Req)) = f 3 := by rw [hf]; rfl
      have c0 : lastW 0 PW = f2 0 := by rw [hf2]; rfl
      have c1x : lastW 1 PW = f2 1 := by rw [hf2]; rfl
      have c2x : lastW 2 PW = f2 2 := by rw [hf2]; rfl
      have c3 : lastW 3 PW = f2 3 := by rw [hf2]; rfl
      have ka' := ka
      have ks' := ks
      rw [a0, a1, a2, a3] at ka'
      rw [c0, c1x, c2x, c3] at ks'
      have HLD : Hid (∀ W, Below w9.heap.size w9 W → ∀ c, c < 4 → (loadVar 33 ⟨w8.heap.size, 1 + c * 5, none⟩).run Tryz.prog W = .ok (.agg (f c).enc.toArray) W ∧ (loadVar 33 ⟨w6.heap.size, 1 + c * 5, none⟩).run Tryz.prog W = .ok (.agg (f2 c).enc.toArray) W) := Lib.hid fun W hW c hc => ⟨last_load hc (ka'.below hW ka'.lt), last_load hc (ks'.below hW ks'.lt)⟩
      have HLR : Hid (∀ W, Below w9.heap.size w9 W → (loadVar 3 ⟨w.heap.size, 0, none⟩).run Tryz.prog W = .ok (.int .i64 rc) W) := Lib.hid fun W hW => num_load ((k0.below hW k0.lt).cell 0)
      have HLH : Hid (∀ W, Below w9.heap.size w9 W → (loadVar 35 ⟨w8.heap.size, 21, none⟩).run Tryz.prog W = .ok (.slice o1' PW.hd.length c1') W ∧ (loadVar 35 ⟨w6.heap.size, 21, none⟩).run Tryz.prog W = .ok (.slice o2' PW.hd.length c2') W) := Lib.hid fun W hW => ⟨sl_hd ((ka.below hW ka.lt).cell 21), sl_hd ((ks.below hW ks.lt).cell 21)⟩
      obtain ⟨M, hM⟩ : ∃ M, PW.hd.length = M := ⟨_, rfl⟩
      rw [hM] at HLH
      have HC8 := Lib.hid ka
      clear ka ks ka' ks' k0 kd kx hD9 hsay hf hf2 a0 a1 a2 a3 c0 c1x c2x c3 hM HOT
      go_loopw [10] (fun i wr => ∃ c : Nat, c ≤ 4 ∧ i = .int .i64 c ∧ Below w9.heap.size w9 wr) (fun i _ => 4 - (intOf i).toNat)
      case atStart => exact ⟨0, by omega, rfl, Below.refl _ _⟩
      case round =>
        obtain ⟨c, hc9, rfl, hW⟩ := hrel
        by_cases hc4 : c < 4
        · have hc4' : (c : Int) < 4 := by omega
          have HW9 := Lib.hid hW.drew
          by_cases hcr : (c : Int) = rc
          · have hcr' : ((c : Int) != rc) = false := by rw [bne_eq_false_iff_eq]; exact hcr
            have HS9 : Hid ((fun W => (loadVar 3 ⟨w.heap.size, 0, none⟩).run Tryz.prog W = .ok (.int .i64 rc) W) wr.drew) := Lib.hid (HLR.out _ HW9.out)
            clear hcr hW
            go_wp2_with fail
            refine wp_region_held_drew (S := fun W => (loadVar 3 ⟨w.heap.size, 0, none⟩).run Tryz.prog W = .ok (.int .i64 rc) W) (by kernel_rfl) ?_ (fun hHeld0 => ?_)
            · exact HS9.out
            apply takeH (i := 0) rfl (by kernel_rfl) (by kernel_rfl) (by kernel_rfl) (fun _ _ _ h => h) (by rfl)
            case hy => (intro w hSw; (try dsimp only at hSw); go_simp; try with_reducible rfl)
            case hS => assumption
            (try simp only [Act.put, List.setIfInBounds_toArray, List.set_cons_zero, List.set_cons_succ])
            apply takeH (i := 1) rfl (by kernel_rfl) (by kernel_rfl) (by kernel_rfl) (fun _ _ _ h => h) (by rfl)
            case hy => (intro w hSw; (try dsimp only at hSw); go_simp; try with_reducible rfl)
            case hS => assumption
            (try simp only [Act.put, List.setIfInBounds_toArray, List.set_cons_zero, List.set_cons_succ])
            apply takeH (i := 2) rfl (by kernel_rfl) (by kernel_rfl) (by kernel_rfl) (fun _ _ _ h => h) (by rfl)
            case hy => (intro w hSw; (try dsimp only at hSw); go_simp; try with_reducible rfl)
            case hS => assumption
            (try simp only [Act.put, List.setIfInBounds_toArray, List.set_cons_zero, List.set_cons_succ])
            apply takeH (i := 3) rfl (by kernel_rfl) (by kernel_rfl) (by kernel_rfl) (fun _ _ _ h => h) (by rfl)
            case hy => (intro w hSw; (try dsimp only at hSw); go_simp; try with_reducible rfl)
            case hS => assumption
            (try simp only [Act.put, List.setIfInBounds_toArray, List.set_cons_zero, List.set_cons_succ])
            apply takeH (i := 4) rfl (by kernel_rfl) (by kernel_rfl) (by kernel_rfl) (fun _ _ _ h => h) (by rfl)
            case hy => (intro w hSw; (try dsimp only at hSw); go_simp; try with_reducible rfl)
            case hS => assumption
            (try simp only [Act.put, List.setIfInBounds_toArray, List.set_cons_zero, List.set_cons_succ])
            refine skipH (i := 5) rfl (by kernel_rfl) (by kernel_rfl) (by kernel_rfl) (fun _ _ _ h => h) (by rfl) (by assumption) ?_
            (try simp only [Act.put, List.setIfInBounds_toArray, List.set_cons_zero, List.set_cons_succ])
            refine skipH (i := 6) rfl (by kernel_rfl) (by kernel_rfl) (by kernel_rfl) (fun _ _ _ h => h) (by rfl) (by assumption) ?_
            (try simp only [Act.put, List.setIfInBounds_toArray, List.set_cons_zero, List.set_cons_succ])
            refine skipH (i := 7) rfl (by kernel_rfl) (by kernel_rfl) (by kernel_rfl) (fun _ _ _ h => h) (by rfl) (by assumption) ?_
            (try simp only [Act.put, List.setIfInBounds_toArray, List.set_cons_zero, List.set_cons_succ])
            refine skipH (i := 8) rfl (by kernel_rfl) (by kernel_rfl) (by kernel_rfl) (fun _ _ _ h => h) (by rfl) (by assumption) ?_
            (try simp only [Act.put, List.setIfInBounds_toArray, List.set_cons_zero, List.set_cons_succ])
            refine skipH (i := 9) rfl (by kernel_rfl) (by kernel_rfl) (by kernel_rfl) (fun _ _ _ h => h) (by rfl) (by assumption) ?_
            (try simp only [Act.put, List.setIfInBounds_toArray, List.set_cons_zero, List.set_cons_succ])
            refine skipH (i := 10) rfl (by kernel_rfl) (by kernel_rfl) (by kernel_rfl) (fun _ _ _ h => h) (by rfl) (by assumption) ?_
            (try simp only [Act.put, List.setIfInBounds_toArray, List.set_cons_zero, List.set_cons_succ])
            refine skipH (i := 11) rfl (by kernel_rfl) (by kernel_rfl) (by kernel_rfl) (fun _ _ _ h => h) (by rfl) (by assumption) ?_
            (try simp only [Act.put, List.setIfInBounds_toArray, List.set_cons_zero, List.set_cons_succ])
            refine skipH (i := 12) rfl (by kernel_rfl) (by kernel_rfl) (by kernel_rfl) (fun _ _ _ h => h) (by rfl) (by assumption) ?_
            (try simp only [Act.put, List.setIfInBounds_toArray, List.set_cons_zero, List.set_cons_succ])
            refine skipH (i := 13) rfl (by kernel_rfl) (by kernel_rfl) (by kernel_rfl) (fun _ _ _ h => h) (by rfl) (by assumption) ?_
            (try simp only [Act.put, List.setIfInBounds_toArray, List.set_cons_zero, List.set_cons_succ])
            apply takeH (i := 14) rfl (by kernel_rfl) (by kernel_rfl) (by kernel_rfl) (fun _ _ _ h => h) (by rfl)
            case hy => (intro w hSw; (try dsimp only at hSw); go_simp; try with_reducible rfl)
            case hS => assumption
            (try simp only [Act.put, List.setIfInBounds_toArray, List.set_cons_zero, List.set_cons_succ])
            refine wpAnyH_done (by kernel_rfl) ?_ _
            generalize wr.drew = w10 at *
            go_wp2_with fail
            go_roundw
            case rel => exact ⟨c + 1, by omega, by go_num, HW9.out⟩
            case measure => simp [intOf]; omega
          · have hcr' : ((c : Int) != rc) = true := by rw [bne_iff_ne]; exact hcr
            have hl1 := (HLD.out _ HW9.out c hc4).1
            have hl2 := (HLD.out _ HW9.out c hc4).2
            rw [HFF.out c hcr] at hl1
            obtain ⟨⟨Lq, Ln, ⟨Le, Li, Lh⟩⟩, hL⟩ : ∃ L, f2 c = L := ⟨_, rfl⟩
            rw [hL] at hl1 hl2
            have HS9 : Hid ((fun W => (loadVar 3 ⟨w.heap.size, 0, none⟩).run Tryz.prog W = .ok (.int .i64 rc) W ∧ (loadVar 33 ⟨w8.heap.size, 1 + c * 5, none⟩).run Tryz.prog W = .ok (.agg #[.int .i64 Lq, .int .i64 Ln, .int .i64 Le, .int .i64 Li, .int .i64 Lh]) W ∧ (loadVar 33 ⟨w6.heap.size, 1 + c * 5, none⟩).run Tryz.prog W = .ok (.agg #[.int .i64 Lq, .int .i64 Ln, .int .i64 Le, .int .i64 Li, .int .i64 Lh]) W) wr.drew) := Lib.hid ⟨HLR.out _ HW9.out, hl1, hl2⟩
            clear hcr hW hl1 hl2 hL
            go_wp2_with fail
            refine wp_region_held_drew (S := fun W => (loadVar 3 ⟨w.heap.size, 0, none⟩).run Tryz.prog W = .ok (.int .i64 rc) W ∧ (loadVar 33 ⟨w8.heap.size, 1 + c * 5, none⟩).run Tryz.prog W = .ok (.agg #[.int .i64 Lq, .int .i64 Ln, .int .i64 Le, .int .i64 Li, .int .i64 Lh]) W ∧ (loadVar 33 ⟨w6.heap.size, 1 + c * 5, none⟩).run Tryz.prog W = .ok (.agg #[.int .i64 Lq, .int .i64 Ln, .int .i64 Le, .int .i64 Li, .int .i64 Lh]) W) (by kernel_rfl) ?_ (fun hHeld0 => ?_)
            · exact HS9.out
            apply takeH (i := 0) rfl (by kernel_rfl) (by kernel_rfl) (by kernel_rfl) (fun _ _ _ h => h) (by rfl)
            case hy => (intro w hSw; (try dsimp only at hSw); go_simp; try with_reducible rfl)
            case hS => assumption
            (try simp only [Act.put, List.setIfInBounds_toArray, List.set_cons_zero, List.set_cons_succ])
            apply takeH (i := 1) rfl (by kernel_rfl) (by kernel_rfl) (by kernel_rfl) (fun _ _ _ h => h) (by rfl)
            case hy => (intro w hSw; (try dsimp only at hSw); go_simp; try with_reducible rfl)
            case hS => assumption
            (try simp only [Act.put, List.setIfInBounds_toArray, List.set_cons_zero, List.set_cons_succ])
            apply takeH (i := 2) rfl (by kernel_rfl) (by kernel_rfl) (by kernel_rfl) (fun _ _ _ h => h) (by rfl)
            case hy => (intro w hSw; (try dsimp only at hSw); go_simp; try with_reducible rfl)
            case hS => assumption
            (try simp only [Act.put, List.setIfInBounds_toArray, List.set_cons_zero, List.set_cons_succ])
            apply takeH (i := 3) rfl (by kernel_rfl) (by kernel_rfl) (by kernel_rfl) (fun _ _ _ h => h) (by rfl)
            case hy => (intro w hSw; (try dsimp only at hSw); go_simp; try with_reducible rfl)
            case hS => assumption
            (try simp only [Act.put, List.setIfInBounds_toArray, List.set_cons_zero, List.set_cons_succ])
            apply takeH (i := 4) rfl (by kernel_rfl) (by kernel_rfl) (by kernel_rfl) (fun _ _ _ h => h) (by rfl)
            case hy => (intro w hSw; (try dsimp only at hSw); go_simp; try with_reducible rfl)
            case hS => assumption
            (try simp only [Act.put, List.setIfInBounds_toArray, List.set_cons_zero, List.set_cons_succ])
            apply takeH (i := 5) rfl (by kernel_rfl) (by kernel_rfl) (by kernel_rfl) (fun _ _ _ h => h) (by rfl)
            case hy => (intro w hSw; (try dsimp only at hSw); go_simp; try with_reducible rfl)
            case hS => assumption
            (try simp only [Act.put, List.setIfInBounds_toArray, List.set_cons_zero, List.set_cons_succ])
            apply takeH (i := 6) rfl (by kernel_rfl) (by kernel_rfl) (by kernel_rfl) (fun _ _ _ h => h) (by rfl)
            case hy => (intro w hSw; (try dsimp only at hSw); go_simp; try with_reducible rfl)
            case hS => assumption
            (try simp only [Act.put, List.setIfInBounds_toArray, List.set_cons_zero, List.set_cons_succ])
            apply takeH (i := 7) rfl (by kernel_rfl) (by kernel_rfl) (by kernel_rfl) (fun _ _ _ h => h) (by rfl)
            case hy => (intro w hSw; (try dsimp only at hSw); go_simp; try with_reducible rfl)
            case hS => assumption
            (try simp only [Act.put, List.setIfInBounds_toArray, List.set_cons_zero, List.set_cons_succ])
            apply takeH (i := 8) rfl (by kernel_rfl) (by kernel_rfl) (by kernel_rfl) (fun _ _ _ h => h) (by rfl)
            case hy => (intro w hSw; (try dsimp only at hSw); go_simp; try with_reducible rfl)
            case hS => assumption
            (try simp only [Act.put, List.setIfInBounds_toArray, List.set_cons_zero, List.set_cons_succ])
            apply takeH (i := 9) rfl (by kernel_rfl) (by kernel_rfl) (by kernel_rfl) (fun _ _ _ h => h) (by rfl)
            case hy => (intro w hSw; (try dsimp only at hSw); go_simp; try with_reducible rfl)
            case hS => assumption
            (try simp only [Act.put, List.setIfInBounds_toArray, List.set_cons_zero, List.set_cons_succ])
            apply takeH (i := 10) rfl (by kernel_rfl) (by kernel_rfl) (by kernel_rfl) (fun _ _ _ h => h) (by rfl)
            case hy => (intro w hSw; (try dsimp only at hSw); go_simp; try with_reducible rfl)
            case hS => assumption
            (try simp only [Act.put, List.setIfInBounds_toArray, List.set_cons_zero, List.set_cons_succ])
            apply takeH (i := 11) rfl (by kernel_rfl) (by kernel_rfl) (by kernel_rfl) (fun _ _ _ h => h) (by rfl)
            case hy => (intro w hSw; (try dsimp only at hSw); go_simp; try with_reducible rfl)
            case hS => assumption
            (try simp only [Act.put, List.setIfInBounds_toArray, List.set_cons_zero, List.set_cons_succ])
            apply takeH (i := 12) rfl (by kernel_rfl) (by kernel_rfl) (by kernel_rfl) (fun _ _ _ h => h) (by rfl)
            case hy => (intro w hSw; (try dsimp only at hSw); go_simp; try with_reducible rfl)
            case hS => assumption
            (try simp only [Act.put, List.setIfInBounds_toArray, List.set_cons_zero, List.set_cons_succ])
            apply takeH (i := 13) rfl (by kernel_rfl) (by kernel_rfl) (by kernel_rfl) (fun _ _ _ h => h) (by rfl)
            case hy => (intro w hSw; (try dsimp only at hSw); go_simp; try with_reducible rfl)
            case hS => assumption
            (try simp only [Act.put, List.setIfInBounds_toArray, List.set_cons_zero, List.set_cons_succ])
            apply takeH (i := 14) rfl (by kernel_rfl) (by kernel_rfl) (by kernel_rfl) (fun _ _ _ h => h) (by rfl)
            case hy => (intro w hSw; (try dsimp only at hSw); go_simp; try with_reducible rfl)
            case hS => assumption
            (try simp only [Act.put, List.setIfInBounds_toArray, List.set_cons_zero, List.set_cons_succ])
            refine wpAnyH_done (by kernel_rfl) ?_ _
            generalize wr.drew = w10 at *
            go_wp2_with fail
            go_roundw
            case rel => exact ⟨c + 1, by omega, by go_num, HW9.out⟩
            case measure => simp [intOf]; omega
        · obtain rfl : 4 = c := by omega
          have hc4' : ¬ ((4 : Nat) : Int) < 4 := by omega
          obtain ⟨h1, h2⟩ := HLH.out _ hW
          have hb13 := hb12.trans (hW.mono hb12.size)
          go_wp2_with fail
          go_ret
          exact ⟨by first | rfl | simp, hb13⟩
end
end Go.Proofs.YtjmjkcgldencoaaGreat

/-
 The law ExportPrefix.
-/
import Derived.Test.YtnbboabaihddbaaGreatEAwMRefRt
import Derived.Test.YtnbboabaihddbaaGreatEMk
import Derived.Test.YtnbboabaihddbaaGreatYSame
import Derived.Test.YtnbboabaihddbaaGreatOpRqHd
import Derived.Deep.WholeRow
namespace Go.Proofs.YtnbboabaihddbaaGreat
open Go.RowKit

section
attribute [-go_sem] loadVar
set_option maxRecDepth 100000 in
set_option maxHeartbeats 4000000 in
theorem law_eprefix (oa : Option Addr) (n ca : Nat) (l : List Req) (hl : l.length = n) (_ : n ≤ ca) (_ : n ≤ 9223372036854775807) (_ : ∀ x ∈ l, BndQ x) (ob : Option Addr) (m cb : Nat) (hs : List Hd) (hm : hs.length = m) (hmc : m ≤ cb) (_ : m ≤ 9223372036854775807) (_ : ∀ x ∈ hs, BndH x) (w : World) (hA : RowG reqK w oa l) (hB : RowG hdK w ob hs) :
 Calls Tryz.prog 5 #[.slice oa n ca, .slice ob m cb] w fun e w' => e = .returned (.bool true) ∧ Below w.heap.size w w' := by
 have HAW := Lib.hid (fun W => awake12_any W)
 have HMK := Lib.hid (fun W => make_std W)
 have HEM := Lib.hid (fun W => rempty_any W)
 have HSM := Lib.hid rsmall_any
 have HA := Lib.hid hA
 have HB := Lib.hid hB
 have HL := Lib.hid hl
 have HM := Lib.hid hm
 have HPR := Lib.hid (fun W (hW : Below w.heap.size w W) (h1 : n ≤ 30) (h2 : m ≤ 20) (h3 : ∀ r ∈ l, smallB r = true) => prefix_any oa ob n ca m cb l hs hl hm (by omega) (by omega) hmc h3 W (hA.below hW) (hB.below hW))
 have HMA := Lib.hid (fun W (hW : Below w.heap.size w W) (h1 : n ≤ 30) (h2 : m ≤ 20) (h3 : ∀ r ∈ l, smallB r = true) => make12_any oa ob n ca m cb l hs hl hm (by omega) (by omega) h3 W (hA.below hW) (hB.below hW))
 have HRP := Lib.hid (show ∀ X e w', RPre l hs X e w' = (((mkE l hs = none ∧ e = .returned (.tuple #[.agg zeroSt, .int .i64 2])) ∨
  (∃ W cs, mkE l hs = some W ∧ InvW W ∧ e = .returned (.tuple #[.agg cs, .int .i64 0]) ∧ StC w' (geP X.heap.size) cs W)) ∧ Below X.heap.size X w') from fun _ _ _ => rfl)
 have HRM := Lib.hid (show ∀ X e w', RMk l hs X e w' = (((mkE l hs = none ∧ e = .returned (.tuple #[.agg zeroWd, .bool false])) ∨
  (∃ W ds, mkE l hs = some W ∧ InvW W ∧ e = .returned (.tuple #[.agg ds, .bool true]) ∧ WdC w' (geP X.heap.size) ds W)) ∧ Below X.heap.size X w') from fun _ _ _ => rfl)
 generalize mkE l hs = MK at *
 generalize RPre l hs = RP at *
 generalize RMk l hs = RM at *
 generalize emC emp = EE at *
 clear hA hB
 by_cases h30 : n ≤ 30
 · have h30' : ¬ (30 : Int) < (n : Int) := by omega
   by_cases h20 : m ≤ 20
   · have h20' : ¬ (20 : Int) < (m : Int) := by omega
     have HNM := Lib.hid (And.intro h30 h20)
     go_enter Tryz.func5, Tryz.ntmps5
     go_wp2_with fail
     refine (HAW.out _).mono ?_
     rintro e w1 ⟨rfl, hb1⟩
     go_wp2_with fail
     go_loopw [5] (fun v wr => ∃ k : Nat, k ≤ n ∧ v = .int .i64 k ∧ Hid (∀ x ∈ l.take k, smallB x = true) ∧ Below w.heap.size w wr) (fun v _ => n - (intOf v).toNat)
     case atStart => exact ⟨0, by omega, rfl, Lib.hid (fun x hx => by cases hx), hb1⟩
     case round =>
      clear hb1
      obtain ⟨k, hk, rfl, HT, hW⟩ := hrel
      by_cases hlt : k < n
      · have hlt' : (k : Int) < (n : Int) := by omega
        have hkl : k < l.length := by have := HL.out; omega
        obtain ⟨g, o, rfl, _, h3⟩ := req_whole HA.out (i := k) hkl
        have HTK := Lib.hid (show l.take (k + 1) = l.take k ++ [l[k]] from List.take_succ_eq_append_getElem hkl)
        have d0 := h3 wr hW
        clear h3
        generalize l[k] = r at *
        clear hkl
        obtain ⟨rc, rq, rl, rk, rv⟩ := r
        dsimp only at d0
        have HSR : Hid (∀ X, Calls Tryz.prog 18 #[.agg #[.int .i64 rc, .int .i64 rq, .string rl, .string rk, .string rv]] X fun e w' => e = .returned (.bool (smallB ⟨rc, rq, rl, rk, rv⟩)) ∧ Below X.heap.size X w') := Lib.hid fun X => HSM.out ⟨rc, rq, rl, rk, rv⟩ X
        obtain ⟨sb, hsb⟩ : ∃ sb, smallB ⟨rc, rq, rl, rk, rv⟩ = sb := ⟨_, rfl⟩
        rw [hsb] at HSR
        have HSB := Lib.hid hsb
        clear hsb
        go_wp2_with fail
        refine (HSR.out _).mono ?_
        rintro e w2 ⟨rfl, hb2⟩
        have hW2 := hW.trans (hb2.mono hW.size)
        clear hW hb2 d0 HSR
        cases sb with
        | false =>
         clear HSB
         go_wp2_with fail
         go_ret
         exact ⟨rfl, hW2⟩
        | true =>
         have HT2 : Hid (∀ x ∈ l.take (k + 1), smallB x = true) := Lib.hid fun x hx => by
          rw [HTK.out] at hx
          rcases List.mem_append.1 hx with hx | hx
          · exact HT.out x hx
          · obtain rfl := List.mem_singleton.1 hx
            exact HSB.out
         clear HSB
         go_wp2_with fail
         go_roundw
         case rel => exact ⟨k + 1, by omega, by go_num, HT2, hW2⟩
         case measure => simp [intOf]; omega
      · obtain rfl : n = k := by omega
        have hltN : ¬ (n : Int) < (n : Int) := by omega
        have hT := HT.out
        rw [List.take_of_length_le (by rw [HL.out]; exact Nat.le_refl _)] at hT
        have HPR2 := Lib.hid (fun W hW => HPR.out W hW HNM.out.1 HNM.out.2 hT)
        have HMA2 := Lib.hid (fun W hW => HMA.out W hW HNM.out.1 HNM.out.2 hT)
        clear hT HPR HMA HT hlt
        go_wp2_with fail
        refine (HMK.out _).mono ?_
        rintro e w2 ⟨rfl, hb2⟩
        have hW2 := hW.trans (hb2.mono hW.size)
        clear hb2 hW
        go_wp2_with fail
        refine (HPR2.out _ hW2).mono ?_
        rintro e w3 he
        rw [HRP.out] at he
        obtain ⟨he, hb3⟩ := he
        have hW3 := hW2.trans (hb3.mono hW2.size)
        have zs := zeroS
        have zw := zeroW
        clear hW2 hb3
        rcases he with ⟨hmk, rfl⟩ | ⟨W, cs, hmk, hi, rfl, hS⟩
        · obtain ⟨w4, hw4⟩ : ∃ w4, w3.alloc (.cells zeroSt 41) = w4 := ⟨_, rfl⟩
          have hb4 : Below w3.heap.size w3 w4 := by rw [← hw4]; exact (Below.refl _ w3).alloc (Nat.le_refl _) _
          have k4 : Blk w4 w3.heap.size 41 zeroSt := by rw [← hw4]; exact Blk.new _ _ _
          have hW4 := hW3.trans (hb4.mono hW3.size)
          have HW4 := Lib.hid hw4
          have HMKE := Lib.hid hmk
          obtain ⟨g4, hg4⟩ : ∃ g4, w3.heap.size = g4 := ⟨_, rfl⟩
          have HG4 := Lib.hid hg4
          rw [hg4] at k4
          clear hmk hw4 hb4 hW3 hg4
          go_wp2_with (refine wpList_store_row rfl 41 _ _ rfl w3.heap.size zeroSt rfl rfl 41 zeroSt (Blk.new _ _ _) infoS rfl zeroSt_one ?_; rw [World.setRow_alloc_new, HW4.out, HG4.out])
          refine (HEM.out _).mono ?_
          rintro e w5 ⟨rfl, hb5⟩
          have hW5 := hW4.trans (hb5.mono hW4.size)
          replace k4 := k4.below hb5 k4.lt
          clear hb5 hW4
          go_wp2_with fail
          refine (HMA2.out _ hW5).mono ?_
          rintro e w6 he
          rw [HRM.out] at he
          obtain ⟨he, hb6⟩ := he
          obtain ⟨_, rfl⟩ := he.resolve_right (fun ⟨W, _, h, _⟩ => by rw [HMKE.out] at h; cases h)
          have hW6 := (hW5.trans (hb6.mono hW5.size)).alloc (hW5.trans (hb6.mono hW5.size)).size (.cells zeroWd 44)
          replace k4 := (k4.below hb6 k4.lt).alloc (.cells zeroWd 44)
          have q1 := sl_req (k4.cell 0)
          have q2 := sl_hd (k4.cell 21)
          change _ = Result.ok (Value.slice none 0 0) _ at q1
          change _ = Result.ok (Value.slice none 0 0) _ at q2
          clear he hb6 hW5 k4
          go_wp2_with (first
           | (refine wpList_store_row rfl 44 _ _ rfl w6.heap.size zeroWd rfl rfl 44 zeroWd (Blk.new _ _ _) infoW rfl zeroWd_one ?_; rw [World.setRow_alloc_new]))
          go_ret
          exact ⟨rfl, hW6⟩
        · obtain ⟨w4, hw4⟩ : ∃ w4, w3.alloc (.cells cs 41) = w4 := ⟨_, rfl⟩
          have hb4 : Below w3.heap.size w3 w4 := by rw [← hw4]; exact (Below.refl _ w3).alloc (Nat.le_refl _) _
          have k4 : Blk w4 w3.heap.size 41 cs := by rw [← hw4]; exact Blk.new _ _ _
          have hW4 := hW3.trans (hb4.mono hW3.size)
          have hS4 := hS.below hb4
          have HW4 := Lib.hid hw4
          have HMKE := Lib.hid hmk
          have HII := Lib.hid hi
          have HSZ := Lib.hid hS.size
          have HIS : Hid ((Tryz.prog.info? 41).map (·.size) = some (cs : Array Value).size) := Lib.hid (by rw [HSZ.out]; exact infoS)
          have HOS := Lib.hid hS.one
          have HCS : Hid ((zeroSt : Array Value).size = cs.size) := Lib.hid (by rw [HSZ.out]; rfl)
          obtain ⟨g4, hg4⟩ : ∃ g4, w3.heap.size = g4 := ⟨_, rfl⟩
          have HG4 := Lib.hid hg4
          rw [hg4] at k4
          clear hmk hw4 hb4 hW3 hg4 hS hi
          go_wp2_with (refine wpList_store_row rfl 41 _ _ rfl w3.heap.size cs rfl rfl 41 zeroSt (Blk.new _ _ _) HIS.out HCS.out HOS.out ?_; rw [World.setRow_alloc_new, HW4.out, HG4.out])
          refine (HEM.out _).mono ?_
          rintro e w5 ⟨rfl, hb5⟩
          have hW5 := hW4.trans (hb5.mono hW4.size)
          replace k4 := k4.below hb5 k4.lt
          have hS5 := hS4.below hb5
          clear hb5 hW4 hS4
          go_wp2_with fail
          refine (HMA2.out _ hW5).mono ?_
          rintro e w6 he
          rw [HRM.out] at he
          obtain ⟨he, hb6⟩ := he
          obtain ⟨W2, ds, h2, _, rfl, hD⟩ := he.resolve_left (fun ⟨h, _⟩ => by rw [HMKE.out] at h; cases h)
          obtain rfl : W = W2 := by rw [HMKE.out] at h2; injection h2
          have hW6 := hW5.trans (hb6.mono hW5.size)
          replace k4 := k4.below hb6 k4.lt
          have hS6 := hS5.below hb6
          obtain ⟨w7, hw7⟩ : ∃ w7, w6.alloc (.cells ds 44) = w7 := ⟨_, rfl⟩
          have hb7 : Below w6.heap.size w6 w7 := by rw [← hw7]; exact (Below.refl _ w6).alloc (Nat.le_refl _) _
          have k7 : Blk w7 w6.heap.size 44 ds := by rw [← hw7]; exact Blk.new _ _ _
          have hW7 := hW6.trans (hb7.mono hW6.size)
          have hS7 := hS6.below hb7
          have hD7 := hD.below hb7
          replace k4 := k4.below hb7 k4.lt
          have HW7 := Lib.hid hw7
          have HDZ := Lib.hid hD.size
          have HIW : Hid ((Tryz.prog.info? 44).map (·.size) = some (ds : Array Value).size) := Lib.hid (by rw [HDZ.out]; exact infoW)
          have HOW := Lib.hid hD.one
          have HCW : Hid ((zeroWd : Array Value).size = ds.size) := Lib.hid (by rw [HDZ.out]; rfl)
          have dx := st_load HSZ.out k4
          have dw := wd_load HDZ.out k7
          have HSAME := Lib.hid (same11_any _ _ cs ds W HII.out w7 hS7 hD7)
          clear he hb6 hW5 hS5 hD hS6 hw7 hb7 k7 k4 hS7 hD7 h2 hW6
          go_wp2_with (refine wpList_store_row rfl 44 _ _ rfl w6.heap.size ds rfl rfl 44 zeroWd (Blk.new _ _ _) HIW.out HCW.out HOW.out ?_; rw [World.setRow_alloc_new, HW7.out])
          refine HSAME.out.mono ?_
          rintro e w8 ⟨rfl, hb8⟩
          have hW8 := hW7.trans (hb8.mono hW7.size)
          go_wp2
          go_ret
          exact ⟨rfl, hW8⟩
   · have h20' : (20 : Int) < (m : Int) := by omega
     go_enter Tryz.func5, Tryz.ntmps5
     go_wp2_with fail
     refine (HAW.out _).mono ?_
     rintro e w1 ⟨rfl, hb1⟩
     go_wp2_with fail
     refine (HAW.out _).mono ?_
     rintro e w2 ⟨rfl, hb2⟩
     have hb3 := hb1.trans (hb2.mono hb1.size)
     go_wp2
     go_ret
     exact ⟨rfl, hb3⟩
 · have h30' : (30 : Int) < (n : Int) := by omega
   go_enter Tryz.func5, Tryz.ntmps5
   go_wp2_with fail
   refine (HAW.out _).mono ?_
   rintro e w1 ⟨rfl, hb1⟩
   go_wp2_with fail
   refine (HAW.out _).mono ?_
   rintro e w2 ⟨rfl, hb2⟩
   have hb3 := hb1.trans (hb2.mono hb1.size)
   go_wp2
   go_ret
   exact ⟨rfl, hb3⟩
end
end Go.Proofs.YtnbboabaihddbaaGreat

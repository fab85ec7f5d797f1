/-
  What layer 10's laws ask first; the walk of the law HssSigns.
-/
import Derived.Test.YtbkmclgddknijaaHSign
import Derived.Test.YtbkmclgddknijaaHRef
import Derived.Test.YtbkmclgddknijaaHStep
namespace Go.Proofs.Ytbkmclgddknijaa
open Go.RowKit

set_option maxRecDepth 100000 in
set_option maxHeartbeats 1000000 in
theorem awake10_any (w : World) : Calls Try.prog 5 #[] w fun e w' => e = .returned (.bool true) ∧ Below w.heap.size w w' := by
  have HS := Lib.hid (fun W => hsssign_spent ⟨#[]⟩ ⟨#[]⟩ 64 (by decide) W)
  go_enter Try.func5, Try.ntmps5
  go_wp2_with fail
  refine (make_std _).mono ?_
  rintro e w1 ⟨rfl, hB1⟩
  go_wp2_with fail
  refine (HS.out _).mono ?_
  rintro e w2 ⟨rfl, hB2⟩
  have hB2' := hB1.trans (hB2.mono hB1.size)
  go_wp2
  go_ret
  exact ⟨rfl, hB2'⟩
section
attribute [-go_sem] loadVar
set_option maxRecDepth 100000 in
set_option maxHeartbeats 4000000 in
theorem law_hsigns (seed : ByteArray) (hs : seed.size ≤ 9223372036854775807) (m : ByteArray) (hm : m.size ≤ 9223372036854775807) (x : Int) (w : World) :
    Calls Try.prog 3 #[.string seed, .string m, .int .i64 x] w fun e w' => e = .returned (.bool true) ∧ Below w.heap.size w w' := by
  by_cases hls : seed.size ≤ 40
  · have hls' : ¬ (40 : Int) < (seed.size : Int) := by omega
    by_cases hlm : m.size ≤ 40
    · have hlm' : ¬ (40 : Int) < (m.size : Int) := by omega
      have z1 := zeroTable
      by_cases hx : 0 ≤ x ∧ x < 64
      · obtain ⟨n, rfl⟩ : ∃ n : Nat, x = n := ⟨x.toNat, by omega⟩
        have hx0 : ¬ (n : Int) < 0 := by omega
        have hx7 : ¬ (63 : Int) < (n : Int) := by omega
        have HSG := Lib.hid (fun W => hsssign_any seed m (by omega) (by omega) n (by omega) W)
        obtain ⟨k, hk⟩ : ∃ k, n / 8 = k := ⟨_, rfl⟩
        obtain ⟨q, hq⟩ : ∃ q, n % 8 = q := ⟨_, rfl⟩
        rw [hk, hq] at HSG
        have hcz := childB_size seed k
        have HPB := Lib.hid (fun W => hsspublic_any seed (by omega) W)
        have HVF := Lib.hid (fun W => hssverify_any (nodeB seed 3 0) m (twoB seed k q m) (by omega) W)
        have HVR := Lib.hid (fun W => rheld_any (nodeB seed 3 0) m (twoB seed k q m) (by omega) W)
        rw [heldV_yes (two_held seed k q m (by omega) (by omega)), two_num seed k q m (by omega) (by omega), show 8 * k + q = n by omega] at HVF HVR
        have HC1 := Lib.hid (fun W => child_any seed (by omega) n W)
        have HC2 := Lib.hid (fun W => rchild_any seed (by omega) n W)
        have HC3 := Lib.hid (fun W => child_any seed (by omega) k W)
        have HP2 := Lib.hid (fun W => public_any (childB seed k) (by omega) W)
        have HX := two_child seed k q m
        have HZ := twoB_size seed k q m
        generalize twoB seed k q m = SB at *
        generalize nodeB seed 3 0 = PB at *
        generalize childB seed n = C1 at *
        generalize nodeB (childB seed k) 3 0 = P2 at *
        generalize childB seed k = C3 at *
        have e1 : (C1.toList == C1.toList) = true := beq_self_eq_true _
        have e2 : (P2.toList == P2.toList) = true := beq_self_eq_true _
        have e3 : ((n : Int) == (n : Int)) = true := beq_self_eq_true _
        have e4 : (n : Int).tdiv 8 = (k : Int) := by rw [Int.tdiv_eq_ediv_of_nonneg (by omega)]; omega
        have h1 : (2276 : Int) ≤ (SB.size : Int) := by omega
        have e5 : IntKind.i64.wrap (k : Int) = (k : Int) := by rw [IntKind.wrap_i64]; omega
        have HZ' := Lib.hid HZ
        clear HZ hcz hk hq hx hlm hls hs hm
        go_enter Try.func3, Try.ntmps3
        go_wp2_with fail
        refine (awake10_any _).mono ?_
        rintro e w1 ⟨rfl, hB1⟩
        go_wp2_with fail
        refine (make_std _).mono ?_
        rintro e w2 ⟨rfl, hB2⟩
        have hB2' := hB1.trans (hB2.mono hB1.size)
        clear hB1 hB2
        have hl3 := tab_run (Blk.new w2 27 tabV)
        go_wp2_with (refine wpList_store_row rfl 27 _ _ rfl w2.heap.size tabV rfl rfl 27 zero72 (Blk.new _ _ _) (by rw [tabV_size]; exact infoTable) (by kernel_rfl) (by kernel_rfl) ?_; rw [World.setRow_alloc_new])
        have hB3 := hB2'.alloc hB2'.size (.cells tabV 27)
        have hT : Blk (w2.alloc (.cells tabV 27)) w2.heap.size 27 tabV := Blk.new _ _ _
        generalize w2.alloc (.cells tabV 27) = w3 at *
        generalize w2.heap.size = gt at *
        clear hB2' z1
        refine (HSG.out _).mono ?_
        rintro e w4 ⟨rfl, hb4⟩
        have hT4 := hT.below hb4 hT.lt
        have hB4 := hB3.trans (hb4.mono hB3.size)
        have hl4 := tab_run hT4
        clear hT hB3 hb4 hl3 HSG
        go_wp2_with fail
        refine (HPB.out _).mono ?_
        rintro e w5 ⟨rfl, hb5⟩
        have hT5 := hT4.below hb5 hT4.lt
        have hB5 := hB4.trans (hb5.mono hB4.size)
        have hl5 := tab_run hT5
        clear hT4 hB4 hb5 hl4 HPB
        go_wp2_with fail
        refine (HVF.out _).mono ?_
        rintro e w6 ⟨rfl, hb6⟩
        have hT6 := hT5.below hb6 hT5.lt
        have hB6 := hB5.trans (hb6.mono hB5.size)
        clear hT5 hB5 hb6 hl5 HVF
        go_wp2_with fail
        refine (HVR.out _).mono ?_
        rintro e w7 ⟨rfl, hb7⟩
        have hT7 := hT6.below hb7 hT6.lt
        have hB7 := hB6.trans (hb7.mono hB6.size)
        clear hT6 hB6 hb7 HVR
        have HKP : Hid (∀ W, Below w7.heap.size w7 W → (loadVar 27 ⟨gt, 0, none⟩).run Try.prog W = .ok (.agg tabV) W ∧ Below w7.heap.size w7 W) := Lib.hid fun W hW => ⟨tab_run (hT7.below hW hT7.lt), hW⟩
        clear hT7
        go_wp2
        refine wp_region_held_drew (S := fun w' => (loadVar 27 ⟨gt, 0, none⟩).run Try.prog w' = .ok (.agg tabV) w' ∧ Below w7.heap.size w7 w') (by kernel_rfl) ?_ (fun hHeld0 => ?_)
        · (refine HKP.out _ ?_; first | exact hB4' | exact hB3' | exact hB2' | exact hB1' | exact (Below.refl _ _).drew | exact Below.refl _ _)
        apply takeH (i := 0) rfl (by kernel_rfl) (by kernel_rfl) (by kernel_rfl) (fun _ _ _ h => h) (by rfl)
        case hy => (intro w hSw; (try dsimp only at hSw); go_simp; try with_reducible rfl)
        case hS => assumption
        (try simp only [Act.put, List.setIfInBounds_toArray, List.set_cons_zero, List.set_cons_succ])
        apply takeH (i := 1) rfl (by kernel_rfl) (by kernel_rfl) (by kernel_rfl) (fun _ _ _ h => h) (by rfl)
        case hy => (intro w hSw; (try dsimp only at hSw); go_simp; try with_reducible rfl)
        case hS => assumption
        (try simp only [Act.put, List.setIfInBounds_toArray, List.set_cons_zero, List.set_cons_succ])
        apply takeH (i := 2) rfl (by kernel_rfl) (by kernel_rfl) (by kernel_rfl) (fun _ _ _ h => h) (by rfl)
        case hy => (intro w hSw; (try dsimp only at hSw); go_simp; try with_reducible rfl)
        case hS => assumption
        (try simp only [Act.put, List.setIfInBounds_toArray, List.set_cons_zero, List.set_cons_succ])
        apply takeH (i := 3) rfl (by kernel_rfl) (by kernel_rfl) (by kernel_rfl) (fun _ _ _ h => h) (by rfl)
        case hy => (intro w hSw; (try dsimp only at hSw); go_simp; try with_reducible rfl)
        case hS => assumption
        (try simp only [Act.put, List.setIfInBounds_toArray, List.set_cons_zero, List.set_cons_succ])
        apply takeH (i := 4) rfl (by kernel_rfl) (by kernel_rfl) (by kernel_rfl) (fun _ _ _ h => h) (by rfl)
        case hy => (intro w hSw; (try dsimp only at hSw); go_simp; try with_reducible rfl)
        case hS => assumption
        (try simp only [Act.put, List.setIfInBounds_toArray, List.set_cons_zero, List.set_cons_succ])
        apply takeH (i := 5) rfl (by kernel_rfl) (by kernel_rfl) (by kernel_rfl) (fun _ _ _ h => h) (by rfl)
        case hy => (intro w hSw; (try dsimp only at hSw); go_simp; try with_reducible rfl)
        case hS => assumption
        (try simp only [Act.put, List.setIfInBounds_toArray, List.set_cons_zero, List.set_cons_succ])
        apply takeH (i := 6) rfl (by kernel_rfl) (by kernel_rfl) (by kernel_rfl) (fun _ _ _ h => h) (by rfl)
        case hy => (intro w hSw; (try dsimp only at hSw); go_simp; try with_reducible rfl)
        case hS => assumption
        (try simp only [Act.put, List.setIfInBounds_toArray, List.set_cons_zero, List.set_cons_succ])
        apply takeH (i := 7) rfl (by kernel_rfl) (by kernel_rfl) (by kernel_rfl) (fun _ _ _ h => h) (by rfl)
        case hy => (intro w hSw; (try dsimp only at hSw); go_simp; try with_reducible rfl)
        case hS => assumption
        (try simp only [Act.put, List.setIfInBounds_toArray, List.set_cons_zero, List.set_cons_succ])
        apply takeH (i := 8) rfl (by kernel_rfl) (by kernel_rfl) (by kernel_rfl) (fun _ _ _ h => h) (by rfl)
        case hy => (intro w hSw; (try dsimp only at hSw); go_simp; try with_reducible rfl)
        case hS => assumption
        (try simp only [Act.put, List.setIfInBounds_toArray, List.set_cons_zero, List.set_cons_succ])
        apply takeH (i := 9) rfl (by kernel_rfl) (by kernel_rfl) (by kernel_rfl) (fun _ _ _ h => h) (by rfl)
        case hy => (intro w hSw; (try dsimp only at hSw); go_simp; try with_reducible rfl)
        case hS => assumption
        (try simp only [Act.put, List.setIfInBounds_toArray, List.set_cons_zero, List.set_cons_succ])
        apply takeH (i := 10) rfl (by kernel_rfl) (by kernel_rfl) (by kernel_rfl) (fun _ _ _ h => h) (by rfl)
        case hy => (intro w hSw; (try dsimp only at hSw); go_simp; try with_reducible rfl)
        case hS => assumption
        (try simp only [Act.put, List.setIfInBounds_toArray, List.set_cons_zero, List.set_cons_succ])
        apply takeH (i := 11) rfl (by kernel_rfl) (by kernel_rfl) (by kernel_rfl) (fun _ _ _ h => h) (by rfl)
        case hy => (intro w hSw; (try dsimp only at hSw); go_simp; try with_reducible rfl)
        case hS => assumption
        (try simp only [Act.put, List.setIfInBounds_toArray, List.set_cons_zero, List.set_cons_succ])
        apply takeH (i := 12) rfl (by kernel_rfl) (by kernel_rfl) (by kernel_rfl) (fun _ _ _ h => h) (by rfl)
        case hy => (intro w hSw; (try dsimp only at hSw); go_simp; try with_reducible rfl)
        case hS => assumption
        (try simp only [Act.put, List.setIfInBounds_toArray, List.set_cons_zero, List.set_cons_succ])
        apply takeH (i := 13) rfl (by kernel_rfl) (by kernel_rfl) (by kernel_rfl) (fun _ _ _ h => h) (by rfl)
        case hy => (intro w hSw; (try dsimp only at hSw); go_simp; try with_reducible rfl)
        case hS => assumption
        (try simp only [Act.put, List.setIfInBounds_toArray, List.set_cons_zero, List.set_cons_succ])
        apply takeH (i := 14) rfl (by kernel_rfl) (by kernel_rfl) (by kernel_rfl) (fun _ _ _ h => h) (by rfl)
        case hy => (intro w hSw; (try dsimp only at hSw); go_simp; try with_reducible rfl)
        case hS => assumption
        (try simp only [Act.put, List.setIfInBounds_toArray, List.set_cons_zero, List.set_cons_succ])
        apply takeH (i := 15) rfl (by kernel_rfl) (by kernel_rfl) (by kernel_rfl) (fun _ _ _ h => h) (by rfl)
        case hy => (intro w hSw; (try dsimp only at hSw); go_simp; try with_reducible rfl)
        case hS => assumption
        (try simp only [Act.put, List.setIfInBounds_toArray, List.set_cons_zero, List.set_cons_succ])
        apply takeH (i := 16) rfl (by kernel_rfl) (by kernel_rfl) (by kernel_rfl) (fun _ _ _ h => h) (by rfl)
        case hy => (intro w hSw; (try dsimp only at hSw); go_simp; try with_reducible rfl)
        case hS => assumption
        (try simp only [Act.put, List.setIfInBounds_toArray, List.set_cons_zero, List.set_cons_succ])
        apply takeH (i := 17) rfl (by kernel_rfl) (by kernel_rfl) (by kernel_rfl) (fun _ _ _ h => h) (by rfl)
        case hy => (intro w hSw; (try dsimp only at hSw); go_simp; try with_reducible rfl)
        case hS => assumption
        (try simp only [Act.put, List.setIfInBounds_toArray, List.set_cons_zero, List.set_cons_succ])
        apply takeH (i := 18) rfl (by kernel_rfl) (by kernel_rfl) (by kernel_rfl) (fun _ _ _ h => h) (by rfl)
        case hy => (intro w hSw; (try dsimp only at hSw); go_simp; try with_reducible rfl)
        case hS => assumption
        (try simp only [Act.put, List.setIfInBounds_toArray, List.set_cons_zero, List.set_cons_succ])
        apply takeH (i := 19) rfl (by kernel_rfl) (by kernel_rfl) (by kernel_rfl) (fun _ _ _ h => h) (by rfl)
        case hy => (intro w hSw; (try dsimp only at hSw); go_simp; try with_reducible rfl)
        case hS => assumption
        (try simp only [Act.put, List.setIfInBounds_toArray, List.set_cons_zero, List.set_cons_succ])
        apply takeH (i := 20) rfl (by kernel_rfl) (by kernel_rfl) (by kernel_rfl) (fun _ _ _ h => h) (by rfl)
        case hy => (intro w hSw; (try dsimp only at hSw); go_simp; try with_reducible rfl)
        case hS => assumption
        (try simp only [Act.put, List.setIfInBounds_toArray, List.set_cons_zero, List.set_cons_succ])
        apply takeH (i := 22) rfl (by kernel_rfl) (by kernel_rfl) (by kernel_rfl) (fun _ _ _ h => h) (by rfl)
        case hy => (intro w hSw; (try dsimp only at hSw); go_simp; try with_reducible rfl)
        case hS => assumption
        (try simp only [Act.put, List.setIfInBounds_toArray, List.set_cons_zero, List.set_cons_succ])
        apply takeH (i := 23) rfl (by kernel_rfl) (by kernel_rfl) (by kernel_rfl) (fun _ _ _ h => h) (by rfl)
        case hy => (intro w hSw; (try dsimp only at hSw); go_simp; try with_reducible rfl)
        case hS => assumption
        (try simp only [Act.put, List.setIfInBounds_toArray, List.set_cons_zero, List.set_cons_succ])
        refine doH (i := 21) rfl (by kernel_rfl) (by rfl) (fun K hK => ?_)
        go_simp
        (go_at_call 11; refine (HC1.out _).mono ?_; rintro e v1 ⟨rfl, hb1⟩; have hB1' : Below w7.heap.size w7 v1 := (Below.refl _ _).drew.trans hb1)
        go_wp2_with fail
        refine hK.out _ _ ?_ (fun hHeld21 => ?_)
        · (refine HKP.out _ ?_; first | exact hB4' | exact hB3' | exact hB2' | exact hB1' | exact (Below.refl _ _).drew | exact Below.refl _ _)
        clear hK K hHeld0
        (try simp only [Act.put, List.setIfInBounds_toArray, List.set_cons_zero, List.set_cons_succ])
        refine doH (i := 24) rfl (by kernel_rfl) (by rfl) (fun K hK => ?_)
        go_simp
        (go_at_call 12; refine (HC2.out _).mono ?_; rintro e v2 ⟨rfl, hb2⟩; have hB2' : Below w7.heap.size w7 v2 := hB1'.trans (hb2.mono hB1'.size))
        go_wp2_with fail
        refine hK.out _ _ ?_ (fun hHeld24 => ?_)
        · (refine HKP.out _ ?_; first | exact hB4' | exact hB3' | exact hB2' | exact hB1' | exact (Below.refl _ _).drew | exact Below.refl _ _)
        clear hK K hHeld21
        (try simp only [Act.put, List.setIfInBounds_toArray, List.set_cons_zero, List.set_cons_succ])
        apply takeH (i := 25) rfl (by kernel_rfl) (by kernel_rfl) (by kernel_rfl) (fun _ _ _ h => h) (by rfl)
        case hy => (intro w hSw; (try dsimp only at hSw); go_simp; try with_reducible rfl)
        case hS => assumption
        (try simp only [Act.put, List.setIfInBounds_toArray, List.set_cons_zero, List.set_cons_succ])
        apply takeH (i := 26) rfl (by kernel_rfl) (by kernel_rfl) (by kernel_rfl) (fun _ _ _ h => h) (by rfl)
        case hy => (intro w hSw; (try dsimp only at hSw); go_simp; try with_reducible rfl)
        case hS => assumption
        (try simp only [Act.put, List.setIfInBounds_toArray, List.set_cons_zero, List.set_cons_succ])
        apply takeH (i := 27) rfl (by kernel_rfl) (by kernel_rfl) (by kernel_rfl) (fun _ _ _ h => h) (by rfl)
        case hy => (intro w hSw; (try dsimp only at hSw); go_simp; try with_reducible rfl)
        case hS => assumption
        (try simp only [Act.put, List.setIfInBounds_toArray, List.set_cons_zero, List.set_cons_succ])
        apply takeH (i := 28) rfl (by kernel_rfl) (by kernel_rfl) (by kernel_rfl) (fun _ _ _ h => h) (by rfl)
        case hy => (intro w hSw; (try dsimp only at hSw); go_simp; try with_reducible rfl)
        case hS => assumption
        (try simp only [Act.put, List.setIfInBounds_toArray, List.set_cons_zero, List.set_cons_succ])
        apply takeH (i := 29) rfl (by kernel_rfl) (by kernel_rfl) (by kernel_rfl) (fun _ _ _ h => h) (by rfl)
        case hy => (intro w hSw; (try dsimp only at hSw); go_simp; try with_reducible rfl)
        case hS => assumption
        (try simp only [Act.put, List.setIfInBounds_toArray, List.set_cons_zero, List.set_cons_succ])
        apply takeH (i := 30) rfl (by kernel_rfl) (by kernel_rfl) (by kernel_rfl) (fun _ _ _ h => h) (by rfl)
        case hy => (intro w hSw; (try dsimp only at hSw); go_simp; try with_reducible rfl)
        case hS => assumption
        (try simp only [Act.put, List.setIfInBounds_toArray, List.set_cons_zero, List.set_cons_succ])
        apply takeH (i := 31) rfl (by kernel_rfl) (by kernel_rfl) (by kernel_rfl) (fun _ _ _ h => h) (by rfl)
        case hy => (intro w hSw; (try dsimp only at hSw); go_simp; try with_reducible rfl)
        case hS => assumption
        (try simp only [Act.put, List.setIfInBounds_toArray, List.set_cons_zero, List.set_cons_succ])
        apply takeH (i := 32) rfl (by kernel_rfl) (by kernel_rfl) (by kernel_rfl) (fun _ _ _ h => h) (by rfl)
        case hy => (intro w hSw; (try dsimp only at hSw); go_simp; try with_reducible rfl)
        case hS => assumption
        (try simp only [Act.put, List.setIfInBounds_toArray, List.set_cons_zero, List.set_cons_succ])
        apply takeH (i := 33) rfl (by kernel_rfl) (by kernel_rfl) (by kernel_rfl) (fun _ _ _ h => h) (by rfl)
        case hy => (intro w hSw; (try dsimp only at hSw); go_simp; try with_reducible rfl)
        case hS => assumption
        (try simp only [Act.put, List.setIfInBounds_toArray, List.set_cons_zero, List.set_cons_succ])
        refine doH (i := 34) rfl (by kernel_rfl) (by rfl) (fun K hK => ?_)
        go_simp
        (go_at_call 11; refine (HC3.out _).mono ?_; rintro e v3 ⟨rfl, hb3⟩; have hB3' : Below w7.heap.size w7 v3 := hB2'.trans (hb3.mono hB2'.size))
        go_wp2_with fail
        refine hK.out _ _ ?_ (fun hHeld34 => ?_)
        · (refine HKP.out _ ?_; first | exact hB4' | exact hB3' | exact hB2' | exact hB1' | exact (Below.refl _ _).drew | exact Below.refl _ _)
        clear hK K hHeld24
        (try simp only [Act.put, List.setIfInBounds_toArray, List.set_cons_zero, List.set_cons_succ])
        refine doH (i := 35) rfl (by kernel_rfl) (by rfl) (fun K hK => ?_)
        go_simp
        (go_at_call 13; refine (HP2.out _).mono ?_; rintro e v4 ⟨rfl, hb4⟩; have hB4' : Below w7.heap.size w7 v4 := hB3'.trans (hb4.mono hB3'.size))
        go_wp2_with fail
        refine hK.out _ _ ?_ (fun hHeld35 => ?_)
        · (refine HKP.out _ ?_; first | exact hB4' | exact hB3' | exact hB2' | exact hB1' | exact (Below.refl _ _).drew | exact Below.refl _ _)
        clear hK K hHeld34
        (try simp only [Act.put, List.setIfInBounds_toArray, List.set_cons_zero, List.set_cons_succ])
        apply takeH (i := 36) rfl (by kernel_rfl) (by kernel_rfl) (by kernel_rfl) (fun _ _ _ h => h) (by rfl)
        case hy => (intro w hSw; (try dsimp only at hSw); go_simp; try with_reducible rfl)
        case hS => assumption
        (try simp only [Act.put, List.setIfInBounds_toArray, List.set_cons_zero, List.set_cons_succ])
        apply takeH (i := 37) rfl (by kernel_rfl) (by kernel_rfl) (by kernel_rfl) (fun _ _ _ h => h) (by rfl)
        case hy => (intro w hSw; (try dsimp only at hSw); go_simp; try with_reducible rfl)
        case hS => assumption
        (try simp only [Act.put, List.setIfInBounds_toArray, List.set_cons_zero, List.set_cons_succ])
        apply takeH (i := 38) rfl (by kernel_rfl) (by kernel_rfl) (by kernel_rfl) (fun _ _ _ h => h) (by rfl)
        case hy => (intro w hSw; (try dsimp only at hSw); go_simp; try with_reducible rfl)
        case hS => assumption
        (try simp only [Act.put, List.setIfInBounds_toArray, List.set_cons_zero, List.set_cons_succ])
        refine wpAnyH_done (by kernel_rfl) ?_ _
        have hB8 := hB7.trans (hB4'.mono hB7.size)
        go_wp2
        go_ret
        exact ⟨rfl, hB8⟩
      · have HSG := Lib.hid (fun W => hsssign_spent seed m x hx W)
        have hx' : x < 0 ∨ 63 < x := by omega
        have e1 : ((⟨#[]⟩ : ByteArray).toList == (⟨#[]⟩ : ByteArray).toList) = true := beq_self_eq_true _
        rcases hx' with hx0 | hx7
        · clear hx
          go_enter Try.func3, Try.ntmps3
          go_wp2_with fail
          refine (awake10_any _).mono ?_
          rintro e w1 ⟨rfl, hB1⟩
          go_wp2_with fail
          refine (make_std _).mono ?_
          rintro e w2 ⟨rfl, hB2⟩
          have hB2' := hB1.trans (hB2.mono hB1.size)
          clear hB1 hB2
          have hl3 := tab_run (Blk.new w2 27 tabV)
          go_wp2_with (refine wpList_store_row rfl 27 _ _ rfl w2.heap.size tabV rfl rfl 27 zero72 (Blk.new _ _ _) (by rw [tabV_size]; exact infoTable) (by kernel_rfl) (by kernel_rfl) ?_; rw [World.setRow_alloc_new])
          have hB3 := hB2'.alloc hB2'.size (.cells tabV 27)
          generalize w2.alloc (.cells tabV 27) = w3 at *
          generalize w2.heap.size = gt at *
          clear hB2' z1
          refine (HSG.out _).mono ?_
          rintro e w4 ⟨rfl, hb4⟩
          have hB4 := hB3.trans (hb4.mono hB3.size)
          clear hB3 hb4 hl3
          go_wp2
          go_ret
          exact ⟨rfl, hB4⟩
        · have hx0 : ¬ x < 0 := by omega
          clear hx
          go_enter Try.func3, Try.ntmps3
          go_wp2_with fail
          refine (awake10_any _).mono ?_
          rintro e w1 ⟨rfl, hB1⟩
          go_wp2_with fail
          refine (make_std _).mono ?_
          rintro e w2 ⟨rfl, hB2⟩
          have hB2' := hB1.trans (hB2.mono hB1.size)
          clear hB1 hB2
          have hl3 := tab_run (Blk.new w2 27 tabV)
          go_wp2_with (refine wpList_store_row rfl 27 _ _ rfl w2.heap.size tabV rfl rfl 27 zero72 (Blk.new _ _ _) (by rw [tabV_size]; exact infoTable) (by kernel_rfl) (by kernel_rfl) ?_; rw [World.setRow_alloc_new])
          have hB3 := hB2'.alloc hB2'.size (.cells tabV 27)
          generalize w2.alloc (.cells tabV 27) = w3 at *
          generalize w2.heap.size = gt at *
          clear hB2' z1
          refine (HSG.out _).mono ?_
          rintro e w4 ⟨rfl, hb4⟩
          have hB4 := hB3.trans (hb4.mono hB3.size)
          clear hB3 hb4 hl3
          go_wp2
          go_ret
          exact ⟨rfl, hB4⟩
    · have hlm' : (40 : Int) < (m.size : Int) := by omega
      go_enter Try.func3, Try.ntmps3
      go_wp2_with fail
      refine (awake10_any _).mono ?_
      rintro e w1 ⟨rfl, hB1⟩
      go_wp2_with fail
      refine (awake10_any _).mono ?_
      rintro e w2 ⟨rfl, hB2⟩
      have hB2' := hB1.trans (hB2.mono hB1.size)
      go_wp2
      go_ret
      exact ⟨rfl, hB2'⟩
  · have hls' : (40 : Int) < (seed.size : Int) := by omega
    go_enter Try.func3, Try.ntmps3
    go_wp2_with fail
    refine (awake10_any _).mono ?_
    rintro e w1 ⟨rfl, hB1⟩
    go_wp2_with fail
    refine (awake10_any _).mono ?_
    rintro e w2 ⟨rfl, hB2⟩
    have hB2' := hB1.trans (hB2.mono hB1.size)
    go_wp2
    go_ret
    exact ⟨rfl, hB2'⟩
end
end Go.Proofs.Ytbkmclgddknijaa

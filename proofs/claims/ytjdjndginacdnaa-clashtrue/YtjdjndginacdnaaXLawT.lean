/-
  The walk of the law ClashTrue.
-/
import Derived.Test.YtjdjndginacdnaaXTrueM
import Derived.Test.YtjdjndginacdnaaXRoot
import Derived.Test.YtjdjndginacdnaaXAw
import Derived.Test.YtjdjndginacdnaaLoadsWBldHStep
namespace Go.Proofs.Ytjdjndginacdnaa
open Go.RowKit Go.Maps

section
attribute [-go_sem] loadVar
set_option maxRecDepth 100000 in
set_option maxHeartbeats 8000000 in
theorem law_true9 (oa : Option Addr) (n cap : Nat) (ps : List (ByteArray × ByteArray)) (hn : ps.length = n) (x : ByteArray) (hx : x.size ≤ 9223372036854775807) (w : World) (hP : Prs w oa ps) :
    Calls Try.prog 5 #[.slice oa n cap, .string x] w fun e w' => e = .returned (.bool true) ∧ Below w.heap.size w w' := by
  have HF1 := Lib.hid (fun W hP => few_any5 oa n cap 5 ps hn (by decide) W hP)
  unfold RFew at HF1
  rw [show ((5 : Nat) : Int) = 5 from rfl] at HF1
  have HAW := Lib.hid awake9_any
  go_enter Try.func5, Try.ntmps5
  go_wp2_with fail
  refine (HAW.out _).mono ?_
  rintro e w1 ⟨rfl, hB1⟩
  have hP1 := hP.below hB1
  clear hP
  go_wp2_with fail
  refine (HF1.out _ hP1).mono ?_
  rintro e w2 ⟨⟨b1, rfl, hb1⟩, rfl⟩
  cases b1
  · clear hP1 HF1 hb1
    go_wp2_with fail
    refine (HAW.out _).mono ?_
    rintro e w3 ⟨rfl, hb3⟩
    have hB3 := hB1.trans (hb3.mono hB1.size)
    go_wp2
    go_ret
    exact ⟨rfl, hB3⟩
  · obtain ⟨hn5, hfp⟩ := hb1 rfl
    clear hb1 HF1
    by_cases h60 : 60 < x.size
    · have h60' : (x.size : Int) > 60 := by omega
      have h60'' : (60 : Int) < (x.size : Int) := by omega
      clear hP1 hfp
      go_wp2_with fail
      refine (HAW.out _).mono ?_
      rintro e w3 ⟨rfl, hb3⟩
      have hB3 := hB1.trans (hb3.mono hB1.size)
      go_wp2
      go_ret
      exact ⟨rfl, hB3⟩
    · have h60' : ¬ (x.size : Int) > 60 := by omega
      have h60'' : ¬ (60 : Int) < (x.size : Int) := by omega
      have hx60 : x.size ≤ 60 := by omega
      have z1 := zeroTable
      have HAP := Lib.hid (fun W hP => apart_any oa n cap ps hn (by omega) hfp x hx60 W hP)
      unfold RAp at HAP
      have HR1 := Lib.hid (fun b W hm => rootOf_any b ps (by omega) hfp W hm)
      have HPM := Lib.hid (fun b hA W hm => proveM_any b ps (by omega) hfp x hx60 hA W hm)
      unfold RPm at HPM
      have hvs := valM_size hfp x
      have HVS := Lib.hid hvs
      have HRT := Lib.hid (fun s (hs : s.size ≤ 10000) W => root9_any hsh_fullB x (lookP ps x).isSome (valM ps x) s (by omega) (by omega) hs W)
      have HVN : (lookP ps x).isSome = false → (valM ps x).size = 0 := fun h => by
        unfold valM
        cases hl : lookP ps x with
        | none => rfl
        | some v => rw [hl] at h; cases h
      have HHO := Lib.hid (fun s hv => rt9_holds (root := rootP ps) (k := x) (v := valM ps x) (s := s) (th := (lookP ps x).isSome) (by omega) (by omega) HVN hv)
      have HPT := Lib.hid (fun W => path9_any hsh_fullB x (by omega) W)
      have z0 : (⟨#[75]⟩ : ByteArray).size = 1 := rfl
      have had := addRun (a := ⟨#[75]⟩) (b := x) (by omega)
      have HSU := Lib.hid (fun W => hsum_any (⟨#[75]⟩ ++ x) (by simp only [ByteArray.size_append]; omega) W)
      change Hid (∀ W, Calls _ _ _ W fun e w' => e = .returned (.string (pa9 hB x)) ∧ _) at HSU
      have HAX : Hid (AptK ps x → ∀ z, (lookP ps z).isSome = true → pathS z = pathS x → z = x) := Lib.hid fun h z hz e => h z (List.mem_cons_of_mem _ (look_key hz)) x (List.mem_cons_self ..) e
      have HLK := Lib.hid (fun (W : World) b (hm : MapAt W b ps) => hm.look_ok x hx60)
      generalize pa9 hB x = PX at *
      generalize AptK ps x = AK at *
      have HAT : Hid (∀ W, Prs W oa ps → ∀ i, i < n → ∃ g o X Y, oa = some ⟨g, o, none⟩ ∧ g < W.heap.size ∧ W.cell? ⟨g, o + i * 2, none⟩ = some (.string X) ∧ W.cell? ⟨g, o + i * 2 + 1, none⟩ = some (.string Y) ∧ X.size ≤ 60 ∧ Y.size ≤ 60 ∧ ps.take (i + 1) = ps.take i ++ [(X, Y)]) := Lib.hid fun W hW i hi => by
        obtain ⟨g, o, h1, h2, h3, h4⟩ := hW.at (i := i) (by omega)
        have hf := hfp.get (i := i) (by omega)
        exact ⟨g, o, _, _, h1, h2, h3, h4, hf.1, hf.2, List.take_succ_eq_append_getElem (by omega)⟩
      have HN := Lib.hid hn
      clear hfp h60 HAW hvs HVN hn z0
      go_wp2_with fail
      refine (HAP.out _ hP1).mono ?_
      rintro e w3 ⟨⟨b3, rfl, ha3⟩, hb3⟩
      have hP3 := hP1.below hb3
      have hB3 := hB1.trans (hb3.mono hB1.size)
      clear hb3 hP1 hB1 HAP h60' h60''
      cases b3
      · clear hP3
        go_wp2
        go_ret
        exact ⟨rfl, hB3⟩
      · have HAK := Lib.hid (ha3 rfl)
        clear ha3
        go_wp2_with fail
        refine (make_std _).mono ?_
        rintro e w4 ⟨rfl, hb4⟩
        have hP4 := hP3.below hb4
        have hB4 := hB3.trans (hb4.mono hB3.size)
        clear hb4 hP3 hB3
        have hmm := @run_makeMap Try.prog
        go_wp2_with (refine wpList_store_row rfl 43 _ _ rfl w4.heap.size tabV rfl rfl 43 zero72 (Blk.new _ _ _) (by rw [tabV_size]; exact infoTable) (by kernel_rfl) (by kernel_rfl) ?_; rw [World.setRow_alloc_new])
        have hb5 := (Below.refl _ w4).alloc (Nat.le_refl _) (.cells tabV 43)
        have hT5 : Blk (w4.alloc (.cells tabV 43)) w4.heap.size 43 tabV := Blk.new _ _ _
        have hP5 := hP4.below hb5
        have hB5 := hB4.trans (hb5.mono hB4.size)
        have z5 : (w4.alloc (.cells tabV 43)).heap.size = w4.heap.size + 1 := by simp
        generalize w4.alloc (.cells tabV 43) = w5 at *
        generalize w4.heap.size = gt at *
        clear hb5 hP4 hB4 z1
        have hm0 : MapAt (w5.alloc (.map #[] 0)) (gt + 1) (ps.take 0) := by rw [← z5]; exact World.ownsMap_made w5 _ _ _
        have hb6 := (Below.refl _ w5).alloc (Nat.le_refl _) (.map #[] 0)
        have HT5 := Lib.hid hT5
        have HP5 := Lib.hid hP5
        have HB5 := Lib.hid hB5
        have Z5 := Lib.hid z5
        clear hT5 hP5 hB5 z5
        try go_wp2
        generalize w5.alloc (.map #[] 0) = w6 at *
        go_loopw [7] (fun i wr => ∃ k : Nat, k ≤ n ∧ i = .int .i64 k ∧ MapAt wr (gt + 1) (ps.take k) ∧ Below w5.heap.size w5 wr) (fun i _ => n - (intOf i).toNat)
        case atStart => exact ⟨0, by omega, rfl, hm0, hb6⟩
        case round =>
          clear hm0 hb6 hmm
          obtain ⟨k, hk, rfl, hm, hB⟩ := hrel
          by_cases hlt : k < n
          · have hlt' : (k : Int) < (n : Int) := by omega
            obtain ⟨g, o, X, Y, rfl, hg, c1, c2, hx1, hy1, htk⟩ := HAT.out w5 HP5.out k hlt
            have hmd : MapAt wr.drew (gt + 1) (ps.take k) := hm
            obtain ⟨w7, hrun, hown1, hg1⟩ := World.ownsMap.update hmd keyed Try.underlying46 (by rw [List.length_take]; unfold maxLen; omega) (Go.WideMaps.keyOf_string_mk Try.underlying9 (s := X) (by unfold maxLen; omega)) (plainElem_string (H := Unit) Try.underlying9 (s := Y) (by unfold maxLen; omega))
            have hB7 : Below w5.heap.size w5 w7 := (hB.drew).grown hg1 (by have := hB.size; exact this) (fun i hi => by have := Z5.out; injection hi; omega)
            have HM1 : Hid (MapAt w7 (gt + 1) (ps.take (k + 1))) := Lib.hid (by
              unfold MapAt
              rw [htk, madeL_snoc, List.length_append]
              exact hown1)
            have HKP : Hid (∀ W, Below w5.heap.size w5 W → (loadVar 9 ⟨g, o + k * 2, none⟩).run Try.prog W = .ok (.string X) W ∧ (loadVar 9 ⟨g, o + k * 2 + 1, none⟩).run Try.prog W = .ok (.string Y) W) := Lib.hid fun W hW => ⟨txt_load ((hW.cell (p := ⟨g, o + k * 2, none⟩) hg).trans c1), txt_load ((hW.cell (p := ⟨g, o + k * 2 + 1, none⟩) hg).trans c2)⟩
            have HB := Lib.hid hB
            clear hm hown1 hg1 htk hB HAT c1 c2
            go_wp2
            refine wp_region_held_drew (S := fun W => (loadVar 9 ⟨g, o + k * 2, none⟩).run Try.prog W = .ok (.string X) W ∧ (loadVar 9 ⟨g, o + k * 2 + 1, none⟩).run Try.prog W = .ok (.string Y) W) (by kernel_rfl) ?_ (fun hHeld0 => ?_)
            · (refine HKP.out _ ?_; first | exact HB.out.drew | exact hB7)
            apply takeH (i := 0) rfl (by kernel_rfl) (by kernel_rfl) (by kernel_rfl) (fun _ _ _ h => h) (by rfl)
            case hy => (intro w hSw; (try dsimp only at hSw); go_simp; try with_reducible rfl)
            case hS => assumption
            (try simp only [Act.put, List.setIfInBounds_toArray, List.set_cons_zero, List.set_cons_succ])
            apply takeH (i := 1) rfl (by kernel_rfl) (by kernel_rfl) (by kernel_rfl) (fun _ _ _ h => h) (by rfl)
            case hy => (intro w hSw; (try dsimp only at hSw); go_simp; try with_reducible rfl)
            case hS => assumption
            (try simp only [Act.put, List.setIfInBounds_toArray, List.set_cons_zero, List.set_cons_succ])
            apply takeH (i := 2) rfl (by kernel_rfl) (by kernel_rfl) (by kernel_rfl) (fun _ _ _ h => h) (by rfl)
            case hy => (intro w hSw; (try dsimp only at hSw); go_simp; try with_reducible rfl)
            case hS => assumption
            (try simp only [Act.put, List.setIfInBounds_toArray, List.set_cons_zero, List.set_cons_succ])
            apply takeH (i := 3) rfl (by kernel_rfl) (by kernel_rfl) (by kernel_rfl) (fun _ _ _ h => h) (by rfl)
            case hy => (intro w hSw; (try dsimp only at hSw); go_simp; try with_reducible rfl)
            case hS => assumption
            (try simp only [Act.put, List.setIfInBounds_toArray, List.set_cons_zero, List.set_cons_succ])
            apply takeH (i := 4) rfl (by kernel_rfl) (by kernel_rfl) (by kernel_rfl) (fun _ _ _ h => h) (by rfl)
            case hy => (intro w hSw; (try dsimp only at hSw); go_simp; try with_reducible rfl)
            case hS => assumption
            (try simp only [Act.put, List.setIfInBounds_toArray, List.set_cons_zero, List.set_cons_succ])
            apply takeH (i := 5) rfl (by kernel_rfl) (by kernel_rfl) (by kernel_rfl) (fun _ _ _ h => h) (by rfl)
            case hy => (intro w hSw; (try dsimp only at hSw); go_simp; try with_reducible rfl)
            case hS => assumption
            (try simp only [Act.put, List.setIfInBounds_toArray, List.set_cons_zero, List.set_cons_succ])
            apply takeH (i := 6) rfl (by kernel_rfl) (by kernel_rfl) (by kernel_rfl) (fun _ _ _ h => h) (by rfl)
            case hy => (intro w hSw; (try dsimp only at hSw); go_simp; try with_reducible rfl)
            case hS => assumption
            (try simp only [Act.put, List.setIfInBounds_toArray, List.set_cons_zero, List.set_cons_succ])
            apply takeH (i := 7) rfl (by kernel_rfl) (by kernel_rfl) (by kernel_rfl) (fun _ _ _ h => h) (by rfl)
            case hy => (intro w hSw; (try dsimp only at hSw); go_simp; try with_reducible rfl)
            case hS => assumption
            (try simp only [Act.put, List.setIfInBounds_toArray, List.set_cons_zero, List.set_cons_succ])
            apply takeH (i := 8) rfl (by kernel_rfl) (by kernel_rfl) (by kernel_rfl) (fun _ _ _ h => h) (by rfl)
            case hy => (intro w hSw; (try dsimp only at hSw); go_simp; try with_reducible rfl)
            case hS => assumption
            (try simp only [Act.put, List.setIfInBounds_toArray, List.set_cons_zero, List.set_cons_succ])
            apply takeH (i := 9) rfl (by kernel_rfl) (by kernel_rfl) (by kernel_rfl) (fun _ _ _ h => h) (by rfl)
            case hy => (intro w hSw; (try dsimp only at hSw); go_simp; try with_reducible rfl)
            case hS => assumption
            (try simp only [Act.put, List.setIfInBounds_toArray, List.set_cons_zero, List.set_cons_succ])
            apply takeH (i := 10) rfl (by kernel_rfl) (by kernel_rfl) (by kernel_rfl) (fun _ _ _ h => h) (by rfl)
            case hy => (intro w hSw; (try dsimp only at hSw); go_simp; try with_reducible rfl)
            case hS => assumption
            (try simp only [Act.put, List.setIfInBounds_toArray, List.set_cons_zero, List.set_cons_succ])
            refine doH (i := 11) rfl (by kernel_rfl) (by rfl) (fun K hK => ?_)
            go_simp
            refine hK.out _ _ ?_ (fun hHeld11 => ?_)
            · (refine HKP.out _ ?_; first | exact HB.out.drew | exact hB7)
            clear hK K hHeld0
            (try simp only [Act.put, List.setIfInBounds_toArray, List.set_cons_zero, List.set_cons_succ])
            refine wpAnyH_done (by kernel_rfl) ?_ _
            clear hrun
            go_wp2
            go_roundw
            case rel => exact ⟨k + 1, by omega, by go_num, HM1.out, hB7⟩
            case measure => simp [intOf]; omega
          · obtain rfl : k = n := by omega
            have hlt' : ¬ (k : Int) < (k : Int) := by omega
            have hm2 : MapAt wr (gt + 1) ps := by
              have := hm
              rwa [← HN.out, List.take_length] at this
            have hlk := HLK.out wr _ hm2
            have hT6 := HT5.out.below hB HT5.out.lt
            have hl6 := tab_run hT6
            have HPM1 := Lib.hid (HPM.out (gt + 1) (HAX.out HAK.out) wr hm2)
            have hBr := HB5.out.trans (hB.mono HB5.out.size)
            have HTr := Lib.hid hT6
            have HM2 := Lib.hid hm2
            have HBr := Lib.hid hBr
            change Hid (∀ s, _ → ∀ W, Calls _ _ #[_, _, .agg #[.bool (lookP ps x).isSome, .string (valM ps x), .string s]] W _) at HRT
            generalize (lookP ps x).isSome = th at *
            generalize valM ps x = vx at *
            generalize rootP ps = RP at *
            clear hlt hm HAT HPM HAX HAK HLK HP5 HT5 HB5 hB hBr hT6 hm2 HVS
            go_wp2_with fail
            refine HPM1.out.mono ?_
            rintro e w8 ⟨⟨s, hss, hvs, rfl⟩, hb8⟩
            obtain ⟨hR, hM⟩ := HHO.out s hvs
            have HRT1 := Lib.hid (HRT.out s hss)
            rw [hR, hM] at HRT1
            have hB8 := HBr.out.trans (hb8.mono HBr.out.size)
            have hT8 := HTr.out.below hb8 HTr.out.lt
            have hm8 := HM2.out.below hb8
            clear hb8 HBr HTr HM2 HPM1 HRT HHO hlk hl6 hR hM hvs hss
            go_wp2_with fail
            refine (HRT1.out _).mono ?_
            rintro e w9 ⟨rfl, hb9⟩
            have hB9 := hB8.trans (hb9.mono hB8.size)
            have hT9 := hT8.below hb9 hT8.lt
            have hm9 := hm8.below hb9
            clear hb9 hB8 hT8 hm8 HRT1
            have HKP : Hid (∀ W, Below w9.heap.size w9 W → (loadVar 43 ⟨gt, 0, none⟩).run Try.prog W = .ok (.agg tabV) W ∧ Below w9.heap.size w9 W) := Lib.hid fun W hW => ⟨tab_run (hT9.below hW hT9.lt), hW⟩
            have HM9 := Lib.hid hm9
            have HB9 := Lib.hid hB9
            have hqr : (RP.toList == RP.toList) = true := beq_self_eq_true _
            have hqp : (PX.toList == PX.toList) = true := beq_self_eq_true _
            clear hB9 hT9 hm9
            go_wp2
            refine wp_region_held_drew (S := fun W => (loadVar 43 ⟨gt, 0, none⟩).run Try.prog W = .ok (.agg tabV) W ∧ Below w9.heap.size w9 W) (by kernel_rfl) ?_ (fun hHeld0 => ?_)
            · (refine HKP.out _ ?_; first | exact hE3 | exact hE2 | exact hE1 | exact (Below.refl _ _).drew | exact Below.refl _ _)
            apply takeH (i := 0) rfl (by kernel_rfl) (by kernel_rfl) (by kernel_rfl) (fun _ _ _ h => h) (by rfl)
            case hy => (intro w hSw; (try dsimp only at hSw); go_simp; try with_reducible rfl)
            case hS => assumption
            (try simp only [Act.put, List.setIfInBounds_toArray, List.set_cons_zero, List.set_cons_succ])
            apply takeH (i := 1) rfl (by kernel_rfl) (by kernel_rfl) (by kernel_rfl) (fun _ _ _ h => h) (by rfl)
            case hy => (intro w hSw; (try dsimp only at hSw); go_simp; try with_reducible rfl)
            case hS => assumption
            (try simp only [Act.put, List.setIfInBounds_toArray, List.set_cons_zero, List.set_cons_succ])
            apply takeH (i := 2) rfl (by kernel_rfl) (by kernel_rfl) (by kernel_rfl) (fun _ _ _ h => h) (by rfl)
            case hy => (intro w hSw; (try dsimp only at hSw); go_simp; try with_reducible rfl)
            case hS => assumption
            (try simp only [Act.put, List.setIfInBounds_toArray, List.set_cons_zero, List.set_cons_succ])
            apply takeH (i := 3) rfl (by kernel_rfl) (by kernel_rfl) (by kernel_rfl) (fun _ _ _ h => h) (by rfl)
            case hy => (intro w hSw; (try dsimp only at hSw); go_simp; try with_reducible rfl)
            case hS => assumption
            (try simp only [Act.put, List.setIfInBounds_toArray, List.set_cons_zero, List.set_cons_succ])
            apply takeH (i := 4) rfl (by kernel_rfl) (by kernel_rfl) (by kernel_rfl) (fun _ _ _ h => h) (by rfl)
            case hy => (intro w hSw; (try dsimp only at hSw); go_simp; try with_reducible rfl)
            case hS => assumption
            (try simp only [Act.put, List.setIfInBounds_toArray, List.set_cons_zero, List.set_cons_succ])
            refine doH (i := 5) rfl (by kernel_rfl) (by rfl) (fun K hK => ?_)
            go_simp
            (go_at_call 18; refine (HR1.out _ _ (HM9.out.below (Below.refl _ _).drew)).mono ?_; rintro e y1 ⟨rfl, hy1⟩; have hE1 : Below w9.heap.size w9 y1 := (Below.refl _ _).drew.trans hy1)
            go_wp2_with fail
            refine hK.out _ _ ?_ (fun hHeld5 => ?_)
            · (refine HKP.out _ ?_; first | exact hE3 | exact hE2 | exact hE1 | exact (Below.refl _ _).drew | exact Below.refl _ _)
            clear hK K hHeld0
            (try simp only [Act.put, List.setIfInBounds_toArray, List.set_cons_zero, List.set_cons_succ])
            apply takeH (i := 6) rfl (by kernel_rfl) (by kernel_rfl) (by kernel_rfl) (fun _ _ _ h => h) (by rfl)
            case hy => (intro w hSw; (try dsimp only at hSw); go_simp; try with_reducible rfl)
            case hS => assumption
            (try simp only [Act.put, List.setIfInBounds_toArray, List.set_cons_zero, List.set_cons_succ])
            apply takeH (i := 7) rfl (by kernel_rfl) (by kernel_rfl) (by kernel_rfl) (fun _ _ _ h => h) (by rfl)
            case hy => (intro w hSw; (try dsimp only at hSw); go_simp; try with_reducible rfl)
            case hS => assumption
            (try simp only [Act.put, List.setIfInBounds_toArray, List.set_cons_zero, List.set_cons_succ])
            apply takeH (i := 8) rfl (by kernel_rfl) (by kernel_rfl) (by kernel_rfl) (fun _ _ _ h => h) (by rfl)
            case hy => (intro w hSw; (try dsimp only at hSw); go_simp; try with_reducible rfl)
            case hS => assumption
            (try simp only [Act.put, List.setIfInBounds_toArray, List.set_cons_zero, List.set_cons_succ])
            apply takeH (i := 9) rfl (by kernel_rfl) (by kernel_rfl) (by kernel_rfl) (fun _ _ _ h => h) (by rfl)
            case hy => (intro w hSw; (try dsimp only at hSw); go_simp; try with_reducible rfl)
            case hS => assumption
            (try simp only [Act.put, List.setIfInBounds_toArray, List.set_cons_zero, List.set_cons_succ])
            apply takeH (i := 11) rfl (by kernel_rfl) (by kernel_rfl) (by kernel_rfl) (fun _ _ _ h => h) (by rfl)
            case hy => (intro w hSw; (try dsimp only at hSw); go_simp; try with_reducible rfl)
            case hS => assumption
            (try simp only [Act.put, List.setIfInBounds_toArray, List.set_cons_zero, List.set_cons_succ])
            apply takeH (i := 12) rfl (by kernel_rfl) (by kernel_rfl) (by kernel_rfl) (fun _ _ _ h => h) (by rfl)
            case hy => (intro w hSw; (try dsimp only at hSw); go_simp; try with_reducible rfl)
            case hS => assumption
            (try simp only [Act.put, List.setIfInBounds_toArray, List.set_cons_zero, List.set_cons_succ])
            apply takeH (i := 13) rfl (by kernel_rfl) (by kernel_rfl) (by kernel_rfl) (fun _ _ _ h => h) (by rfl)
            case hy => (intro w hSw; (try dsimp only at hSw); go_simp; try with_reducible rfl)
            case hS => assumption
            (try simp only [Act.put, List.setIfInBounds_toArray, List.set_cons_zero, List.set_cons_succ])
            refine doH (i := 10) rfl (by kernel_rfl) (by rfl) (fun K hK => ?_)
            go_simp
            (go_at_call 19; refine (HPT.out _).mono ?_; rintro e y2 ⟨rfl, hy2⟩; have hE2 : Below w9.heap.size w9 y2 := hE1.trans (hy2.mono hE1.size))
            go_wp2_with fail
            refine hK.out _ _ ?_ (fun hHeld10 => ?_)
            · (refine HKP.out _ ?_; first | exact hE3 | exact hE2 | exact hE1 | exact (Below.refl _ _).drew | exact Below.refl _ _)
            clear hK K hHeld5
            (try simp only [Act.put, List.setIfInBounds_toArray, List.set_cons_zero, List.set_cons_succ])
            refine doH (i := 14) rfl (by kernel_rfl) (by rfl) (fun K hK => ?_)
            go_simp
            (go_at_call 20; refine (HSU.out _).mono ?_; rintro e y3 ⟨rfl, hy3⟩; have hE3 : Below w9.heap.size w9 y3 := hE2.trans (hy3.mono hE2.size))
            go_wp2_with fail
            refine hK.out _ _ ?_ (fun hHeld14 => ?_)
            · (refine HKP.out _ ?_; first | exact hE3 | exact hE2 | exact hE1 | exact (Below.refl _ _).drew | exact Below.refl _ _)
            clear hK K hHeld10
            (try simp only [Act.put, List.setIfInBounds_toArray, List.set_cons_zero, List.set_cons_succ])
            apply takeH (i := 15) rfl (by kernel_rfl) (by kernel_rfl) (by kernel_rfl) (fun _ _ _ h => h) (by rfl)
            case hy => (intro w hSw; (try dsimp only at hSw); go_simp; try with_reducible rfl)
            case hS => assumption
            (try simp only [Act.put, List.setIfInBounds_toArray, List.set_cons_zero, List.set_cons_succ])
            apply takeH (i := 16) rfl (by kernel_rfl) (by kernel_rfl) (by kernel_rfl) (fun _ _ _ h => h) (by rfl)
            case hy => (intro w hSw; (try dsimp only at hSw); go_simp; try with_reducible rfl)
            case hS => assumption
            (try simp only [Act.put, List.setIfInBounds_toArray, List.set_cons_zero, List.set_cons_succ])
            apply takeH (i := 17) rfl (by kernel_rfl) (by kernel_rfl) (by kernel_rfl) (fun _ _ _ h => h) (by rfl)
            case hy => (intro w hSw; (try dsimp only at hSw); go_simp; try with_reducible rfl)
            case hS => assumption
            (try simp only [Act.put, List.setIfInBounds_toArray, List.set_cons_zero, List.set_cons_succ])
            refine wpAnyH_done (by kernel_rfl) ?_ _
            have hBE := HB9.out.trans (hE3.mono HB9.out.size)
            go_wp2
            go_ret
            exact ⟨rfl, hBE⟩
end
end Go.Proofs.Ytjdjndginacdnaa

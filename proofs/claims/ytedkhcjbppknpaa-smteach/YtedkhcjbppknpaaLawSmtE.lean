/-
  The walk of the law SmtEach.
-/
import Derived.Test.YtedkhcjbppknpaaSEach1
namespace Go.Proofs.Ytedkhcjbppknpaa
open Go.RowKit Go.Maps

theorem valM_size {ps : List (ByteArray × ByteArray)} (hF : FitP ps) (k : ByteArray) : (valM ps k).size ≤ 60 := by
  unfold valM
  cases hl : lookP ps k with
  | none => exact Nat.zero_le _
  | some v => exact (hF _ (look_some hl)).2
def RPm (ps : List (ByteArray × ByteArray)) (k : ByteArray) (w : World) (e : Ending) (w' : World) : Prop := (∃ s : ByteArray, s.size ≤ 10000 ∧ verS (rootP ps) k (valM ps k) (lookP ps k).isSome s = true ∧ e = .returned (.string s)) ∧ Below w.heap.size w w'
theorem proveM_any (b : Nat) (ps : List (ByteArray × ByteArray)) (hsz : ps.length ≤ 12) (hF : FitP ps) (k : ByteArray) (hk : k.size ≤ 60) (hA : ∀ x, (lookP ps x).isSome = true → pathS x = pathS k → x = k) (w : World) (hm : MapAt w b ps) :
    Calls Try.prog 15 #[.agg tabV, .map (some b), .string k] w (RPm ps k w) := by
  refine (sprove_any (.map (some b)) (entsD (madeL ps)) (by have := ents_len_le hm; omega) (ents_good _) (ents_fit hm hF) k (by omega) w (fun W hW => entries_any b ps hsz hF W (hm.below hW))).mono ?_
  rintro e w' ⟨⟨s, hs, rfl⟩, hB⟩
  exact ⟨⟨s, hs.small, each_holds hm k hA s hs, rfl⟩, hB⟩
section
attribute [-go_sem] loadVar
set_option maxRecDepth 100000 in
set_option maxHeartbeats 4000000 in
theorem law_smteach (oa : Option Addr) (n cap : Nat) (ps : List (ByteArray × ByteArray)) (hn : ps.length = n) (x : ByteArray) (hx : x.size ≤ 9223372036854775807) (w : World) (hP : Prs w oa ps) :
    Calls Try.prog 4 #[.slice oa n cap, .string x] w fun e w' => e = .returned (.bool true) ∧ Below w.heap.size w w' := by
  have HF1 := Lib.hid (fun W hP => few_any5 oa n cap 6 ps hn (by decide) W hP)
  unfold RFew at HF1
  rw [show ((6 : Nat) : Int) = 6 from rfl] at HF1
  have HAW := Lib.hid awake5_any
  go_enter Try.func4, Try.ntmps4
  go_wp2_with fail
  refine (HAW.out _).mono ?_
  rintro e w1 ⟨rfl, hB1⟩
  have hP1 := hP.below hB1
  clear hP
  go_wp2_with fail
  refine (HF1.out _ hP1).mono ?_
  rintro e w2 ⟨⟨b1, rfl, hb1⟩, rfl⟩
  cases b1
  · clear hP1 HF1 hb1
    go_wp2_with fail
    refine (HAW.out _).mono ?_
    rintro e w3 ⟨rfl, hb3⟩
    have hB3 := hB1.trans (hb3.mono hB1.size)
    go_wp2
    go_ret
    exact ⟨rfl, hB3⟩
  · obtain ⟨hn6, hfp⟩ := hb1 rfl
    clear hb1 HF1
    by_cases h60 : 60 < x.size
    · have h60' : (x.size : Int) > 60 := by omega
      have h60'' : (60 : Int) < (x.size : Int) := by omega
      clear hP1 hfp
      go_wp2_with fail
      refine (HAW.out _).mono ?_
      rintro e w3 ⟨rfl, hb3⟩
      have hB3 := hB1.trans (hb3.mono hB1.size)
      go_wp2
      go_ret
      exact ⟨rfl, hB3⟩
    · have h60' : ¬ (x.size : Int) > 60 := by omega
      have h60'' : ¬ (60 : Int) < (x.size : Int) := by omega
      have hx60 : x.size ≤ 60 := by omega
      have z1 := zeroTable
      have HAP := Lib.hid (fun W hP => apart_any oa n cap ps hn (by omega) hfp x hx60 W hP)
      unfold RAp at HAP
      have HM1 := Lib.hid (fun W hP => made_any oa n cap ps hn (by omega) hfp W hP)
      unfold RM at HM1
      have HR1 := Lib.hid (fun b W hm => rootOf_any b ps (by omega) hfp W hm)
      have HPM := Lib.hid (fun b k (hk : k.size ≤ 60) hA W hm => proveM_any b ps (by omega) hfp k hk hA W hm)
      unfold RPm at HPM
      have HVM := Lib.hid (fun k (hk : k.size ≤ 60) th s (hs : s.size ≤ 10000) W => verify_any (rootP ps) k (valM ps k) th s (by omega) (by have := valM_size hfp k; omega) (by omega) W)
      have HAX : Hid (AptK ps x → ∀ z, (lookP ps z).isSome = true → pathS z = pathS x → z = x) := Lib.hid fun h z hz e => h z (List.mem_cons_of_mem _ (look_key hz)) x (List.mem_cons_self ..) e
      have HLK := Lib.hid (fun (W : World) b (hm : MapAt W b ps) => hm.look_ok x hx60)
      have HKE : Hid (∀ k, k < n → (lookP ps (keyP ps k)).isSome = true ∧ (keyP ps k).size ≤ 60 ∧ (AptK ps x → ∀ z, (lookP ps z).isSome = true → pathS z = pathS (keyP ps k) → z = keyP ps k)) := Lib.hid fun k hk => by
        have hmem : keyP ps k ∈ ps.map (·.1) := by
          unfold keyP
          rw [getD_pair (by omega)]
          exact List.mem_map.2 ⟨_, List.getElem_mem _, rfl⟩
        refine ⟨key_look hmem, ?_, fun h z hz e => h z (List.mem_cons_of_mem _ (look_key hz)) _ (List.mem_cons_of_mem _ hmem) e⟩
        unfold keyP
        rw [getD_pair (by omega)]
        exact (hfp.get (i := k) (by omega)).1
      have HLO := Lib.hid (fun (W : World) b (hm : MapAt W b ps) k (hk : k.size ≤ 60) => hm.look k hk)
      have HAT : Hid (∀ W, Prs W oa ps → ∀ i, i < n → ∃ g o, oa = some ⟨g, o, none⟩ ∧ g < W.heap.size ∧ W.cell? ⟨g, o + i * 2, none⟩ = some (.string (keyP ps i))) := Lib.hid fun W hW i hi => by
        obtain ⟨g, o, h1, h2, h3, _⟩ := hW.at (i := i) (by omega)
        refine ⟨g, o, h1, h2, ?_⟩
        unfold keyP
        rw [getD_pair (by omega)]
        exact h3
      generalize AptK ps x = AK at *
      clear hfp h60 HAW
      go_wp2_with fail
      refine (HAP.out _ hP1).mono ?_
      rintro e w3 ⟨⟨b3, rfl, ha3⟩, hb3⟩
      have hP3 := hP1.below hb3
      have hB3 := hB1.trans (hb3.mono hB1.size)
      clear hb3 hP1 hB1 HAP h60' h60''
      cases b3
      · clear hP3
        go_wp2
        go_ret
        exact ⟨rfl, hB3⟩
      · have HAK := Lib.hid (ha3 rfl)
        clear ha3
        go_wp2_with fail
        refine (make_std _).mono ?_
        rintro e w4 ⟨rfl, hb4⟩
        have hP4 := hP3.below hb4
        have hB4 := hB3.trans (hb4.mono hB3.size)
        clear hb4 hP3 hB3
        go_wp2_with (refine wpList_store_row rfl 29 _ _ rfl w4.heap.size tabV rfl rfl 29 zero72 (Blk.new _ _ _) (by rw [tabV_size]; exact infoTable) (by kernel_rfl) (by kernel_rfl) ?_; rw [World.setRow_alloc_new])
        have hb5 := (Below.refl _ w4).alloc (Nat.le_refl _) (.cells tabV 29)
        have hT5 : Blk (w4.alloc (.cells tabV 29)) w4.heap.size 29 tabV := Blk.new _ _ _
        have hP5 := hP4.below hb5
        have hB5 := hB4.trans (hb5.mono hB4.size)
        generalize w4.alloc (.cells tabV 29) = w5 at *
        generalize w4.heap.size = gt at *
        clear hb5 hP4 hB4 z1
        refine (HM1.out _ hP5).mono ?_
        rintro e w6 ⟨bm, rfl, _, hm6, hb6⟩
        have hT6 := hT5.below hb6 hT5.lt
        have hP6 := hP5.below hb6
        have hB6 := hB5.trans (hb6.mono hB5.size)
        clear hb6 hT5 hP5 hB5 HM1
        have hl6 := tab_run hT6
        go_wp2_with fail
        refine (HR1.out _ _ hm6).mono ?_
        rintro e w7 ⟨rfl, hb7⟩
        have hT7 := hT6.below hb7 hT6.lt
        have hP7 := hP6.below hb7
        have hm7 := hm6.below hb7
        have hB7 := hB6.trans (hb7.mono hB6.size)
        clear hb7 hT6 hP6 hB6 hm6 HR1 hl6
        generalize rootP ps = RP at *
        have HKP : Hid (∀ W, Below w7.heap.size w7 W → (loadVar 29 ⟨gt, 0, none⟩).run Try.prog W = .ok (.agg tabV) W) := Lib.hid fun W hW => tab_run (hT7.below hW hT7.lt)
        have HPP := Lib.hid (fun W (hW : Below w7.heap.size w7 W) => hP7.below hW)
        have HMM := Lib.hid (fun W (hW : Below w7.heap.size w7 W) => hm7.below hW)
        have HB7 := Lib.hid hB7
        clear hT7 hP7 hm7 hB7
        go_wp2
        go_loopw [8] (fun i wr => ∃ k : Nat, k ≤ n ∧ i = .int .i64 k ∧ Below w7.heap.size w7 wr) (fun i _ => n - (intOf i).toNat)
        case atStart => exact ⟨0, by omega, rfl, Below.refl _ _⟩
        case round =>
          obtain ⟨k, hk, rfl, hBr⟩ := hrel
          by_cases hlt : k < n
          · have hlt' : (k : Int) < (n : Int) := by omega
            obtain ⟨hin, hks, hAp⟩ := HKE.out k hlt
            obtain ⟨g, o, rfl, hg, c1⟩ := HAT.out wr (HPP.out wr hBr) k hlt
            have hlk := HLO.out wr bm (HMM.out wr hBr) (keyP ps k) hks
            have hl1 := txt_load c1
            have HKL : Hid (∀ W, Below wr.heap.size wr W → ((loadVar 29 ⟨gt, 0, none⟩).run Try.prog W = .ok (.agg tabV) W ∧ (loadVar 9 ⟨g, o + k * 2, none⟩).run Try.prog W = .ok (.string (keyP ps k)) W) ∧ Below wr.heap.size wr W) := Lib.hid fun W hW => ⟨⟨HKP.out W (hBr.trans (hW.mono hBr.size)), txt_load ((hW.cell (p := ⟨g, o + k * 2, none⟩) hg).trans c1)⟩, hW⟩
            have HP1 := Lib.hid (fun W hm => HPM.out bm (keyP ps k) hks (hAp HAK.out) W hm)
            rw [hin] at HP1
            have HV1 := Lib.hid (HVM.out (keyP ps k) hks true)
            generalize valM ps (keyP ps k) = V at *
            generalize keyP ps k = X at *
            have HMR := Lib.hid (fun W (hW : Below wr.heap.size wr W) => HMM.out W (hBr.trans (hW.mono hBr.size)))
            have HBR := Lib.hid hBr
            clear hin hks hAp c1 hBr hlt
            go_wp2
            refine wp_region_held_drew (S := fun W => ((loadVar 29 ⟨gt, 0, none⟩).run Try.prog W = .ok (.agg tabV) W ∧ (loadVar 9 ⟨g, o + k * 2, none⟩).run Try.prog W = .ok (.string X) W) ∧ Below wr.heap.size wr W) (by kernel_rfl) ?_ (fun hHeld0 => ?_)
            · (refine HKL.out _ ?_; first | exact hE2 | exact hE1 | exact (Below.refl _ _).drew | exact Below.refl _ _)
            apply takeH (i := 0) rfl (by kernel_rfl) (by kernel_rfl) (by kernel_rfl) (fun _ _ _ h => h) (by rfl)
            case hy => (intro w hSw; (try dsimp only at hSw); go_simp; try with_reducible rfl)
            case hS => assumption
            (try simp only [Act.put, List.setIfInBounds_toArray, List.set_cons_zero, List.set_cons_succ])
            apply takeH (i := 1) rfl (by kernel_rfl) (by kernel_rfl) (by kernel_rfl) (fun _ _ _ h => h) (by rfl)
            case hy => (intro w hSw; (try dsimp only at hSw); go_simp; try with_reducible rfl)
            case hS => assumption
            (try simp only [Act.put, List.setIfInBounds_toArray, List.set_cons_zero, List.set_cons_succ])
            apply takeH (i := 2) rfl (by kernel_rfl) (by kernel_rfl) (by kernel_rfl) (fun _ _ _ h => h) (by rfl)
            case hy => (intro w hSw; (try dsimp only at hSw); go_simp; try with_reducible rfl)
            case hS => assumption
            (try simp only [Act.put, List.setIfInBounds_toArray, List.set_cons_zero, List.set_cons_succ])
            apply takeH (i := 3) rfl (by kernel_rfl) (by kernel_rfl) (by kernel_rfl) (fun _ _ _ h => h) (by rfl)
            case hy => (intro w hSw; (try dsimp only at hSw); go_simp; try with_reducible rfl)
            case hS => assumption
            (try simp only [Act.put, List.setIfInBounds_toArray, List.set_cons_zero, List.set_cons_succ])
            apply takeH (i := 4) rfl (by kernel_rfl) (by kernel_rfl) (by kernel_rfl) (fun _ _ _ h => h) (by rfl)
            case hy => (intro w hSw; (try dsimp only at hSw); go_simp; try with_reducible rfl)
            case hS => assumption
            (try simp only [Act.put, List.setIfInBounds_toArray, List.set_cons_zero, List.set_cons_succ])
            apply takeH (i := 5) rfl (by kernel_rfl) (by kernel_rfl) (by kernel_rfl) (fun _ _ _ h => h) (by rfl)
            case hy => (intro w hSw; (try dsimp only at hSw); go_simp; try with_reducible rfl)
            case hS => assumption
            (try simp only [Act.put, List.setIfInBounds_toArray, List.set_cons_zero, List.set_cons_succ])
            apply takeH (i := 6) rfl (by kernel_rfl) (by kernel_rfl) (by kernel_rfl) (fun _ _ _ h => h) (by rfl)
            case hy => (intro w hSw; (try dsimp only at hSw); go_simp; try with_reducible rfl)
            case hS => assumption
            (try simp only [Act.put, List.setIfInBounds_toArray, List.set_cons_zero, List.set_cons_succ])
            apply takeH (i := 7) rfl (by kernel_rfl) (by kernel_rfl) (by kernel_rfl) (fun _ _ _ h => h) (by rfl)
            case hy => (intro w hSw; (try dsimp only at hSw); go_simp; try with_reducible rfl)
            case hS => assumption
            (try simp only [Act.put, List.setIfInBounds_toArray, List.set_cons_zero, List.set_cons_succ])
            apply takeH (i := 8) rfl (by kernel_rfl) (by kernel_rfl) (by kernel_rfl) (fun _ _ _ h => h) (by rfl)
            case hy => (intro w hSw; (try dsimp only at hSw); go_simp; try with_reducible rfl)
            case hS => assumption
            (try simp only [Act.put, List.setIfInBounds_toArray, List.set_cons_zero, List.set_cons_succ])
            apply takeH (i := 9) rfl (by kernel_rfl) (by kernel_rfl) (by kernel_rfl) (fun _ _ _ h => h) (by rfl)
            case hy => (intro w hSw; (try dsimp only at hSw); go_simp; try with_reducible rfl)
            case hS => assumption
            (try simp only [Act.put, List.setIfInBounds_toArray, List.set_cons_zero, List.set_cons_succ])
            apply takeH (i := 10) rfl (by kernel_rfl) (by kernel_rfl) (by kernel_rfl) (fun _ _ _ h => h) (by rfl)
            case hy => (intro w hSw; (try dsimp only at hSw); go_simp; try with_reducible rfl)
            case hS => assumption
            (try simp only [Act.put, List.setIfInBounds_toArray, List.set_cons_zero, List.set_cons_succ])
            apply takeH (i := 11) rfl (by kernel_rfl) (by kernel_rfl) (by kernel_rfl) (fun _ _ _ h => h) (by rfl)
            case hy => (intro w hSw; (try dsimp only at hSw); go_simp; try with_reducible rfl)
            case hS => assumption
            (try simp only [Act.put, List.setIfInBounds_toArray, List.set_cons_zero, List.set_cons_succ])
            apply takeH (i := 12) rfl (by kernel_rfl) (by kernel_rfl) (by kernel_rfl) (fun _ _ _ h => h) (by rfl)
            case hy => (intro w hSw; (try dsimp only at hSw); go_simp; try with_reducible rfl)
            case hS => assumption
            (try simp only [Act.put, List.setIfInBounds_toArray, List.set_cons_zero, List.set_cons_succ])
            apply takeH (i := 13) rfl (by kernel_rfl) (by kernel_rfl) (by kernel_rfl) (fun _ _ _ h => h) (by rfl)
            case hy => (intro w hSw; (try dsimp only at hSw); go_simp; try with_reducible rfl)
            case hS => assumption
            (try simp only [Act.put, List.setIfInBounds_toArray, List.set_cons_zero, List.set_cons_succ])
            apply takeH (i := 14) rfl (by kernel_rfl) (by kernel_rfl) (by kernel_rfl) (fun _ _ _ h => h) (by rfl)
            case hy => (intro w hSw; (try dsimp only at hSw); go_simp; try with_reducible rfl)
            case hS => assumption
            (try simp only [Act.put, List.setIfInBounds_toArray, List.set_cons_zero, List.set_cons_succ])
            refine doH (i := 15) rfl (by kernel_rfl) (by rfl) (fun K hK => ?_)
            go_simp
            (go_at_call 15; refine (HP1.out _ (HMR.out _ (Below.refl _ _).drew)).mono ?_; rintro e y1 ⟨⟨s1, hs1, hv1, rfl⟩, hy1⟩; have hE1 : Below wr.heap.size wr y1 := (Below.refl _ _).drew.trans hy1)
            go_wp2_with fail
            refine hK.out _ _ ?_ (fun hHeld15 => ?_)
            · (refine HKL.out _ ?_; first | exact hE2 | exact hE1 | exact (Below.refl _ _).drew | exact Below.refl _ _)
            clear hK K hHeld0
            (try simp only [Act.put, List.setIfInBounds_toArray, List.set_cons_zero, List.set_cons_succ])
            refine doH (i := 16) rfl (by kernel_rfl) (by rfl) (fun K hK => ?_)
            go_simp
            (go_at_call 14; refine (HV1.out _ hs1 _).mono ?_; rintro e y2 ⟨rfl, hy2⟩; rw [hv1]; have hE2 : Below wr.heap.size wr y2 := hE1.trans (hy2.mono hE1.size))
            go_wp2_with fail
            refine hK.out _ _ ?_ (fun hHeld16 => ?_)
            · (refine HKL.out _ ?_; first | exact hE2 | exact hE1 | exact (Below.refl _ _).drew | exact Below.refl _ _)
            clear hK K hHeld15
            (try simp only [Act.put, List.setIfInBounds_toArray, List.set_cons_zero, List.set_cons_succ])
            apply takeH (i := 17) rfl (by kernel_rfl) (by kernel_rfl) (by kernel_rfl) (fun _ _ _ h => h) (by rfl)
            case hy => (intro w hSw; (try dsimp only at hSw); go_simp; try with_reducible rfl)
            case hS => assumption
            (try simp only [Act.put, List.setIfInBounds_toArray, List.set_cons_zero, List.set_cons_succ])
            refine wpAnyH_done (by kernel_rfl) ?_ _
            have hBE := HBR.out.trans (hE2.mono HBR.out.size)
            clear hE1 hE2 hy1 hy2 hlk hl1 hHeld16 hs1 hv1
            go_wp2
            go_roundw
            case rel => exact ⟨k + 1, by omega, by go_num, hBE⟩
            case measure => simp [intOf]; omega
          · obtain rfl : k = n := by omega
            have hlt' : ¬ (k : Int) < (k : Int) := by omega
            have hlk := HLK.out wr bm (HMM.out wr hBr)
            have HKL : Hid (∀ W, Below wr.heap.size wr W → (loadVar 29 ⟨gt, 0, none⟩).run Try.prog W = .ok (.agg tabV) W ∧ Below wr.heap.size wr W) := Lib.hid fun W hW => ⟨HKP.out W (hBr.trans (hW.mono hBr.size)), hW⟩
            have HP1 := Lib.hid (fun W hm => HPM.out bm x hx60 (HAX.out HAK.out) W hm)
            have HV1 := Lib.hid (HVM.out x hx60 (lookP ps x).isSome)
            generalize valM ps x = V at *
            generalize (lookP ps x).isSome = th at *
            have HMR := Lib.hid (fun W (hW : Below wr.heap.size wr W) => HMM.out W (hBr.trans (hW.mono hBr.size)))
            have HBR := Lib.hid (HB7.out.trans (hBr.mono HB7.out.size))
            clear hBr hlt
            go_wp2
            refine wp_region_held_drew (S := fun W => (loadVar 29 ⟨gt, 0, none⟩).run Try.prog W = .ok (.agg tabV) W ∧ Below wr.heap.size wr W) (by kernel_rfl) ?_ (fun hHeld0 => ?_)
            · (refine HKL.out _ ?_; first | exact hE2 | exact hE1 | exact (Below.refl _ _).drew | exact Below.refl _ _)
            apply takeH (i := 0) rfl (by kernel_rfl) (by kernel_rfl) (by kernel_rfl) (fun _ _ _ h => h) (by rfl)
            case hy => (intro w hSw; (try dsimp only at hSw); go_simp; try with_reducible rfl)
            case hS => assumption
            (try simp only [Act.put, List.setIfInBounds_toArray, List.set_cons_zero, List.set_cons_succ])
            apply takeH (i := 1) rfl (by kernel_rfl) (by kernel_rfl) (by kernel_rfl) (fun _ _ _ h => h) (by rfl)
            case hy => (intro w hSw; (try dsimp only at hSw); go_simp; try with_reducible rfl)
            case hS => assumption
            (try simp only [Act.put, List.setIfInBounds_toArray, List.set_cons_zero, List.set_cons_succ])
            apply takeH (i := 2) rfl (by kernel_rfl) (by kernel_rfl) (by kernel_rfl) (fun _ _ _ h => h) (by rfl)
            case hy => (intro w hSw; (try dsimp only at hSw); go_simp; try with_reducible rfl)
            case hS => assumption
            (try simp only [Act.put, List.setIfInBounds_toArray, List.set_cons_zero, List.set_cons_succ])
            apply takeH (i := 3) rfl (by kernel_rfl) (by kernel_rfl) (by kernel_rfl) (fun _ _ _ h => h) (by rfl)
            case hy => (intro w hSw; (try dsimp only at hSw); go_simp; try with_reducible rfl)
            case hS => assumption
            (try simp only [Act.put, List.setIfInBounds_toArray, List.set_cons_zero, List.set_cons_succ])
            apply takeH (i := 4) rfl (by kernel_rfl) (by kernel_rfl) (by kernel_rfl) (fun _ _ _ h => h) (by rfl)
            case hy => (intro w hSw; (try dsimp only at hSw); go_simp; try with_reducible rfl)
            case hS => assumption
            (try simp only [Act.put, List.setIfInBounds_toArray, List.set_cons_zero, List.set_cons_succ])
            apply takeH (i := 5) rfl (by kernel_rfl) (by kernel_rfl) (by kernel_rfl) (fun _ _ _ h => h) (by rfl)
            case hy => (intro w hSw; (try dsimp only at hSw); go_simp; try with_reducible rfl)
            case hS => assumption
            (try simp only [Act.put, List.setIfInBounds_toArray, List.set_cons_zero, List.set_cons_succ])
            apply takeH (i := 6) rfl (by kernel_rfl) (by kernel_rfl) (by kernel_rfl) (fun _ _ _ h => h) (by rfl)
            case hy => (intro w hSw; (try dsimp only at hSw); go_simp; try with_reducible rfl)
            case hS => assumption
            (try simp only [Act.put, List.setIfInBounds_toArray, List.set_cons_zero, List.set_cons_succ])
            apply takeH (i := 7) rfl (by kernel_rfl) (by kernel_rfl) (by kernel_rfl) (fun _ _ _ h => h) (by rfl)
            case hy => (intro w hSw; (try dsimp only at hSw); go_simp; try with_reducible rfl)
            case hS => assumption
            (try simp only [Act.put, List.setIfInBounds_toArray, List.set_cons_zero, List.set_cons_succ])
            refine doH (i := 8) rfl (by kernel_rfl) (by rfl) (fun K hK => ?_)
            go_simp
            (go_at_call 15; refine (HP1.out _ (HMR.out _ (Below.refl _ _).drew)).mono ?_; rintro e y1 ⟨⟨s1, hs1, hv1, rfl⟩, hy1⟩; have hE1 : Below wr.heap.size wr y1 := (Below.refl _ _).drew.trans hy1)
            go_wp2_with fail
            refine hK.out _ _ ?_ (fun hHeld8 => ?_)
            · (refine HKL.out _ ?_; first | exact hE2 | exact hE1 | exact (Below.refl _ _).drew | exact Below.refl _ _)
            clear hK K hHeld0
            (try simp only [Act.put, List.setIfInBounds_toArray, List.set_cons_zero, List.set_cons_succ])
            refine doH (i := 9) rfl (by kernel_rfl) (by rfl) (fun K hK => ?_)
            go_simp
            (go_at_call 14; refine (HV1.out _ hs1 _).mono ?_; rintro e y2 ⟨rfl, hy2⟩; rw [hv1]; have hE2 : Below wr.heap.size wr y2 := hE1.trans (hy2.mono hE1.size))
            go_wp2_with fail
            refine hK.out _ _ ?_ (fun hHeld9 => ?_)
            · (refine HKL.out _ ?_; first | exact hE2 | exact hE1 | exact (Below.refl _ _).drew | exact Below.refl _ _)
            clear hK K hHeld8
            (try simp only [Act.put, List.setIfInBounds_toArray, List.set_cons_zero, List.set_cons_succ])
            apply takeH (i := 10) rfl (by kernel_rfl) (by kernel_rfl) (by kernel_rfl) (fun _ _ _ h => h) (by rfl)
            case hy => (intro w hSw; (try dsimp only at hSw); go_simp; try with_reducible rfl)
            case hS => assumption
            (try simp only [Act.put, List.setIfInBounds_toArray, List.set_cons_zero, List.set_cons_succ])
            refine wpAnyH_done (by kernel_rfl) ?_ _
            have hBE := HBR.out.trans (hE2.mono HBR.out.size)
            go_wp2
            go_ret
            exact ⟨rfl, hBE⟩
end
end Go.Proofs.Ytedkhcjbppknpaa

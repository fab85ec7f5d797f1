/-
  The walk of the law SmtOrder.
-/
import Derived.Test.YtedkhcjbppknpaaSEnt2
import Derived.Test.YtedkhcjbppknpaaSRefR
namespace Go.Proofs.Ytedkhcjbppknpaa
open Go.RowKit Go.Maps

theorem ents_fit {w : World} {b : Nat} {ps : List (ByteArray × ByteArray)} (h : MapAt w b ps) (hF : FitP ps) : Fit (entsD (madeL ps)) := by
  intro x hx
  obtain ⟨k, hk, rfl⟩ := List.mem_map.1 hx
  have hv : (valD (madeL ps) k).size ≤ 60 := by
    unfold valD
    rw [made_at]
    cases hl : lookP ps k with
    | none => exact Nat.zero_le _
    | some v =>
      show (⟨v.data.toList.toArray⟩ : ByteArray).size ≤ 60
      rw [of_toList]
      exact (hF _ (look_some hl)).2
  have hk2 : k ∈ keysD (madeL ps) := (List.mergeSort_perm (keysD (madeL ps)) _).mem_iff.1 hk
  obtain ⟨l, hl, rfl⟩ := List.mem_map.1 hk2
  obtain ⟨es, hD, hko⟩ := World.ownsMap.keysOf h
  rw [hD] at hl
  obtain ⟨p, hp, rfl⟩ := List.mem_map.1 hl
  obtain ⟨key, hkey⟩ := hko p hp
  obtain ⟨x', _, hx', _⟩ := Maps.keyOf_str Try.underlying9 hkey
  have hlit : litK (⟨(strOf p.1).toArray⟩ : ByteArray) = p.1 := by rw [hx']; simp [litK, strOf]
  have hh : has (madeL ps) (litK (⟨(strOf p.1).toArray⟩ : ByteArray)) = true := by
    rw [hD, has_eq, List.any_eq_true]
    exact ⟨p, hp, by rw [hlit, hx']; simp [Lit.sameKey]⟩
  have := made_fit hF hh
  exact ⟨Nat.le_trans this (by decide), Nat.le_trans hv (by decide)⟩
theorem MapAt.below {w w' : World} {b : Nat} {ps : List (ByteArray × ByteArray)} (h : MapAt w b ps) (hb : Below w.heap.size w w') : MapAt w' b ps := World.ownsMap.kept h (only_of_below hb none) (by simp)
theorem ents_len_le {w : World} {b : Nat} {ps : List (ByteArray × ByteArray)} (h : MapAt w b ps) : (entsD (madeL ps)).length ≤ ps.length := by
  rw [ents_len]
  have h1 := own_size h
  obtain ⟨es, hD, _⟩ := World.ownsMap.keysOf h
  rw [hD] at h1 ⊢
  show (es.map _).length ≤ _
  rw [List.length_map]
  exact h1
/-- the root of the map of the pairs -/
def rootP (ps : List (ByteArray × ByteArray)) : ByteArray := rootK 256 (entsD (madeL ps))
theorem rootOf_any (b : Nat) (ps : List (ByteArray × ByteArray)) (hsz : ps.length ≤ 12) (hF : FitP ps) (w : World) (hm : MapAt w b ps) :
    Calls Try.prog 11 #[.agg tabV, .map (some b)] w fun e w' => e = .returned (.string (rootP ps)) ∧ Below w.heap.size w w' :=
  sroot_any (.map (some b)) (entsD (madeL ps)) (by have := ents_len_le hm; omega) (ents_good _) (ents_fit hm hF) w (fun W hW => entries_any b ps hsz hF W (hm.below hW))
section
attribute [-go_sem] loadVar
set_option maxRecDepth 100000 in
set_option maxHeartbeats 4000000 in
theorem law_smtorder (oa : Option Addr) (n cap : Nat) (ps : List (ByteArray × ByteArray)) (hn : ps.length = n) (w : World) (hP : Prs w oa ps) :
    Calls Try.prog 3 #[.slice oa n cap] w fun e w' => e = .returned (.bool true) ∧ Below w.heap.size w w' := by
  have HF1 := Lib.hid (fun W hP => few_any5 oa n cap 8 ps hn (by decide) W hP)
  unfold RFew at HF1
  rw [show ((8 : Nat) : Int) = 8 from rfl] at HF1
  have HAW := Lib.hid awake5_any
  go_enter Try.func3, Try.ntmps3
  go_wp2_with fail
  refine (HAW.out _).mono ?_
  rintro e w1 ⟨rfl, hB1⟩
  have hP1 := hP.below hB1
  clear hP
  go_wp2_with fail
  refine (HF1.out _ hP1).mono ?_
  rintro e w2 ⟨⟨b1, rfl, hb1⟩, rfl⟩
  cases b1
  · clear hP1 HF1 hb1
    go_wp2_with fail
    refine (HAW.out _).mono ?_
    rintro e w3 ⟨rfl, hb3⟩
    have hB3 := hB1.trans (hb3.mono hB1.size)
    go_wp2
    go_ret
    exact ⟨rfl, hB3⟩
  · obtain ⟨hn8, hfp⟩ := hb1 rfl
    clear hb1 HF1 HAW
    have z1 := zeroTable
    have HLA := Lib.hid (fun W hP => last_any oa n cap ps hn (by omega) W hP)
    unfold RTP at HLA
    have HLL := Lib.hid (lastK_len ps n)
    have HLF : Hid (FitP (lastK ps n)) := Lib.hid fun x hx => hfp x (lastK_mem ps n (by omega) x hx)
    have HBL : Hid (∀ x, lookP (lastK ps n).reverse x = lookP ps x) := Lib.hid fun x => by rw [← hn]; exact back_look ps x
    generalize lastK ps n = LP at *
    have HM1 := Lib.hid (fun W hP => made_any oa n cap ps hn (by omega) hfp W hP)
    have HM2 := Lib.hid (fun oa cap W hP => made_any oa LP.length cap LP.reverse (by simp) (by have := HLL.out; omega) (fun x hx => HLF.out x (List.mem_reverse.1 hx)) W hP)
    unfold RM at HM1 HM2
    have HR1 := Lib.hid (fun b W hm => rootOf_any b ps (by omega) hfp W hm)
    have HR2 := Lib.hid (fun b W hm => rootOf_any b LP.reverse (by rw [List.length_reverse]; have := HLL.out; omega) (fun x hx => HLF.out x (List.mem_reverse.1 hx)) W hm)
    have HEQ : Hid (∀ b1 b2 (W1 W2 : World), MapAt W1 b1 ps → MapAt W2 b2 LP.reverse → rootP LP.reverse = rootP ps) := Lib.hid fun b1 b2 W1 W2 h1 h2 => by
      unfold rootP
      rw [made_ext (World.ownsMap.canon h2 keyed) (World.ownsMap.canon h1 keyed) HBL.out]
    have HPR : Hid (∀ W, Prs W oa ps → True) := Lib.hid fun _ _ => trivial
    clear hfp
    go_wp2_with fail
    refine (make_std _).mono ?_
    rintro e w4 ⟨rfl, hb4⟩
    have hP4 := hP1.below hb4
    have hB4 := hB1.trans (hb4.mono hB1.size)
    clear hb4 hP1 hB1
    go_wp2_with (refine wpList_store_row rfl 29 _ _ rfl w4.heap.size tabV rfl rfl 29 zero72 (Blk.new _ _ _) (by rw [tabV_size]; exact infoTable) (by kernel_rfl) (by kernel_rfl) ?_; rw [World.setRow_alloc_new])
    have hb5 := (Below.refl _ w4).alloc (Nat.le_refl _) (.cells tabV 29)
    have hT5 : Blk (w4.alloc (.cells tabV 29)) w4.heap.size 29 tabV := Blk.new _ _ _
    have hP5 := hP4.below hb5
    have hB5 := hB4.trans (hb5.mono hB4.size)
    generalize w4.alloc (.cells tabV 29) = w5 at *
    generalize w4.heap.size = gt at *
    clear hb5 hP4 hB4 z1
    refine (HLA.out _ hP5).mono ?_
    rintro e w8 ⟨v8, rfl, hown8, hb8⟩
    obtain ⟨ol, cl, rfl, hcl, hP8⟩ := hown8.form
    have hT8 := hT5.below hb8 hT5.lt
    have hO8 := hP5.below hb8
    have hB8 := hB5.trans (hb8.mono hB5.size)
    clear hb8 hT5 hP5 hB5 HLA hown8 hcl
    obtain ⟨nl, hnl⟩ : ∃ nl, LP.length = nl := ⟨_, rfl⟩
    have HAT : Hid (∀ j, j < nl → ∃ g o X Y, ol = some ⟨g, o, none⟩ ∧ g < w8.heap.size ∧ w8.cell? ⟨g, o + (nl - 1 - j) * 2, none⟩ = some (.string X) ∧ w8.cell? ⟨g, o + (nl - 1 - j) * 2 + 1, none⟩ = some (.string Y) ∧ LP.reverse.take (j + 1) = LP.reverse.take j ++ [(X, Y)]) := Lib.hid fun j hj => by
      obtain ⟨g, o, h1, h2, h3, h4⟩ := hP8.at (i := nl - 1 - j) (by omega)
      refine ⟨g, o, _, _, h1, h2, h3, h4, ?_⟩
      rw [List.take_succ_eq_append_getElem (by rw [List.length_reverse]; omega), List.getElem_reverse]
      simp only [hnl]
    have hll : nl ≤ n := by rw [← hnl]; exact HLL.out
    rw [hnl] at HM2 ⊢
    have HNL := Lib.hid hnl
    clear hP8 hnl
    go_wp2
    go_loopw [5, 6] (fun v i wr => ∃ k : Nat, k ≤ nl ∧ i = .int .i64 ((nl : Int) - 1 - (k : Int)) ∧ OwnP wr w8.heap.size v (LP.reverse.take k) ∧ Below w8.heap.size w8 wr) (fun _ i _ => ((intOf i) + 1).toNat)
    case atStart => exact ⟨0, by omega, by simp, ownP_nil _ _, Below.refl _ _⟩
    case round =>
      obtain ⟨k, hk, rfl, hown, hBr⟩ := hrel
      by_cases hlt : k < nl
      · obtain ⟨j, hj⟩ : ∃ j, nl - 1 - k = j := ⟨_, rfl⟩
        have hj1 : (nl : Int) - 1 - (k : Int) = (j : Int) := by omega
        rw [hj1]
        obtain ⟨g, o, X, Y, rfl, hg, c1, c2, htk⟩ := HAT.out k hlt
        rw [hj] at c1 c2
        have hjl : (j : Int) < (nl : Int) := by omega
        have hl1 := pair_load ((hBr.cell (p := ⟨g, o + j * 2, none⟩) hg).trans c1) ((hBr.cell (p := ⟨g, o + j * 2 + 1, none⟩) hg).trans c2)
        have htl : (LP.reverse.take k).length = k := by rw [List.length_take, List.length_reverse, HNL.out]; omega
        have HTK := Lib.hid htk
        clear c1 c2 htk
        go_wp2_with (at_builtin; refine wpList_append_pair rfl _ _ rfl w8.heap.size u5 (LP.reverse.take k) rfl hown (X, Y) rfl (by omega) hBr.size ?_)
        intro g5 c5 w6 hown5 hg5 _
        have hB6 := hBr.grown hg5 hBr.size (fun z hz => (World.ownsRow.lt hown z hz).1)
        rw [← HTK.out] at hown5
        clear hown hBr hg5 hl1
        go_wp2
        go_roundw
        case rel => exact ⟨k + 1, by omega, by go_num, hown5, hB6⟩
        case measure => simp [intOf]
      · obtain rfl : k = nl := by omega
        rw [show (k : Int) - 1 - (k : Int) = -1 by omega]
        have hown2 : OwnP wr w8.heap.size u5 LP.reverse := by
          have := hown
          rwa [List.take_of_length_le (by rw [List.length_reverse, HNL.out]; exact Nat.le_refl _)] at this
        obtain ⟨ob, cb, hvb, hcb, hPb⟩ := hown2.form
        rw [List.length_reverse, HNL.out] at hvb
        subst hvb
        have HKP : Hid (∀ W, Below wr.heap.size wr W → (loadVar 29 ⟨gt, 0, none⟩).run Try.prog W = .ok (.agg tabV) W ∧ Below wr.heap.size wr W) := Lib.hid fun W hW => ⟨tab_run ((hT8.below hBr hT8.lt).below hW (Nat.lt_of_lt_of_le hT8.lt hBr.size)), hW⟩
        have HOL := Lib.hid (hO8.below hBr)
        have HPB := Lib.hid hPb
        have HBR := Lib.hid (hB8.trans (hBr.mono hB8.size))
        have hqq : ((rootP ps).toList == (rootP ps).toList) = true := beq_self_eq_true _
        generalize rootP ps = RP1 at *
        generalize rootP LP.reverse = RP2 at *
        clear hlt hown hown2 hPb hcb hT8 hO8 hB8 hBr HAT HLF HBL HPR
        go_wp2
        refine wp_region_held_drew (S := fun w' => (loadVar 29 ⟨gt, 0, none⟩).run Try.prog w' = .ok (.agg tabV) w' ∧ Below wr.heap.size wr w') (by kernel_rfl) ?_ (fun hHeld0 => ?_)
        · (refine HKP.out _ ?_; first | exact hE4 | exact hE3 | exact hE2 | exact hE1 | exact (Below.refl _ _).drew | exact Below.refl _ _)
        apply takeH (i := 0) rfl (by kernel_rfl) (by kernel_rfl) (by kernel_rfl) (fun _ _ _ h => h) (by rfl)
        case hy => (intro w hSw; (try dsimp only at hSw); go_simp; try with_reducible rfl)
        case hS => assumption
        (try simp only [Act.put, List.setIfInBounds_toArray, List.set_cons_zero, List.set_cons_succ])
        apply takeH (i := 1) rfl (by kernel_rfl) (by kernel_rfl) (by kernel_rfl) (fun _ _ _ h => h) (by rfl)
        case hy => (intro w hSw; (try dsimp only at hSw); go_simp; try with_reducible rfl)
        case hS => assumption
        (try simp only [Act.put, List.setIfInBounds_toArray, List.set_cons_zero, List.set_cons_succ])
        apply takeH (i := 4) rfl (by kernel_rfl) (by kernel_rfl) (by kernel_rfl) (fun _ _ _ h => h) (by rfl)
        case hy => (intro w hSw; (try dsimp only at hSw); go_simp; try with_reducible rfl)
        case hS => assumption
        (try simp only [Act.put, List.setIfInBounds_toArray, List.set_cons_zero, List.set_cons_succ])
        apply takeH (i := 5) rfl (by kernel_rfl) (by kernel_rfl) (by kernel_rfl) (fun _ _ _ h => h) (by rfl)
        case hy => (intro w hSw; (try dsimp only at hSw); go_simp; try with_reducible rfl)
        case hS => assumption
        (try simp only [Act.put, List.setIfInBounds_toArray, List.set_cons_zero, List.set_cons_succ])
        refine doH (i := 2) rfl (by kernel_rfl) (by rfl) (fun K hK => ?_)
        go_simp
        (go_at_call 12; refine (HM1.out _ (HOL.out.below (Below.refl _ _).drew)).mono ?_; rintro e y1 ⟨bm1, rfl, _, hm1, hy1⟩; have hE1 : Below wr.heap.size wr y1 := (Below.refl _ _).drew.trans hy1)
        go_wp2_with fail
        refine hK.out _ _ ?_ (fun hHeld2 => ?_)
        · (refine HKP.out _ ?_; first | exact hE4 | exact hE3 | exact hE2 | exact hE1 | exact (Below.refl _ _).drew | exact Below.refl _ _)
        clear hK K hHeld0
        (try simp only [Act.put, List.setIfInBounds_toArray, List.set_cons_zero, List.set_cons_succ])
        refine doH (i := 3) rfl (by kernel_rfl) (by rfl) (fun K hK => ?_)
        go_simp
        (go_at_call 11; refine (HR1.out _ _ hm1).mono ?_; rintro e y2 ⟨rfl, hy2⟩; have hE2 : Below wr.heap.size wr y2 := hE1.trans (hy2.mono hE1.size))
        go_wp2_with fail
        refine hK.out _ _ ?_ (fun hHeld3 => ?_)
        · (refine HKP.out _ ?_; first | exact hE4 | exact hE3 | exact hE2 | exact hE1 | exact (Below.refl _ _).drew | exact Below.refl _ _)
        clear hK K hHeld2
        (try simp only [Act.put, List.setIfInBounds_toArray, List.set_cons_zero, List.set_cons_succ])
        refine doH (i := 6) rfl (by kernel_rfl) (by rfl) (fun K hK => ?_)
        go_simp
        (go_at_call 12; refine (HM2.out _ _ _ (HPB.out.below hE2)).mono ?_; rintro e y3 ⟨bm2, rfl, _, hm2, hy3⟩; have hE3 : Below wr.heap.size wr y3 := hE2.trans (hy3.mono hE2.size); have hq2 := HEQ.out _ _ _ _ hm1 hm2; subst hq2)
        go_wp2_with fail
        refine hK.out _ _ ?_ (fun hHeld6 => ?_)
        · (refine HKP.out _ ?_; first | exact hE4 | exact hE3 | exact hE2 | exact hE1 | exact (Below.refl _ _).drew | exact Below.refl _ _)
        clear hK K hHeld3
        (try simp only [Act.put, List.setIfInBounds_toArray, List.set_cons_zero, List.set_cons_succ])
        refine doH (i := 7) rfl (by kernel_rfl) (by rfl) (fun K hK => ?_)
        go_simp
        (go_at_call 11; refine (HR2.out _ _ hm2).mono ?_; rintro e y4 ⟨rfl, hy4⟩; have hE4 : Below wr.heap.size wr y4 := hE3.trans (hy4.mono hE3.size))
        go_wp2_with fail
        refine hK.out _ _ ?_ (fun hHeld7 => ?_)
        · (refine HKP.out _ ?_; first | exact hE4 | exact hE3 | exact hE2 | exact hE1 | exact (Below.refl _ _).drew | exact Below.refl _ _)
        clear hK K hHeld6
        (try simp only [Act.put, List.setIfInBounds_toArray, List.set_cons_zero, List.set_cons_succ])
        apply takeH (i := 8) rfl (by kernel_rfl) (by kernel_rfl) (by kernel_rfl) (fun _ _ _ h => h) (by rfl)
        case hy => (intro w hSw; (try dsimp only at hSw); go_simp; try with_reducible rfl)
        case hS => assumption
        (try simp only [Act.put, List.setIfInBounds_toArray, List.set_cons_zero, List.set_cons_succ])
        apply takeH (i := 9) rfl (by kernel_rfl) (by kernel_rfl) (by kernel_rfl) (fun _ _ _ h => h) (by rfl)
        case hy => (intro w hSw; (try dsimp only at hSw); go_simp; try with_reducible rfl)
        case hS => assumption
        (try simp only [Act.put, List.setIfInBounds_toArray, List.set_cons_zero, List.set_cons_succ])
        refine wpAnyH_done (by kernel_rfl) ?_ _
        have hBE := HBR.out.trans (hE4.mono HBR.out.size)
        go_wp2
        go_ret
        exact ⟨rfl, hBE⟩
end
end Go.Proofs.Ytedkhcjbppknpaa

/-
  The walk of the law RangesOf.
-/
import Derived.Test.YtmokkahkfmmnmaaROf
import Derived.Test.YtmokkahkfmmnmaaRRoot
import Derived.Test.YtmokkahkfmmnmaaRRef
import Derived.Test.YtmokkahkfmmnmaaRRight
import Derived.Test.YtmokkahkfmmnmaaMFew
import Derived.Test.YtmokkahkfmmnmaaRSame
import Derived.Deep.WholeRow
namespace Go.Proofs.Ytmokkahkfmmnmaa
open Go.RowKit

theorem few_sz6 {ss : List ByteArray} {k sz : Nat} (hk : k ≤ 300) (hsz : sz ≤ 1073741824) (h : fewM ss k sz = true) : ss.length ≤ k ∧ Sz ss :=
  ⟨(fewM_true hk h).1, fun x hx => Nat.le_trans ((fewM_true hk h).2 x hx) hsz⟩
theorem sz_leaves6 (ss : List ByteArray) : Sz (ss.map leafM) := by
  intro x hx
  obtain ⟨y, _, rfl⟩ := List.mem_map.1 hx
  show (hB _).size ≤ _
  rw [hB_size]
  decide
/-- all of thirty-two bytes -/
def A32 (l : List ByteArray) : Prop := ∀ x ∈ l, x.size = 32
theorem leaves32 (ss : List ByteArray) : A32 (ss.map leafM) := by
  intro x hx
  obtain ⟨y, _, rfl⟩ := List.mem_map.1 hx
  exact hB_size _
theorem root32 {l : List ByteArray} (h : A32 l) : (rootM l).size = 32 := by
  rcases Nat.lt_or_ge l.length 2 with h2 | h2
  · rcases (by omega : l.length = 0 ∨ l.length = 1) with h0 | h1
    · rw [rootM_nil h0]; exact hB_size _
    · rw [rootM_one h1, List.getD_eq_getElem?_getD, List.getElem?_eq_getElem (by omega)]
      exact h _ (List.getElem_mem _)
  · rw [rootM_more h2]; exact nodM_size _ _
theorem chk32 {s : List Nat} {l : List ByteArray} (h : A32 l) : A32 (chk s l) := by
  induction s generalizing l with
  | nil => intro x hx; cases hx
  | cons a r ih =>
    intro x hx
    rcases List.mem_cons.1 hx with rfl | hx
    · exact root32 (fun y hy => h y (List.mem_of_mem_take hy))
    · exact ih (fun y hy => h y (List.mem_of_mem_drop hy)) x hx
theorem right_of {l : List ByteArray} (h : A32 l) (hl : l.length ≤ 1073741824) : rightM ((l.length : Nat) : Int) (ofM l) = true := by
  unfold rightM
  rw [decide_eq_true ⟨by omega, by omega, by rw [ofM_length, Int.toNat_natCast]⟩, Bool.true_and]
  refine allH_true fun i hi => ?_
  rw [List.getD_eq_getElem?_getD, List.getElem?_eq_getElem hi]
  exact chk32 h _ (List.getElem_mem _)
/-- Root of a range that the call made -/
theorem root_own (s : Int) (oa : Option Addr) (n c : Nat) (ss : List ByteArray) (hn : ss.length = n) (hn2 : n ≤ 1000) (hz : Sz ss) (B : Nat) (w : World) (hv : Own w B (.slice oa n c) ss) :
    Calls Try.prog 16 #[.agg tabV, .agg #[.int .i64 s, .slice oa n c]] w fun e w' => e = .returned (.string (rtM ss)) ∧ Below w.heap.size w w' := by
  cases n with
  | zero =>
    obtain rfl : ss = [] := List.length_eq_zero_iff.1 hn
    exact root_none s oa c w
  | succ m =>
    obtain ⟨g, cap, he, _, hc, hR⟩ := hv.row (by omega)
    injection he with h1 h2 h3
    subst h1 h3
    exact root_any s g m c ss hn (by omega) (by omega) hz w hR
section
attribute [-go_sem] loadVar
set_option maxRecDepth 100000 in
set_option maxHeartbeats 8000000 in
theorem law_of (oa : Option Addr) (m cap : Nat) (ss : List ByteArray) (hm : ss.length = m) (hm2 : m ≤ 9223372036854775807) (hsz : ∀ s ∈ ss, s.size ≤ 9223372036854775807) (_hcap : m ≤ cap) (w : World) (hc : Strs w oa ss) :
    Calls Try.prog 3 #[.slice oa m cap] w fun e w' => e = .returned (.bool true) ∧ Below w.heap.size w w' := by
  have HA := Lib.hid (fun W => awake6_any W)
  have HMK := Lib.hid (fun W => make_std W)
  have HF : Hid (∀ W, Strs W oa ss → Calls Try.prog 9 #[.slice oa m cap, .int .i64 64, .int .i64 60] W fun e w' => e = .returned (.bool (fewM ss 64 60)) ∧ w' = W) := Lib.hid (fun W hW => few_any oa m cap ss hm hm2 hsz 64 60 W hW)
  have HFT := Lib.hid (show fewM ss 64 60 = true → m ≤ 64 ∧ Sz ss from fun h => by rw [← hm]; exact few_sz6 (by decide) (by decide) h)
  have HM := Lib.hid hm
  have HC := Lib.hid hc
  have z1 := zeroTable
  clear hsz hc hm
  go_enter Try.func3, Try.ntmps3
  go_wp2_with fail
  refine (HA.out _).mono ?_
  rintro e w3 ⟨rfl, hB3⟩
  have hc3 := HC.out.below hB3
  clear HC
  go_wp2_with fail
  refine (HF.out _ hc3).mono ?_
  rintro e w' ⟨rfl, hw⟩
  rw [hw]
  clear hw
  by_cases hfew : fewM ss 64 60 = true
  · obtain ⟨hm64, hz⟩ := HFT.out hfew
    rw [hfew]
    clear hfew
    have HLV := Lib.hid (fun W hW => rleaves_any oa m cap ss HM.out (by omega) hz W hW)
    have hzl := sz_leaves6 ss
    have h32 := leaves32 ss
    have HLL := Lib.hid (show (ss.map leafM).length = m by rw [List.length_map]; exact HM.out)
    generalize ss.map leafM = L at *
    have HRG := Lib.hid (show rightM ((m : Nat) : Int) (ofM L) = true by rw [← HLL.out]; exact right_of h32 (by have := HLL.out; omega))
    have HRT := Lib.hid (rtM_of L)
    have HZO := Lib.hid (show Sz (ofM L) from sz_chk hzl)
    obtain ⟨k, hk⟩ : ∃ k, (ofM L).length = k := ⟨_, rfl⟩
    have hk64 : k ≤ 64 := by
      rw [← hk, ofM_length, HLL.out]
      have := strL_len 63 m (by have : (2 : Nat) ^ 63 = 9223372036854775808 := by decide
                                omega)
      omega
    have HK := Lib.hid hk
    have HO32 := Lib.hid (show ∀ s ∈ ofM L, s.size ≤ 9223372036854775807 from fun s hs => by have := HZO.out s hs; omega)
    clear hk h32
    go_wp2_with fail
    refine (HMK.out _).mono ?_
    rintro e w4 ⟨rfl, hb4⟩
    have hc4 := hc3.below hb4
    have hB4 := hB3.trans (hb4.mono hB3.size)
    clear hB3 hb4 hc3
    have hB5 := hB4.alloc hB4.size (.cells tabV 29)
    have hT5 : Blk (w4.alloc (.cells tabV 29)) w4.heap.size 29 tabV := Blk.new _ _ _
    have hc5 := hc4.below ((Below.refl _ w4).alloc (Nat.le_refl _) (.cells tabV 29))
    go_wp2_with (refine wpList_store_row rfl 29 _ _ rfl w4.heap.size tabV rfl rfl 29 zero72 (Blk.new _ _ _) (by rw [tabV_size]; exact infoTable) (by kernel_rfl) (by kernel_rfl) ?_; rw [World.setRow_alloc_new])
    generalize w4.alloc (.cells tabV 29) = w5 at *
    generalize w4.heap.size = gt at *
    clear hB4 hc4 z1
    refine (HLV.out _ hc5).mono ?_
    rintro e w6 ⟨v, rfl, hown, hb6⟩
    obtain ⟨ol, capl, hv, hs6, hcl, _⟩ := hown.formd
    rw [HLL.out] at hv hcl
    subst hv
    have hB6 := hB5.trans (hb6.mono hB5.size)
    have hT6 := hT5.below hb6 hT5.lt
    have HOF := Lib.hid (fun W hW => of_any ol m capl L HLL.out (by omega) hcl hzl W hW)
    have HRO := Lib.hid (fun W hW => rof_any ol m capl L HLL.out hm64 hcl hzl W hW)
    have HRR := Lib.hid (fun W hW => rroot_any m ol capl L HLL.out hm64 hcl hzl W hW)
    rw [← HRT.out] at HRR
    have hR6 := tab_run hT6
    clear hown hb6 hB5 hT5 hc5 HLV hcl hzl
    go_wp2_with fail
    refine (HOF.out _ hs6).mono ?_
    rintro e w7 ⟨v7, rfl, hv7, hb7⟩
    obtain ⟨ov, cv, hvv, hsv, _⟩ := hv7.formd
    rw [HK.out] at hvv
    subst hvv
    have hB7 := hB6.trans (hb7.mono hB6.size)
    have hT7 := hT6.below hb7 hT6.lt
    have hs7 := hs6.below hb7
    clear hR6 hB6 hT6 hs6 hb7 HOF
    obtain ⟨wz, hwz⟩ : ∃ wz, w7.alloc (.cells #[.int .i64 m, .slice ov k cv] 33) = wz := ⟨_, rfl⟩
    obtain ⟨gr, hgr⟩ : ∃ gr, w7.heap.size = gr := ⟨_, rfl⟩
    have hbz : Below w7.heap.size w7 wz := by rw [← hwz]; exact (Below.refl _ _).alloc (Nat.le_refl _) _
    have hRz : Blk wz gr 33 #[.int .i64 m, .slice ov k cv] := by rw [← hwz, ← hgr]; exact Blk.new _ _ _
    have hBz := hB7.trans (hbz.mono hB7.size)
    have hTz := hT7.below hbz hT7.lt
    have hsz := hs7.below hbz
    have hsvz := hsv.below hbz
    have hvz := hv7.below hbz
    have HWZ := Lib.hid hwz
    have HRI := Lib.hid (fun W hW => right_any (m : Int) (by omega) ov k cv (ofM L) HK.out (by omega) HO32.out W hW)
    rw [HRG.out] at HRI
    have HSM := Lib.hid (fun ob cap' W hW hW' => rsame_eq ov ob k cv cap' (ofM L) HK.out (by omega) W hW hW')
    have HRW := Lib.hid (fun W hW => root_own (m : Int) ov k cv (ofM L) HK.out (by omega) HZO.out w6.heap.size W hW)
    generalize rtM (ofM L) = RR at *
    have HKP := Lib.hid (show ∀ W, Below wz.heap.size wz W → ((loadVar 3 ⟨gr, 0, none⟩).run Try.prog W = .ok (.int .i64 m) W ∧ (loadVar 22 ⟨gr, 1, none⟩).run Try.prog W = .ok (.slice ov k cv) W ∧ (loadVar 33 ⟨gr, 0, none⟩).run Try.prog W = .ok (.agg #[.int .i64 m, .slice ov k cv]) W ∧ (loadVar 29 ⟨gt, 0, none⟩).run Try.prog W = .ok (.agg tabV) W) ∧ Below wz.heap.size wz W from fun W hW =>
      ⟨⟨ld_int ((hRz.below hW hRz.lt).cell 0), ld_sl ((hRz.below hW hRz.lt).cell 1), ld_rng (hRz.below hW hRz.lt), tab_run (hTz.below hW hTz.lt)⟩, hW⟩)
    clear hwz hv7 hsv hT7 hs7 hB7 hbz
    go_wp2_with (rw [HWZ.out])
    refine wp_region_held_drew (S := fun W => ((loadVar 3 ⟨gr, 0, none⟩).run Try.prog W = .ok (.int .i64 m) W ∧ (loadVar 22 ⟨gr, 1, none⟩).run Try.prog W = .ok (.slice ov k cv) W ∧ (loadVar 33 ⟨gr, 0, none⟩).run Try.prog W = .ok (.agg #[.int .i64 m, .slice ov k cv]) W ∧ (loadVar 29 ⟨gt, 0, none⟩).run Try.prog W = .ok (.agg tabV) W) ∧ Below wz.heap.size wz W) (by kernel_rfl) ?_ (fun hHeld0 => ?_)
    · (refine HKP.out _ ?_; first | exact hbB | exact hbA | exact hb14 | exact hb10 | exact hb9 | exact (Below.refl _ _).drew | exact Below.refl _ _)
    apply takeH (i := 0) rfl (by kernel_rfl) (by kernel_rfl) (by kernel_rfl) (fun _ _ _ h => h) (by rfl)
    case hy => (intro w hSw; (try dsimp only at hSw); go_simp; try with_reducible rfl)
    case hS => assumption
    (try simp only [Act.put, List.setIfInBounds_toArray, List.set_cons_zero, List.set_cons_succ])
    apply takeH (i := 1) rfl (by kernel_rfl) (by kernel_rfl) (by kernel_rfl) (fun _ _ _ h => h) (by rfl)
    case hy => (intro w hSw; (try dsimp only at hSw); go_simp; try with_reducible rfl)
    case hS => assumption
    (try simp only [Act.put, List.setIfInBounds_toArray, List.set_cons_zero, List.set_cons_succ])
    apply takeH (i := 2) rfl (by kernel_rfl) (by kernel_rfl) (by kernel_rfl) (fun _ _ _ h => h) (by rfl)
    case hy => (intro w hSw; (try dsimp only at hSw); go_simp; try with_reducible rfl)
    case hS => assumption
    (try simp only [Act.put, List.setIfInBounds_toArray, List.set_cons_zero, List.set_cons_succ])
    apply takeH (i := 3) rfl (by kernel_rfl) (by kernel_rfl) (by kernel_rfl) (fun _ _ _ h => h) (by rfl)
    case hy => (intro w hSw; (try dsimp only at hSw); go_simp; try with_reducible rfl)
    case hS => assumption
    (try simp only [Act.put, List.setIfInBounds_toArray, List.set_cons_zero, List.set_cons_succ])
    apply takeH (i := 4) rfl (by kernel_rfl) (by kernel_rfl) (by kernel_rfl) (fun _ _ _ h => h) (by rfl)
    case hy => (intro w hSw; (try dsimp only at hSw); go_simp; try with_reducible rfl)
    case hS => assumption
    (try simp only [Act.put, List.setIfInBounds_toArray, List.set_cons_zero, List.set_cons_succ])
    apply takeH (i := 5) rfl (by kernel_rfl) (by kernel_rfl) (by kernel_rfl) (fun _ _ _ h => h) (by rfl)
    case hy => (intro w hSw; (try dsimp only at hSw); go_simp; try with_reducible rfl)
    case hS => assumption
    (try simp only [Act.put, List.setIfInBounds_toArray, List.set_cons_zero, List.set_cons_succ])
    apply takeH (i := 6) rfl (by kernel_rfl) (by kernel_rfl) (by kernel_rfl) (fun _ _ _ h => h) (by rfl)
    case hy => (intro w hSw; (try dsimp only at hSw); go_simp; try with_reducible rfl)
    case hS => assumption
    (try simp only [Act.put, List.setIfInBounds_toArray, List.set_cons_zero, List.set_cons_succ])
    apply takeH (i := 7) rfl (by kernel_rfl) (by kernel_rfl) (by kernel_rfl) (fun _ _ _ h => h) (by rfl)
    case hy => (intro w hSw; (try dsimp only at hSw); go_simp; try with_reducible rfl)
    case hS => assumption
    (try simp only [Act.put, List.setIfInBounds_toArray, List.set_cons_zero, List.set_cons_succ])
    apply takeH (i := 8) rfl (by kernel_rfl) (by kernel_rfl) (by kernel_rfl) (fun _ _ _ h => h) (by rfl)
    case hy => (intro w hSw; (try dsimp only at hSw); go_simp; try with_reducible rfl)
    case hS => assumption
    (try simp only [Act.put, List.setIfInBounds_toArray, List.set_cons_zero, List.set_cons_succ])
    refine doH (i := 9) rfl (by kernel_rfl) (by rfl) (fun K hK => ?_)
    go_simp
    refine (HRO.out _ (hsz.below hHeld0.2)).mono ?_
    rintro e w9 ⟨v9, rfl, hv9, hb9'⟩
    obtain ⟨o9, cap9, hvv9, hs9, _⟩ := hv9.formd
    rw [HK.out] at hvv9
    subst hvv9
    have hb9 : Below wz.heap.size wz w9 := hHeld0.2.trans (hb9'.mono hHeld0.2.size)
    go_wp2_with fail
    refine hK.out _ _ ?_ (fun hHeld9 => ?_)
    · (refine HKP.out _ ?_; first | exact hbB | exact hbA | exact hb14 | exact hb10 | exact hb9 | exact (Below.refl _ _).drew | exact Below.refl _ _)
    clear hK K hHeld0
    (try simp only [Act.put, List.setIfInBounds_toArray, List.set_cons_zero, List.set_cons_succ])
    refine doH (i := 10) rfl (by kernel_rfl) (by rfl) (fun K hK => ?_)
    go_simp
    refine (HSM.out _ _ _ (hsvz.below hb9) hs9).mono ?_
    rintro e w10 ⟨rfl, hb10'⟩
    have hb10 : Below wz.heap.size wz w10 := hb9.trans (hb10'.mono hb9.size)
    go_wp2_with fail
    refine hK.out _ _ ?_ (fun hHeld10 => ?_)
    · (refine HKP.out _ ?_; first | exact hbB | exact hbA | exact hb14 | exact hb10 | exact hb9 | exact (Below.refl _ _).drew | exact Below.refl _ _)
    clear hK K hHeld9
    (try simp only [Act.put, List.setIfInBounds_toArray, List.set_cons_zero, List.set_cons_succ])
    apply takeH (i := 11) rfl (by kernel_rfl) (by kernel_rfl) (by kernel_rfl) (fun _ _ _ h => h) (by rfl)
    case hy => (intro w hSw; (try dsimp only at hSw); go_simp; try with_reducible rfl)
    case hS => assumption
    (try simp only [Act.put, List.setIfInBounds_toArray, List.set_cons_zero, List.set_cons_succ])
    apply takeH (i := 12) rfl (by kernel_rfl) (by kernel_rfl) (by kernel_rfl) (fun _ _ _ h => h) (by rfl)
    case hy => (intro w hSw; (try dsimp only at hSw); go_simp; try with_reducible rfl)
    case hS => assumption
    (try simp only [Act.put, List.setIfInBounds_toArray, List.set_cons_zero, List.set_cons_succ])
    apply takeH (i := 13) rfl (by kernel_rfl) (by kernel_rfl) (by kernel_rfl) (fun _ _ _ h => h) (by rfl)
    case hy => (intro w hSw; (try dsimp only at hSw); go_simp; try with_reducible rfl)
    case hS => assumption
    (try simp only [Act.put, List.setIfInBounds_toArray, List.set_cons_zero, List.set_cons_succ])
    refine doH (i := 14) rfl (by kernel_rfl) (by rfl) (fun K hK => ?_)
    go_simp
    refine (HRI.out _ (hsvz.below hb10)).mono ?_
    rintro e w14 ⟨rfl, hb14'⟩
    have hb14 : Below wz.heap.size wz w14 := hb10.trans (hb14'.mono hb10.size)
    go_wp2_with fail
    refine hK.out _ _ ?_ (fun hHeld14 => ?_)
    · (refine HKP.out _ ?_; first | exact hbB | exact hbA | exact hb14 | exact hb10 | exact hb9 | exact (Below.refl _ _).drew | exact Below.refl _ _)
    clear hK K hHeld10
    (try simp only [Act.put, List.setIfInBounds_toArray, List.set_cons_zero, List.set_cons_succ])
    apply takeH (i := 15) rfl (by kernel_rfl) (by kernel_rfl) (by kernel_rfl) (fun _ _ _ h => h) (by rfl)
    case hy => (intro w hSw; (try dsimp only at hSw); go_simp; try with_reducible rfl)
    case hS => assumption
    (try simp only [Act.put, List.setIfInBounds_toArray, List.set_cons_zero, List.set_cons_succ])
    apply takeH (i := 16) rfl (by kernel_rfl) (by kernel_rfl) (by kernel_rfl) (fun _ _ _ h => h) (by rfl)
    case hy => (intro w hSw; (try dsimp only at hSw); go_simp; try with_reducible rfl)
    case hS => assumption
    (try simp only [Act.put, List.setIfInBounds_toArray, List.set_cons_zero, List.set_cons_succ])
    apply takeH (i := 17) rfl (by kernel_rfl) (by kernel_rfl) (by kernel_rfl) (fun _ _ _ h => h) (by rfl)
    case hy => (intro w hSw; (try dsimp only at hSw); go_simp; try with_reducible rfl)
    case hS => assumption
    (try simp only [Act.put, List.setIfInBounds_toArray, List.set_cons_zero, List.set_cons_succ])
    apply takeH (i := 18) rfl (by kernel_rfl) (by kernel_rfl) (by kernel_rfl) (fun _ _ _ h => h) (by rfl)
    case hy => (intro w hSw; (try dsimp only at hSw); go_simp; try with_reducible rfl)
    case hS => assumption
    (try simp only [Act.put, List.setIfInBounds_toArray, List.set_cons_zero, List.set_cons_succ])
    apply takeH (i := 20) rfl (by kernel_rfl) (by kernel_rfl) (by kernel_rfl) (fun _ _ _ h => h) (by rfl)
    case hy => (intro w hSw; (try dsimp only at hSw); go_simp; try with_reducible rfl)
    case hS => assumption
    (try simp only [Act.put, List.setIfInBounds_toArray, List.set_cons_zero, List.set_cons_succ])
    refine doH (i := 19) rfl (by kernel_rfl) (by rfl) (fun K hK => ?_)
    go_simp
    refine (HRW.out _ (hvz.below hb14)).mono ?_
    rintro e wA ⟨rfl, hbA'⟩
    have hbA : Below wz.heap.size wz wA := hb14.trans (hbA'.mono hb14.size)
    go_wp2_with fail
    refine hK.out _ _ ?_ (fun hHeld19 => ?_)
    · (refine HKP.out _ ?_; first | exact hbB | exact hbA | exact hb14 | exact hb10 | exact hb9 | exact (Below.refl _ _).drew | exact Below.refl _ _)
    clear hK K
    (try simp only [Act.put, List.setIfInBounds_toArray, List.set_cons_zero, List.set_cons_succ])
    refine doH (i := 21) rfl (by kernel_rfl) (by rfl) (fun K hK => ?_)
    go_simp
    refine (HRR.out _ (hsz.below hbA)).mono ?_
    rintro e wB ⟨rfl, hbB'⟩
    have hbB : Below wz.heap.size wz wB := hbA.trans (hbB'.mono hbA.size)
    go_wp2_with fail
    refine hK.out _ _ ?_ (fun hHeld21 => ?_)
    · (refine HKP.out _ ?_; first | exact hbB | exact hbA | exact hb14 | exact hb10 | exact hb9 | exact (Below.refl _ _).drew | exact Below.refl _ _)
    clear hK K
    (try simp only [Act.put, List.setIfInBounds_toArray, List.set_cons_zero, List.set_cons_succ])
    apply takeH (i := 22) rfl (by kernel_rfl) (by kernel_rfl) (by kernel_rfl) (fun _ _ _ h => h) (by rfl)
    case hy => (intro w hSw; (try dsimp only at hSw); go_simp; try with_reducible rfl)
    case hS => assumption
    (try simp only [Act.put, List.setIfInBounds_toArray, List.set_cons_zero, List.set_cons_succ])
    apply takeH (i := 23) rfl (by kernel_rfl) (by kernel_rfl) (by kernel_rfl) (fun _ _ _ h => h) (by rfl)
    case hy => (intro w hSw; (try dsimp only at hSw); go_simp; try with_reducible rfl)
    case hS => assumption
    (try simp only [Act.put, List.setIfInBounds_toArray, List.set_cons_zero, List.set_cons_succ])
    apply takeH (i := 24) rfl (by kernel_rfl) (by kernel_rfl) (by kernel_rfl) (fun _ _ _ h => h) (by rfl)
    case hy => (intro w hSw; (try dsimp only at hSw); go_simp; try with_reducible rfl)
    case hS => assumption
    (try simp only [Act.put, List.setIfInBounds_toArray, List.set_cons_zero, List.set_cons_succ])
    refine wpAnyH_done (by kernel_rfl) ?_ _
    have hBf := hBz.trans (hbB.mono hBz.size)
    go_wp2
    go_ret
    exact ⟨rfl, hBf⟩
  · rw [Bool.not_eq_true] at hfew
    rw [hfew]
    clear hfew
    go_wp2_with fail
    refine (HA.out _).mono ?_
    rintro e w4 ⟨rfl, hb4⟩
    have hB4 := hB3.trans (hb4.mono hB3.size)
    clear hB3 hb4
    go_wp2
    go_ret
    exact ⟨rfl, hB4⟩
end
end Go.Proofs.Ytmokkahkfmmnmaa

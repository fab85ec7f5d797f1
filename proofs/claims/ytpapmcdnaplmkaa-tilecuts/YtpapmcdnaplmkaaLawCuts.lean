/-
  The walk of the law TileCuts.
-/
import Derived.Test.YtpapmcdnaplmkaaTTile
import Derived.Test.YtpapmcdnaplmkaaTRefP
namespace Go.Proofs.Ytpapmcdnaplmkaa
open Go.RowKit

theorem ld_id_in {w : World} {g : Nat} {x y z : Value} (h : Blk w g 40 #[x, y, z]) : (loadVar 26 ⟨g, 0, none⟩).run Try.prog w = .ok (.agg #[x, y]) w :=
  run_loadVar_mid (P := Try.prog) w g 0 26 [x, y] _ (fun j v hv => by
    match j with
    | 0 => simp at hv; rw [← hv]; exact h.cell 0
    | 1 => simp at hv; rw [← hv]; exact h.cell 1
    | j + 2 => simp at hv) Try.underlying26 rfl (by kernel_rfl)
theorem sz_cutA (ss : List ByteArray) (h : Sz ss) (level index : Int) (hm : ss.length ≤ 64) : Sz (cutA ss level index) := by
  intro x hx
  unfold cutA cutL at hx
  obtain ⟨j, hj, rfl⟩ := List.mem_map.1 hx
  have hj := List.mem_range.1 hj
  obtain ⟨l, i, wd, rfl, rfl, hwd, hl3, hi16, hwd0, hwd4, hww, hbd⟩ := wid_pos hm (show 0 < widT ss.length level index by omega)
  rw [Int.toNat_natCast, Int.toNat_natCast]
  unfold hashT
  have hp : 0 < 4 ^ l := Nat.pow_pos (by decide)
  have hlen : ((ss.drop ((4 * i + j) * 4 ^ l)).take (4 ^ l)).length = 4 ^ l := by
    have h1 := Nat.mul_le_mul_right (4 ^ l) (show 4 * i + j + 1 ≤ 4 * i + wd by omega)
    rw [Nat.add_mul, Nat.one_mul] at h1
    rw [List.length_take, List.length_drop]
    omega
  have hq : Sz ((ss.drop ((4 * i + j) * 4 ^ l)).take (4 ^ l)) := (h.drop _).take _
  generalize (ss.drop ((4 * i + j) * 4 ^ l)).take (4 ^ l) = q at *
  rcases Nat.lt_or_ge q.length 2 with h2 | h2
  · rw [rootM_one (show q.length = 1 by omega)]
    exact hq.get 0
  · rw [rootM_more h2, nodM_size]
    decide
section
attribute [-go_sem] loadVar
set_option maxRecDepth 100000 in
set_option maxHeartbeats 8000000 in
theorem law_cuts (oa : Option Addr) (m cap : Nat) (ss : List ByteArray) (hm : ss.length = m) (hm2 : m ≤ 9223372036854775807) (hsz : ∀ s ∈ ss, s.size ≤ 9223372036854775807) (_hcap : m ≤ cap) (lev : Int) (_hlev : -9223372036854775808 ≤ lev ∧ lev ≤ 9223372036854775807) (idx : Int) (hidx : -9223372036854775808 ≤ idx ∧ idx ≤ 9223372036854775807) (w : World) (hc : Strs w oa ss) :
    Calls Try.prog 6 #[.slice oa m cap, .int .i64 lev, .int .i64 idx] w fun e w' => e = .returned (.bool true) ∧ Below w.heap.size w w' := by
  have HA := Lib.hid (fun W => awake7_any W)
  have HMK := Lib.hid (fun W => make_std W)
  have HF : Hid (∀ W, Strs W oa ss → Calls Try.prog 12 #[.slice oa m cap, .int .i64 64, .int .i64 40] W fun e w' => e = .returned (.bool (fewM ss 64 40)) ∧ w' = W) := Lib.hid (fun W hW => few_any oa m cap ss hm hm2 hsz 64 40 W hW)
  have HFT := Lib.hid (show fewM ss 64 40 = true → m ≤ 64 ∧ Sz ss from fun h => by rw [← hm]; exact few_sz7 (by decide) (by decide) h)
  have HM := Lib.hid hm
  have HC := Lib.hid hc
  have z1 := zeroTable
  clear hsz hc hm
  go_enter Try.func6, Try.ntmps6
  go_wp2_with fail
  refine (HA.out _).mono ?_
  rintro e w3 ⟨rfl, hB3⟩
  have hc3 := HC.out.below hB3
  clear HC
  go_wp2_with fail
  refine (HF.out _ hc3).mono ?_
  rintro e w' ⟨rfl, hw⟩
  rw [hw]
  clear hw HF
  by_cases hfew : fewM ss 64 40 = true
  · obtain ⟨hm64, hz⟩ := HFT.out hfew
    rw [hfew]
    clear hfew HFT
    have HLV := Lib.hid (fun W hW => rleaves_any oa m cap ss HM.out (by omega) hz W hW)
    have hzl := sz_leaves7 ss
    have HLL := Lib.hid (show (ss.map leafM).length = m by rw [List.length_map]; exact HM.out)
    generalize ss.map leafM = L at *
    go_wp2_with fail
    refine (HMK.out _).mono ?_
    rintro e w4 ⟨rfl, hb4⟩
    have hc4 := hc3.below hb4
    have hB4 := hB3.trans (hb4.mono hB3.size)
    clear hB3 hb4 hc3 HMK HA
    have hB5 := hB4.alloc hB4.size (.cells tabV 36)
    have hT5 : Blk (w4.alloc (.cells tabV 36)) w4.heap.size 36 tabV := Blk.new _ _ _
    have hc5 := hc4.below ((Below.refl _ w4).alloc (Nat.le_refl _) (.cells tabV 36))
    go_wp2_with (refine wpList_store_row rfl 36 _ _ rfl w4.heap.size tabV rfl rfl 36 zero72 (Blk.new _ _ _) (by rw [tabV_size]; exact infoTable) (by kernel_rfl) (by kernel_rfl) ?_; rw [World.setRow_alloc_new])
    generalize w4.alloc (.cells tabV 36) = w5 at *
    generalize w4.heap.size = gt at *
    clear hB4 hc4 z1
    refine (HLV.out _ hc5).mono ?_
    rintro e w6 ⟨v, rfl, hown, hb6⟩
    obtain ⟨ol, capl, hv, hs6, hcl⟩ := own_form7 hown
    rw [HLL.out] at hv hcl
    subst hv
    have hB6 := hB5.trans (hb6.mono hB5.size)
    have hT6 := hT5.below hb6 hT5.lt
    have HCA := Lib.hid (fun W hW => cut_any ol m capl L HLL.out hm64 hcl hzl lev idx hidx W hW)
    have HRA := Lib.hid (fun W e w' (h : RC L lev idx W e w') => rc_form h)
    have HRW := Lib.hid (fun W => rwidth_any (m : Int) lev idx W)
    rw [← wid_eq] at HRW
    rw [HLL.out] at HRA
    have rT6 := tab_run hT6
    clear hown hb6 hB5 hT5 hc5 HLV
    go_wp2_with fail
    refine (HCA.out _ hs6).mono ?_
    intro e w7 hq
    obtain ⟨xa, ya, ea, ova, cva, rfl, hsa, hca, hb7, hno, hyes⟩ := HRA.out _ _ _ hq
    clear hq HCA HRA rT6
    have hB7 := hB6.trans (hb7.mono hB6.size)
    have hT7 := hT6.below hb7 hT6.lt
    have hs7 := hs6.below hb7
    have hla : (cutA L lev idx).length = widT m lev idx := by rw [cutA_length, HLL.out]
    rw [hla] at hca ⊢
    rcases Nat.eq_zero_or_pos (widT m lev idx) with h0 | h0
    · have hea := hno h0
      subst hea
      rw [h0] at HRW ⊢
      obtain ⟨wz, hwz⟩ : ∃ wz, w7.alloc (.cells #[.int .i64 xa, .int .i64 ya, .slice ova 0 cva] 40) = wz := ⟨_, rfl⟩
      obtain ⟨gm, hgm⟩ : ∃ gm, w7.heap.size = gm := ⟨_, rfl⟩
      have hbz : Below w7.heap.size w7 wz := by rw [← hwz]; exact (Below.refl _ _).alloc (Nat.le_refl _) _
      have hZ : Blk wz gm 40 #[.int .i64 xa, .int .i64 ya, .slice ova 0 cva] := by rw [← hwz, ← hgm]; exact Blk.new _ _ _
      have ra := ld_sl7 (hZ.cell 2)
      have hBz := hB7.trans (hbz.mono hB7.size)
      have HWZ := Lib.hid hwz
      clear hwz hno hyes h0 hla hsa hca hs6 hs7 hT6 hT7
      go_wp2_with (rw [HWZ.out])
      refine (HRW.out _).mono ?_
      rintro e w8 ⟨rfl, rfl⟩
      rw [show iv 0 = .int .i64 0 from rfl]
      go_wp2
      go_ret
      exact ⟨rfl, hBz⟩
    obtain ⟨rfl, rfl, rfl⟩ := hyes h0
    clear hno hyes
    obtain ⟨l, ix, wd, rfl, rfl, hwd, hl3, hi16, hwd0, hwd4, hww, hbd⟩ := wid_pos hm64 h0
    rw [hwd] at HRW hla hca ⊢
    have HCG := Lib.hid (show ∀ j, j < wd → (cutA L l ix).getD j ByteArray.empty = hashT L l (4 * ix + j) from fun j hj => by
      unfold cutA
      rw [Int.toNat_natCast, Int.toNat_natCast, HLL.out, hwd]
      exact cutL_get _ _ _ _ _ hj)
    have hzA := sz_cutA L hzl l ix (by rw [HLL.out]; exact hm64)
    have HHS := Lib.hid (show ∀ j, j < wd → ∀ W, Strs W ol L → Calls Try.prog 20 #[.slice ol m capl, .int .i64 (l : Int), .int .i64 (4 * (ix : Int) + (j : Int))] W fun e w' => e = .returned (.string (hashT L l (4 * ix + j))) ∧ Below W.heap.size W w' from fun j hj W hW => by
      have := rhash_any ol m capl L HLL.out hm64 hcl hzl l (4 * ix + j) hl3 (Nat.le_trans (Nat.mul_le_mul_right _ (show 4 * ix + j + 1 ≤ 4 * ix + wd by omega)) hbd) W hW
      rw [show ((4 * ix + j : Nat) : Int) = 4 * (ix : Int) + (j : Int) by omega] at this
      exact this)
    have HUP := Lib.hid (show wd = 4 → l ≤ 2 ∧ rootM (cutA L l ix) = hashT L (l + 1) ix ∧ ix % 4 < widT m ((l + 1 : Nat) : Int) ((ix / 4 : Nat) : Int) from fun h4 => by
      rw [h4] at hbd
      obtain ⟨h1, h2, h3⟩ := wid_above hm64 hl3 hbd
      refine ⟨h1, ?_, h2⟩
      unfold cutA
      rw [Int.toNat_natCast, Int.toNat_natCast, HLL.out, hwd, h4]
      exact cut_up L l ix h1 (by rw [HLL.out]; exact h3))
    have HCB := Lib.hid (fun W hW => cut_any ol m capl L HLL.out hm64 hcl hzl ((l + 1 : Nat) : Int) ((ix / 4 : Nat) : Int) (by omega) W hW)
    have HRB := Lib.hid (fun W e w' (h : RC L ((l + 1 : Nat) : Int) ((ix / 4 : Nat) : Int) W e w') => rc_form h)
    rw [HLL.out] at HRB
    have HCH := Lib.hid (show ix % 4 < widT m ((l + 1 : Nat) : Int) ((ix / 4 : Nat) : Int) → (cutA L ((l + 1 : Nat) : Int) ((ix / 4 : Nat) : Int)).getD (ix % 4) ByteArray.empty = hashT L (l + 1) ix from fun h => by
      unfold cutA
      rw [Int.toNat_natCast, Int.toNat_natCast, HLL.out, cutL_get _ _ _ _ _ h, show 4 * (ix / 4) + ix % 4 = ix by omega])
    have HLB := Lib.hid (show (cutA L ((l + 1 : Nat) : Int) ((ix / 4 : Nat) : Int)).length = widT m ((l + 1 : Nat) : Int) ((ix / 4 : Nat) : Int) by rw [cutA_length, HLL.out])
    generalize RC L ((l + 1 : Nat) : Int) ((ix / 4 : Nat) : Int) = PB at *
    generalize widT m ((l + 1 : Nat) : Int) ((ix / 4 : Nat) : Int) = nb at *
    generalize cutA L ((l + 1 : Nat) : Int) ((ix / 4 : Nat) : Int) = LB at *
    rw [HLB.out] at HRB
    generalize cutA L l ix = LA at *
    rw [show ((l + 1 : Nat) : Int) = (l : Int) + 1 by omega, show ((ix / 4 : Nat) : Int) = (ix : Int) / 4 by omega] at HCB HRB
    obtain ⟨wz, hwz⟩ : ∃ wz, w7.alloc (.cells #[.int .i64 (l : Int), .int .i64 (ix : Int), .slice ova wd cva] 40) = wz := ⟨_, rfl⟩
    obtain ⟨gm, hgm⟩ : ∃ gm, w7.heap.size = gm := ⟨_, rfl⟩
    have hbz : Below w7.heap.size w7 wz := by rw [← hwz]; exact (Below.refl _ _).alloc (Nat.le_refl _) _
    have hZ : Blk wz gm 40 #[.int .i64 (l : Int), .int .i64 (ix : Int), .slice ova wd cva] := by rw [← hwz, ← hgm]; exact Blk.new _ _ _
    have ra := ld_sl7 (hZ.cell 2)
    have rd := ld_id_in hZ
    have hBz := hB7.trans (hbz.mono hB7.size)
    have hTz := hT7.below hbz hT7.lt
    have hsz7 := hs7.below hbz
    have hsaz := hsa.below hbz
    have HWZ := Lib.hid hwz
    have HLA := Lib.hid hla
    have hwd1 : ((wd : Int) == 0) = false := by rw [beq_eq_false_iff_ne]; omega
    clear hwz hs6 hs7 hT6 hT7 hla h0 hwd hww hbd hsa hbz hB6 hB7 hzl
    go_wp2_with (rw [HWZ.out])
    refine (HRW.out _).mono ?_
    rintro e w8 ⟨rfl, rfl⟩
    clear HRW HWZ
    go_wp2_with fail
    go_loopw [12] (fun v wr => ∃ i : Nat, v = .int .i64 (i : Int) ∧ i ≤ wd ∧ Below w8.heap.size w8 wr) (fun v _ => wd - (intOf v).toNat)
    case atStart => exact ⟨0, rfl, by omega, Below.refl _ _⟩
    case round =>
      obtain ⟨i, rfl, hin, hbr⟩ := hrel
      clear ra rd
      by_cases hlt : i < wd
      · obtain ⟨aa, rfl, hab, hcell⟩ := hsaz i (by rw [HLA.out]; exact hlt)
        rw [HCG.out i hlt] at hcell
        have HH := Lib.hid (HHS.out i hlt)
        generalize hashT L l (4 * ix + i) = X at *
        have hZr := hZ.below hbr hZ.lt
        have HKP := Lib.hid (show ∀ W, Below wr.heap.size wr W → ((loadVar 30 ⟨gm, 2, none⟩).run Try.prog W = .ok (.slice (some aa) wd cva) W ∧ (loadVar 9 (aa.add i)).run Try.prog W = .ok (.string X) W) ∧ Below wr.heap.size wr W from fun W hW => ⟨⟨ld_sl7 ((hZr.below hW hZr.lt).cell 2), txt_load ((hW.cell (by rw [add_block]; exact Nat.lt_of_lt_of_le hab hbr.size)).trans ((hbr.cell (by rw [add_block]; exact hab)).trans hcell))⟩, hW⟩)
        have hsr := hsz7.below hbr
        have hw1 : IntKind.i64.wrap (4 * (ix : Int)) = 4 * (ix : Int) := by rw [IntKind.wrap_i64]; omega
        have hw2 : IntKind.i64.wrap (4 * (ix : Int) + (i : Int)) = 4 * (ix : Int) + (i : Int) := by rw [IntKind.wrap_i64]; omega
        have hw3 : wrap64 (4 * (ix : Int)) = 4 * (ix : Int) := by unfold wrap64; omega
        have hw4 : wrap64 (4 * (ix : Int) + (i : Int)) = 4 * (ix : Int) + (i : Int) := by unfold wrap64; omega
        go_wp2_with fail
        refine wp_region_held_drew (S := fun W => ((loadVar 30 ⟨gm, 2, none⟩).run Try.prog W = .ok (.slice (some aa) wd cva) W ∧ (loadVar 9 (aa.add i)).run Try.prog W = .ok (.string X) W) ∧ Below wr.heap.size wr W) (by kernel_rfl) ?_ (fun hHeld0 => ?_)
        · (refine HKP.out _ ?_; first | exact hb9 | exact (Below.refl _ _).drew | exact Below.refl _ _)
        apply takeH (i := 0) rfl (by kernel_rfl) (by kernel_rfl) (by kernel_rfl) (fun _ _ _ h => h) (by rfl)
        case hy => (intro w hSw; (try dsimp only at hSw); go_simp; try with_reducible rfl)
        case hS => assumption
        (try simp only [Act.put, List.setIfInBounds_toArray, List.set_cons_zero, List.set_cons_succ])
        apply takeH (i := 1) rfl (by kernel_rfl) (by kernel_rfl) (by kernel_rfl) (fun _ _ _ h => h) (by rfl)
        case hy => (intro w hSw; (try dsimp only at hSw); go_simp; try with_reducible rfl)
        case hS => assumption
        (try simp only [Act.put, List.setIfInBounds_toArray, List.set_cons_zero, List.set_cons_succ])
        apply takeH (i := 2) rfl (by kernel_rfl) (by kernel_rfl) (by kernel_rfl) (fun _ _ _ h => h) (by rfl)
        case hy => (intro w hSw; (try dsimp only at hSw); go_simp; try with_reducible rfl)
        case hS => assumption
        (try simp only [Act.put, List.setIfInBounds_toArray, List.set_cons_zero, List.set_cons_succ])
        apply takeH (i := 3) rfl (by kernel_rfl) (by kernel_rfl) (by kernel_rfl) (fun _ _ _ h => h) (by rfl)
        case hy => (intro w hSw; (try dsimp only at hSw); go_simp; try with_reducible rfl)
        case hS => assumption
        (try simp only [Act.put, List.setIfInBounds_toArray, List.set_cons_zero, List.set_cons_succ])
        apply takeH (i := 4) rfl (by kernel_rfl) (by kernel_rfl) (by kernel_rfl) (fun _ _ _ h => h) (by rfl)
        case hy => (intro w hSw; (try dsimp only at hSw); go_simp; try with_reducible rfl)
        case hS => assumption
        (try simp only [Act.put, List.setIfInBounds_toArray, List.set_cons_zero, List.set_cons_succ])
        apply takeH (i := 5) rfl (by kernel_rfl) (by kernel_rfl) (by kernel_rfl) (fun _ _ _ h => h) (by rfl)
        case hy => (intro w hSw; (try dsimp only at hSw); go_simp; try with_reducible rfl)
        case hS => assumption
        (try simp only [Act.put, List.setIfInBounds_toArray, List.set_cons_zero, List.set_cons_succ])
        apply takeH (i := 6) rfl (by kernel_rfl) (by kernel_rfl) (by kernel_rfl) (fun _ _ _ h => h) (by rfl)
        case hy => (intro w hSw; (try dsimp only at hSw); go_simp; try with_reducible rfl)
        case hS => assumption
        (try simp only [Act.put, List.setIfInBounds_toArray, List.set_cons_zero, List.set_cons_succ])
        apply takeH (i := 7) rfl (by kernel_rfl) (by kernel_rfl) (by kernel_rfl) (fun _ _ _ h => h) (by rfl)
        case hy => (intro w hSw; (try dsimp only at hSw); go_simp; try with_reducible rfl)
        case hS => assumption
        (try simp only [Act.put, List.setIfInBounds_toArray, List.set_cons_zero, List.set_cons_succ])
        apply takeH (i := 8) rfl (by kernel_rfl) (by kernel_rfl) (by kernel_rfl) (fun _ _ _ h => h) (by rfl)
        case hy => (intro w hSw; (try dsimp only at hSw); go_simp; try with_reducible rfl)
        case hS => assumption
        (try simp only [Act.put, List.setIfInBounds_toArray, List.set_cons_zero, List.set_cons_succ])
        apply takeH (i := 9) rfl (by kernel_rfl) (by kernel_rfl) (by kernel_rfl) (fun _ _ _ h => h) (by rfl)
        case hy => (intro w hSw; (try dsimp only at hSw); go_simp; try with_reducible rfl)
        case hS => assumption
        (try simp only [Act.put, List.setIfInBounds_toArray, List.set_cons_zero, List.set_cons_succ])
        apply takeH (i := 10) rfl (by kernel_rfl) (by kernel_rfl) (by kernel_rfl) (fun _ _ _ h => h) (by rfl)
        case hy => (intro w hSw; (try dsimp only at hSw); go_simp; try with_reducible rfl)
        case hS => assumption
        (try simp only [Act.put, List.setIfInBounds_toArray, List.set_cons_zero, List.set_cons_succ])
        refine doH (i := 11) rfl (by kernel_rfl) (by rfl) (fun K hK => ?_)
        go_simp
        refine (HH.out _ (hsr.below hHeld0.2)).mono ?_
        rintro e w9 ⟨rfl, hb9'⟩
        have hb9 : Below wr.heap.size wr w9 := hHeld0.2.trans (hb9'.mono hHeld0.2.size)
        go_wp2_with fail
        refine hK.out _ _ ?_ (fun hHeld11 => ?_)
        · (refine HKP.out _ ?_; first | exact hb9 | exact (Below.refl _ _).drew | exact Below.refl _ _)
        clear hK K
        (try simp only [Act.put, List.setIfInBounds_toArray, List.set_cons_zero, List.set_cons_succ])
        apply takeH (i := 12) rfl (by kernel_rfl) (by kernel_rfl) (by kernel_rfl) (fun _ _ _ h => h) (by rfl)
        case hy => (intro w hSw; (try dsimp only at hSw); go_simp; try with_reducible rfl)
        case hS => assumption
        (try simp only [Act.put, List.setIfInBounds_toArray, List.set_cons_zero, List.set_cons_succ])
        refine wpAnyH_done (by kernel_rfl) ?_ _
        clear hHeld0 hHeld11 HKP hw1 hw2 hw3 hw4 hcell HH hsr hZr HHS HCG HUP HCB HRB HCH HLB HLA hsaz hsz7 hTz hZ
        go_wp2
        go_roundw
        case rel => exact ⟨i + 1, by go_num, by omega, hbr.trans (hb9.mono hbr.size)⟩
        case measure => simp [intOf]; omega
      · have hZr := hZ.below hbr hZ.lt
        have hTr := hTz.below hbr hTz.lt
        have hsr := hsz7.below hbr
        have hsar := hsaz.below hbr
        have hBr := hBz.trans (hbr.mono hBz.size)
        have rt := tab_run hTr
        have rz := ld_tile hZr
        clear hZ hTz hsz7 hsaz hBz hbr HHS HCG
        by_cases h4 : wd = 4
        · obtain ⟨hl2, hroot, hnb⟩ := HUP.out h4
          subst h4
          have HU := Lib.hid (up_full (l : Int) (ix : Int) ova cva hca LA HLA.out hzA wr hsar)
          have HX := Lib.hid (HCH.out hnb)
          rw [hroot] at HU
          generalize hashT L (l + 1) ix = X at *
          clear HUP HCH
          go_wp2_with fail
          refine HU.out.mono ?_
          rintro e w9 ⟨rfl, hb9⟩
          have hT9 := hTr.below hb9 hTr.lt
          have hs9 := hsr.below hb9
          have hB9 := hBr.trans (hb9.mono hBr.size)
          have rt9 := tab_run hT9
          clear rt rz HU
          obtain ⟨r, hr⟩ : ∃ r, ix % 4 = r := ⟨_, rfl⟩
          have hr2 : (ix : Int) % 4 = (r : Int) := by omega
          rw [hr] at hnb HX
          have hr4 : r < 4 := by omega
          clear hr
          go_wp2_with fail
          refine (HCB.out _ hs9).mono ?_
          intro e w10 hq
          obtain ⟨xb, yb, eb, ovb, cvb, rfl, hsb, hcb, hb10, _, hyb⟩ := HRB.out _ _ _ hq
          obtain ⟨rfl, rfl, rfl⟩ := hyb (by omega)
          clear hq HCB HRB hyb rt9
          obtain ⟨wy, hwy⟩ : ∃ wy, w10.alloc (.cells #[.int .i64 ((l : Int) + 1), .int .i64 ((ix : Int) / 4), .slice ovb nb cvb] 40) = wy := ⟨_, rfl⟩
          obtain ⟨gy, hgy⟩ : ∃ gy, w10.heap.size = gy := ⟨_, rfl⟩
          have hby : Below w10.heap.size w10 wy := by rw [← hwy]; exact (Below.refl _ _).alloc (Nat.le_refl _) _
          have hY : Blk wy gy 40 #[.int .i64 ((l : Int) + 1), .int .i64 ((ix : Int) / 4), .slice ovb nb cvb] := by rw [← hwy, ← hgy]; exact Blk.new _ _ _
          have ry := ld_sl7 (hY.cell 2)
          have hB10 := hB9.trans (hb10.mono hB9.size)
          have hBy := hB10.trans (hby.mono hB10.size)
          obtain ⟨ab, rfl, hbb, hcell⟩ := (hsb.below hby) r (by rw [HLB.out]; exact hnb)
          rw [HX.out] at hcell
          have rx := txt_load hcell
          have HWY := Lib.hid hwy
          have hnb2 : (r : Int) < (nb : Int) := by omega
          clear hwy hcell hsb
          go_wp2_with (rw [HWY.out])
          go_ret
          exact ⟨rfl, hBy⟩
        · have HU := Lib.hid (up_few (l : Int) (ix : Int) ova wd cva h4 (by omega) wr)
          have hw4 : (wd : Int) < 4 := by omega
          clear HUP HCH HCB HRB
          go_wp2_with fail
          refine HU.out.mono ?_
          rintro e w9 ⟨rfl, hb9⟩
          have hB9 := hBr.trans (hb9.mono hBr.size)
          clear rt rz HU
          go_wp2
          go_ret
          exact ⟨rfl, hB9⟩
  · rw [Bool.not_eq_true] at hfew
    rw [hfew]
    go_wp2_with fail
    refine (HA.out _).mono ?_
    rintro e w4 ⟨rfl, hb4⟩
    go_wp2
    go_ret
    exact ⟨rfl, hB3.trans (hb4.mono hB3.size)⟩
end
end Go.Proofs.Ytpapmcdnaplmkaa

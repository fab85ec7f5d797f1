/-
  The walk of the law TileSame.
-/
import Derived.Test.YtpapmcdnaplmkaaTTile
namespace Go.Proofs.Ytpapmcdnaplmkaa
open Go.RowKit

theorem spot_none7 {W : World} {a : Addr} {u : Value} (h : W.cell? a = some u) : a = ⟨a.block, a.off, none⟩ := by
  obtain ⟨b, o, s⟩ := a
  cases s with
  | none => rfl
  | some x =>
    unfold World.cell? at h
    split at h <;> simp at h
def noStr : Value → Bool
  | .string _ => false
  | _ => true
/-- a store into a block that holds no text leaves texts -/
theorem strs_far {w : World} {oa : Option Addr} {ss : List ByteArray} (h : Strs w oa ss) {g : Nat} {t : TypeId} {cs : Array Value} (hg : Blk w g t cs) (hcs : cs.toList.all noStr = true) {p : Addr} (hp : p.block = g) (u : Value) : Strs (w.setCell p u) oa ss := by
  intro i hi
  obtain ⟨a, rfl, hab, hc⟩ := h i hi
  refine ⟨a, rfl, by simpa using hab, ?_⟩
  have hne : (a.add i).block ≠ p.block := fun e => by
    have e1 := spot_none7 hc
    rw [e, hp] at e1
    rw [e1, hg.cell] at hc
    have hm := List.all_eq_true.1 hcs _ (List.mem_of_getElem? (by rw [Array.getElem?_toList]; exact hc))
    cases hm
  rw [← hc]
  exact World.cell?_of_block (Below.heap_setCell w p u _ hne)
section
attribute [-go_sem] loadVar
set_option maxRecDepth 100000 in
set_option maxHeartbeats 8000000 in
theorem law_same7 (oa : Option Addr) (m cap : Nat) (ss : List ByteArray) (hm : ss.length = m) (hm2 : m ≤ 9223372036854775807) (hsz : ∀ s ∈ ss, s.size ≤ 9223372036854775807) (_hcap : m ≤ cap) (n : Int) (hn : 0 ≤ n ∧ n ≤ 255) (lev idx : Int) (hli : (-9223372036854775808 ≤ lev ∧ lev ≤ 9223372036854775807) ∧ (-9223372036854775808 ≤ idx ∧ idx ≤ 9223372036854775807)) (w : World) (hc : Strs w oa ss) :
    Calls Try.prog 4 #[.slice oa m cap, .int .u8 n, .agg #[.int .i64 lev, .int .i64 idx]] w fun e w' => e = .returned (.bool true) ∧ Below w.heap.size w w' := by
  have HA := Lib.hid (fun W => awake7_any W)
  have HMK := Lib.hid (fun W => make_std W)
  have HF : Hid (∀ W, Strs W oa ss → Calls Try.prog 12 #[.slice oa m cap, .int .i64 64, .int .i64 40] W fun e w' => e = .returned (.bool (fewM ss 64 40)) ∧ w' = W) := Lib.hid (fun W hW => few_any oa m cap ss hm hm2 hsz 64 40 W hW)
  have HFT := Lib.hid (show fewM ss 64 40 = true → m ≤ 64 ∧ Sz ss from fun h => by rw [← hm]; exact few_sz7 (by decide) (by decide) h)
  have HM := Lib.hid hm
  obtain ⟨B, hB⟩ : ∃ B, w.heap.size = B := ⟨_, rfl⟩
  obtain ⟨w0, hw0⟩ : ∃ w0, w.alloc (.cells #[.int .i64 lev, .int .i64 idx] 26) = w0 := ⟨_, rfl⟩
  have hD0 : Blk w0 B 26 #[.int .i64 lev, .int .i64 idx] := by rw [← hw0, ← hB]; exact Blk.new _ _ _
  have hB0 : Below w.heap.size w w0 := by rw [← hw0]; exact (Below.refl _ w).alloc (Nat.le_refl _) _
  have HC := Lib.hid (hc.below hB0)
  have HW0 := Lib.hid hw0
  have z1 := zeroTable
  clear hsz hc hm hw0
  go_enter Try.func4, Try.ntmps4
  go_wp2_with (rw [HW0.out])
  refine (HA.out _).mono ?_
  rintro e w3 ⟨rfl, hb3⟩
  have hc3 := HC.out.below hb3
  have hD3 := hD0.below hb3 hD0.lt
  have hB3 := hB0.trans (hb3.mono hB0.size)
  clear HC HW0 hb3 hD0 hB0
  go_wp2_with fail
  refine (HF.out _ hc3).mono ?_
  rintro e w' ⟨rfl, hw⟩
  rw [hw]
  clear hw HF
  by_cases hfew : fewM ss 64 40 = true
  · obtain ⟨hm64, hz⟩ := HFT.out hfew
    rw [hfew]
    clear hfew HFT
    by_cases hm0 : m = 0
    · have hm0' : ((m : Int) == 0) = true := by rw [hm0]; rfl
      clear hm0
      go_wp2_with fail
      refine (HA.out _).mono ?_
      rintro e w4 ⟨rfl, hb4⟩
      go_wp2
      go_ret
      exact ⟨rfl, hB3.trans (hb4.mono hB3.size)⟩
    have hm0' : ((m : Int) == 0) = false := by rw [beq_eq_false_iff_ne]; omega
    have HLV := Lib.hid (fun W hW => rleaves_any oa m cap ss HM.out (by omega) hz W hW)
    have hzl := sz_leaves7 ss
    have HLL := Lib.hid (show (ss.map leafM).length = m by rw [List.length_map]; exact HM.out)
    generalize ss.map leafM = L at *
    go_wp2_with fail
    refine (HMK.out _).mono ?_
    rintro e w4 ⟨rfl, hb4⟩
    have hc4 := hc3.below hb4
    have hD4 := hD3.below hb4 hD3.lt
    have hB4 := hB3.trans (hb4.mono hB3.size)
    clear hB3 hb4 hc3 hD3
    have hB5 := hB4.alloc hB4.size (.cells tabV 36)
    have hT5 : Blk (w4.alloc (.cells tabV 36)) w4.heap.size 36 tabV := Blk.new _ _ _
    have hD5 := hD4.alloc (.cells tabV 36)
    have hc5 := hc4.below ((Below.refl _ w4).alloc (Nat.le_refl _) (.cells tabV 36))
    go_wp2_with (refine wpList_store_row rfl 36 _ _ rfl w4.heap.size tabV rfl rfl 36 zero72 (Blk.new _ _ _) (by rw [tabV_size]; exact infoTable) (by kernel_rfl) (by kernel_rfl) ?_; rw [World.setRow_alloc_new])
    generalize w4.alloc (.cells tabV 36) = w5 at *
    generalize w4.heap.size = gt at *
    clear hB4 hc4 z1 hD4
    refine (HLV.out _ hc5).mono ?_
    rintro e w6 ⟨v, rfl, hown, hb6⟩
    obtain ⟨ol, capl, hv, hs6, hcl⟩ := own_form7 hown
    rw [HLL.out] at hv hcl
    subst hv
    have hB6 := hB5.trans (hb6.mono hB5.size)
    have hT6 := hT5.below hb6 hT5.lt
    have hD6 := hD5.below hb6 hD5.lt
    obtain ⟨kk, hkk⟩ : ∃ kk : Nat, n % ((m : Int) + 1) = (kk : Int) := ⟨(n % ((m : Int) + 1)).toNat, by have := Int.emod_nonneg n (show (m : Int) + 1 ≠ 0 by omega); omega⟩
    have hkm : kk ≤ m := by
      have := Int.emod_lt_of_pos n (show (0 : Int) < (m : Int) + 1 by omega)
      omega
    have hsl := slice_to ol m capl kk (by omega)
    have HCA := Lib.hid (fun W hW => cut_any ol kk capl (L.take kk) (by rw [List.length_take, HLL.out]; omega) (by omega) (by omega) (hzl.take _) lev idx hli.2 W hW)
    have HCB := Lib.hid (fun W hW => cut_any ol m capl L HLL.out hm64 hcl hzl lev idx hli.2 W hW)
    have HRA := Lib.hid (fun W e w' (h : RC (L.take kk) lev idx W e w') => rc_form h)
    have HRB := Lib.hid (fun W e w' (h : RC L lev idx W e w') => rc_form h)
    obtain ⟨hab, HAB⟩ := cutA_same L kk (by rw [HLL.out]; exact hkm) (by rw [HLL.out]; exact hm64) lev idx
    have hs6k : Strs w6 ol (L.take kk) := hs6.take kk
    have hla : (cutA (L.take kk) lev idx).length ≤ 4 := by rw [cutA_length]; exact wid_le _ _ _
    have hlb : (cutA L lev idx).length ≤ 4 := by rw [cutA_length]; exact wid_le _ _ _
    generalize RC (L.take kk) lev idx = PA at *
    generalize RC L lev idx = PB at *
    generalize widT (L.take kk).length lev idx = wa at *
    generalize widT L.length lev idx = wb at *
    generalize cutA (L.take kk) lev idx = LA at *
    generalize cutA L lev idx = LB at *
    obtain ⟨na, hna⟩ : ∃ na, LA.length = na := ⟨_, rfl⟩
    obtain ⟨nb, hnb⟩ : ∃ nb, LB.length = nb := ⟨_, rfl⟩
    rw [hna] at HRA hab HAB hla
    rw [hnb] at HRB hab hlb
    have HNA := Lib.hid hna
    have HNB := Lib.hid hnb
    clear hna hnb hown hb6 hB5 hT5 hc5 hD5 HLV hzl
    have HKP := Lib.hid (show ∀ W, Below w6.heap.size w6 W → ((loadVar 36 ⟨gt, 0, none⟩).run Try.prog W = .ok (.agg tabV) W ∧ (loadVar 26 ⟨B, 0, none⟩).run Try.prog W = .ok (.agg #[.int .i64 lev, .int .i64 idx]) W) ∧ Below w6.heap.size w6 W from fun W hW => ⟨⟨tab_run (hT6.below hW hT6.lt), ld_id7 (hD6.below hW hD6.lt)⟩, hW⟩)
    go_wp2_with fail
    try rw [hkk]
    refine wp_region_held_drew (S := fun W => ((loadVar 36 ⟨gt, 0, none⟩).run Try.prog W = .ok (.agg tabV) W ∧ (loadVar 26 ⟨B, 0, none⟩).run Try.prog W = .ok (.agg #[.int .i64 lev, .int .i64 idx]) W) ∧ Below w6.heap.size w6 W) (by kernel_rfl) ?_ (fun hHeld0 => ?_)
    · (refine HKP.out _ ?_; first | exact hbE | exact hbD | exact hb7 | exact (Below.refl _ _).drew | exact Below.refl _ _)
    apply takeH (i := 0) rfl (by kernel_rfl) (by kernel_rfl) (by kernel_rfl) (fun _ _ _ h => h) (by rfl)
    case hy => (intro w hSw; (try dsimp only at hSw); go_simp; try with_reducible rfl)
    case hS => assumption
    (try simp only [Act.put, List.setIfInBounds_toArray, List.set_cons_zero, List.set_cons_succ])
    apply takeH (i := 1) rfl (by kernel_rfl) (by kernel_rfl) (by kernel_rfl) (fun _ _ _ h => h) (by rfl)
    case hy => (intro w hSw; (try dsimp only at hSw); go_simp; try with_reducible rfl)
    case hS => assumption
    (try simp only [Act.put, List.setIfInBounds_toArray, List.set_cons_zero, List.set_cons_succ])
    apply takeH (i := 2) rfl (by kernel_rfl) (by kernel_rfl) (by kernel_rfl) (fun _ _ _ h => h) (by rfl)
    case hy => (intro w hSw; (try dsimp only at hSw); go_simp; try with_reducible rfl)
    case hS => assumption
    (try simp only [Act.put, List.setIfInBounds_toArray, List.set_cons_zero, List.set_cons_succ])
    apply takeH (i := 3) rfl (by kernel_rfl) (by kernel_rfl) (by kernel_rfl) (fun _ _ _ h => h) (by rfl)
    case hy => (intro w hSw; (try dsimp only at hSw); go_simp; try with_reducible rfl)
    case hS => assumption
    (try simp only [Act.put, List.setIfInBounds_toArray, List.set_cons_zero, List.set_cons_succ])
    apply takeH (i := 4) rfl (by kernel_rfl) (by kernel_rfl) (by kernel_rfl) (fun _ _ _ h => h) (by rfl)
    case hy => (intro w hSw; (try dsimp only at hSw); go_simp; try with_reducible rfl)
    case hS => assumption
    (try simp only [Act.put, List.setIfInBounds_toArray, List.set_cons_zero, List.set_cons_succ])
    refine doH2 (i := 5) (j := 9) rfl rfl (by kernel_rfl) (by rfl) (by rfl) (fun K hK => ?_) (fun K hK => ?_)
    · go_simp
      refine (HCA.out _ (hs6k.below hHeld0.2)).mono ?_
      intro e w7 hq
      obtain ⟨xa, ya, ea, ova, cva, rfl, hsa, hca, hb7', _, _⟩ := HRA.out _ _ _ hq
      have hb7 : Below w6.heap.size w6 w7 := hHeld0.2.trans (hb7'.mono hHeld0.2.size)
      clear hq HCA
      go_wp2_with fail
      refine hK.out _ _ ?_ (fun hHeld5 => ?_)
      · (refine HKP.out _ ?_; first | exact hbE | exact hbD | exact hb7 | exact (Below.refl _ _).drew | exact Below.refl _ _)
      clear hK K
      (try simp only [Act.put, List.setIfInBounds_toArray, List.set_cons_zero, List.set_cons_succ])
      apply takeH (i := 6) rfl (by kernel_rfl) (by kernel_rfl) (by kernel_rfl) (fun _ _ _ h => h) (by rfl)
      case hy => (intro w hSw; (try dsimp only at hSw); go_simp; try with_reducible rfl)
      case hS => assumption
      (try simp only [Act.put, List.setIfInBounds_toArray, List.set_cons_zero, List.set_cons_succ])
      apply takeH (i := 7) rfl (by kernel_rfl) (by kernel_rfl) (by kernel_rfl) (fun _ _ _ h => h) (by rfl)
      case hy => (intro w hSw; (try dsimp only at hSw); go_simp; try with_reducible rfl)
      case hS => assumption
      (try simp only [Act.put, List.setIfInBounds_toArray, List.set_cons_zero, List.set_cons_succ])
      apply takeH (i := 8) rfl (by kernel_rfl) (by kernel_rfl) (by kernel_rfl) (fun _ _ _ h => h) (by rfl)
      case hy => (intro w hSw; (try dsimp only at hSw); go_simp; try with_reducible rfl)
      case hS => assumption
      (try simp only [Act.put, List.setIfInBounds_toArray, List.set_cons_zero, List.set_cons_succ])
      refine doH (i := 9) rfl (by kernel_rfl) (by rfl) (fun K hK => ?_)
      have hbD := hb7.alloc hb7.size (.cells #[.int .i64 0, .int .i64 0, .slice none 0 0] 40)
      go_simp
      refine hK.out _ _ ?_ (fun hHeld9 => ?_)
      · (refine HKP.out _ ?_; first | exact hbE | exact hbD | exact hb7 | exact (Below.refl _ _).drew | exact Below.refl _ _)
      clear hK K
      (try simp only [Act.put, List.setIfInBounds_toArray, List.set_cons_zero, List.set_cons_succ])
      refine doH (i := 10) rfl (by kernel_rfl) (by rfl) (fun K hK => ?_)
      go_simp
      have hbE := hb7.alloc hb7.size (.cells #[.int .i64 xa, .int .i64 ya, .slice ova na cva] 40)
      have hAE : Blk (w7.alloc (.cells #[.int .i64 xa, .int .i64 ya, .slice ova na cva] 40)) w7.heap.size 40 #[.int .i64 xa, .int .i64 ya, .slice ova na cva] := Blk.new _ _ _
      have hsaE := hsa.below ((Below.refl _ w7).alloc (Nat.le_refl _) (.cells #[.int .i64 xa, .int .i64 ya, .slice ova na cva] 40))
      obtain ⟨wE, hwE⟩ : ∃ wE, w7.alloc (.cells #[.int .i64 xa, .int .i64 ya, .slice ova na cva] 40) = wE := ⟨_, rfl⟩
      obtain ⟨gm, hgm⟩ : ∃ gm, w7.heap.size = gm := ⟨_, rfl⟩
      rw [hwE] at hbE hAE hsaE ⊢
      rw [hgm] at hAE ⊢
      refine hK.out _ _ ?_ (fun hHeld10 => ?_)
      · (refine HKP.out _ ?_; first | exact hbE | exact hbD | exact hb7 | exact (Below.refl _ _).drew | exact Below.refl _ _)
      clear hK K
      (try simp only [Act.put, List.setIfInBounds_toArray, List.set_cons_zero, List.set_cons_succ])
      apply takeH (i := 11) rfl (by kernel_rfl) (by kernel_rfl) (by kernel_rfl) (fun _ _ _ h => h) (by rfl)
      case hy => (intro w hSw; (try dsimp only at hSw); go_simp; try with_reducible rfl)
      case hS => assumption
      (try simp only [Act.put, List.setIfInBounds_toArray, List.set_cons_zero, List.set_cons_succ])
      refine wpAnyH_done (by kernel_rfl) ?_ _
      have hBE := hB6.trans (hbE.mono hB6.size)
      have hTE := hT6.below hbE hT6.lt
      have hDE := hD6.below hbE hD6.lt
      have hsE := hs6.below hbE
      have rT := tab_run hTE
      have rD := ld_id7 hDE
      clear HKP hbE
      go_wp2_with fail
      refine (HCB.out _ hsE).mono ?_
      intro e w8 hq
      obtain ⟨xb, yb, eb, ovb, cvb, rfl, hsb, hcb, hb8, _, _⟩ := HRB.out _ _ _ hq
      clear hq HCB rT rD
      obtain ⟨wz, hwz⟩ : ∃ wz, w8.alloc (.cells #[.int .i64 xb, .int .i64 yb, .slice ovb nb cvb] 40) = wz := ⟨_, rfl⟩
      obtain ⟨gz, hgz⟩ : ∃ gz, w8.heap.size = gz := ⟨_, rfl⟩
      have hbz : Below w8.heap.size w8 wz := by rw [← hwz]; exact (Below.refl _ _).alloc (Nat.le_refl _) _
      have hZz : Blk wz gz 40 #[.int .i64 xb, .int .i64 yb, .slice ovb nb cvb] := by rw [← hwz, ← hgz]; exact Blk.new _ _ _
      have hbz' := hb8.trans (hbz.mono hb8.size)
      have hAz := hAE.below hbz' hAE.lt
      have hsaz := hsaE.below hbz'
      have hsbz := hsb.below hbz
      have hBz := hBE.trans (hbz'.mono hBE.size)
      have HWZ := Lib.hid hwz
      have hgt : ¬ ((nb : Int) < (na : Int)) := by omega
      have ra := ld_sl7 (hAz.cell 2)
      have rb := ld_sl7 (hZz.cell 2)
      clear hwz hb8 hbz hbz' hTE hDE hsE hBE hAE hsaE hsb
      go_wp2_with (rw [HWZ.out])
      go_loopw [14] (fun v wr => ∃ i q : Nat, v = .int .i64 (i : Int) ∧ i ≤ na ∧ wr = wz.drewN q) (fun v _ => na - (intOf v).toNat)
      case atStart => exact ⟨0, 0, rfl, by omega, rfl⟩
      case round =>
        obtain ⟨i, q, rfl, hin, hwr⟩ := hrel
        have HWR := Lib.hid hwr
        have ra' : (loadVar 30 ⟨gm, 2, none⟩).run Try.prog wr = .ok (.slice ova na cva) wr := by rw [hwr]; exact ld_sl7 ((show Blk (wz.drewN q) gm 40 #[.int .i64 xa, .int .i64 ya, .slice ova na cva] from hAz).cell 2)
        by_cases hlt : i < na
        · obtain ⟨aa, rfl, _, hca'⟩ := hsaz i (by rw [HNA.out]; exact hlt)
          obtain ⟨ab, rfl, _, hcb'⟩ := hsbz i (by rw [HNB.out]; omega)
          rw [HAB i hlt] at hca'
          generalize LB.getD i ByteArray.empty = X at *
          have r1 : (loadVar 30 ⟨gm, 2, none⟩).run Try.prog wr.drew = .ok (.slice (some aa) na cva) wr.drew := by rw [hwr]; exact ld_sl7 ((show Blk (wz.drewN q).drew gm 40 #[.int .i64 xa, .int .i64 ya, .slice (some aa) na cva] from hAz).cell 2)
          have r2 : (loadVar 30 ⟨gz, 2, none⟩).run Try.prog wr.drew = .ok (.slice (some ab) nb cvb) wr.drew := by rw [hwr]; exact ld_sl7 ((show Blk (wz.drewN q).drew gz 40 #[.int .i64 xb, .int .i64 yb, .slice (some ab) nb cvb] from hZz).cell 2)
          have r3 : (loadVar 9 (aa.add i)).run Try.prog wr.drew = .ok (.string X) wr.drew := by rw [hwr]; exact txt_load (show (wz.drewN q).drew.cell? (aa.add i) = _ from hca')
          have r4 : (loadVar 9 (ab.add i)).run Try.prog wr.drew = .ok (.string X) wr.drew := by rw [hwr]; exact txt_load (show (wz.drewN q).drew.cell? (ab.add i) = _ from hcb')
          have hib : i < nb := by omega
          clear ra rb hca' hcb' hwr
          go_wp2_with fail
          refine wp_region_held_drew (S := fun W => W = wr.drew) (by kernel_rfl) rfl (fun hHeld0 => ?_)
          apply takeH (i := 0) rfl (by kernel_rfl) (by kernel_rfl) (by kernel_rfl) (fun _ _ _ h => h) (by rfl)
          case hy => (intro w hSw; subst hSw; go_simp; try with_reducible rfl)
          case hS => assumption
          (try simp only [Act.put, List.setIfInBounds_toArray, List.set_cons_zero, List.set_cons_succ])
          apply takeH (i := 1) rfl (by kernel_rfl) (by kernel_rfl) (by kernel_rfl) (fun _ _ _ h => h) (by rfl)
          case hy => (intro w hSw; subst hSw; go_simp; try with_reducible rfl)
          case hS => assumption
          (try simp only [Act.put, List.setIfInBounds_toArray, List.set_cons_zero, List.set_cons_succ])
          apply takeH (i := 2) rfl (by kernel_rfl) (by kernel_rfl) (by kernel_rfl) (fun _ _ _ h => h) (by rfl)
          case hy => (intro w hSw; subst hSw; go_simp; try with_reducible rfl)
          case hS => assumption
          (try simp only [Act.put, List.setIfInBounds_toArray, List.set_cons_zero, List.set_cons_succ])
          apply takeH (i := 3) rfl (by kernel_rfl) (by kernel_rfl) (by kernel_rfl) (fun _ _ _ h => h) (by rfl)
          case hy => (intro w hSw; subst hSw; go_simp; try with_reducible rfl)
          case hS => assumption
          (try simp only [Act.put, List.setIfInBounds_toArray, List.set_cons_zero, List.set_cons_succ])
          apply takeH (i := 4) rfl (by kernel_rfl) (by kernel_rfl) (by kernel_rfl) (fun _ _ _ h => h) (by rfl)
          case hy => (intro w hSw; subst hSw; go_simp; try with_reducible rfl)
          case hS => assumption
          (try simp only [Act.put, List.setIfInBounds_toArray, List.set_cons_zero, List.set_cons_succ])
          apply takeH (i := 5) rfl (by kernel_rfl) (by kernel_rfl) (by kernel_rfl) (fun _ _ _ h => h) (by rfl)
          case hy => (intro w hSw; subst hSw; go_simp; try with_reducible rfl)
          case hS => assumption
          (try simp only [Act.put, List.setIfInBounds_toArray, List.set_cons_zero, List.set_cons_succ])
          apply takeH (i := 6) rfl (by kernel_rfl) (by kernel_rfl) (by kernel_rfl) (fun _ _ _ h => h) (by rfl)
          case hy => (intro w hSw; subst hSw; go_simp; try with_reducible rfl)
          case hS => assumption
          (try simp only [Act.put, List.setIfInBounds_toArray, List.set_cons_zero, List.set_cons_succ])
          apply takeH (i := 7) rfl (by kernel_rfl) (by kernel_rfl) (by kernel_rfl) (fun _ _ _ h => h) (by rfl)
          case hy => (intro w hSw; subst hSw; go_simp; try with_reducible rfl)
          case hS => assumption
          (try simp only [Act.put, List.setIfInBounds_toArray, List.set_cons_zero, List.set_cons_succ])
          apply takeH (i := 8) rfl (by kernel_rfl) (by kernel_rfl) (by kernel_rfl) (fun _ _ _ h => h) (by rfl)
          case hy => (intro w hSw; subst hSw; go_simp; try with_reducible rfl)
          case hS => assumption
          (try simp only [Act.put, List.setIfInBounds_toArray, List.set_cons_zero, List.set_cons_succ])
          apply takeH (i := 9) rfl (by kernel_rfl) (by kernel_rfl) (by kernel_rfl) (fun _ _ _ h => h) (by rfl)
          case hy => (intro w hSw; subst hSw; go_simp; try with_reducible rfl)
          case hS => assumption
          (try simp only [Act.put, List.setIfInBounds_toArray, List.set_cons_zero, List.set_cons_succ])
          apply takeH (i := 10) rfl (by kernel_rfl) (by kernel_rfl) (by kernel_rfl) (fun _ _ _ h => h) (by rfl)
          case hy => (intro w hSw; subst hSw; go_simp; try with_reducible rfl)
          case hS => assumption
          (try simp only [Act.put, List.setIfInBounds_toArray, List.set_cons_zero, List.set_cons_succ])
          refine wpAnyH_done (by kernel_rfl) ?_ _
          clear hHeld0 r1 r2 r3 r4
          go_wp2
          go_roundw
          case rel => exact ⟨i + 1, q + 1, by go_num, by omega, by rw [HWR.out]; rfl⟩
          case measure => simp [intOf]; omega
        · clear hwr
          go_wp2
          go_ret
          exact ⟨rfl, by rw [HWR.out]; exact below_drewN hBz _⟩
    · have hbD : Below w6.heap.size w6 (w6.drew.alloc (.cells #[.int .i64 0, .int .i64 0, .slice none 0 0] 40)) := (Below.refl _ _).drew.alloc (Nat.le_refl _) _
      go_simp
      refine hK.out _ _ ?_ (fun hHeld9 => ?_)
      · (refine HKP.out _ ?_; first | exact hbE | exact hbD | exact hb7 | exact (Below.refl _ _).drew | exact Below.refl _ _)
      clear hK K
      (try simp only [Act.put, List.setIfInBounds_toArray, List.set_cons_zero, List.set_cons_succ])
      refine doH (i := 5) rfl (by kernel_rfl) (by rfl) (fun K hK => ?_)
      go_simp
      refine (HCA.out _ (hs6k.below hHeld9.2)).mono ?_
      intro e w7 hq
      obtain ⟨xa, ya, ea, ova, cva, rfl, hsa, hca, hb7', _, _⟩ := HRA.out _ _ _ hq
      have hb7 : Below w6.heap.size w6 w7 := hHeld9.2.trans (hb7'.mono hHeld9.2.size)
      clear hq HCA
      go_wp2_with fail
      refine hK.out _ _ ?_ (fun hHeld5 => ?_)
      · (refine HKP.out _ ?_; first | exact hbE | exact hbD | exact hb7 | exact (Below.refl _ _).drew | exact Below.refl _ _)
      clear hK K
      (try simp only [Act.put, List.setIfInBounds_toArray, List.set_cons_zero, List.set_cons_succ])
      apply takeH (i := 6) rfl (by kernel_rfl) (by kernel_rfl) (by kernel_rfl) (fun _ _ _ h => h) (by rfl)
      case hy => (intro w hSw; (try dsimp only at hSw); go_simp; try with_reducible rfl)
      case hS => assumption
      (try simp only [Act.put, List.setIfInBounds_toArray, List.set_cons_zero, List.set_cons_succ])
      apply takeH (i := 7) rfl (by kernel_rfl) (by kernel_rfl) (by kernel_rfl) (fun _ _ _ h => h) (by rfl)
      case hy => (intro w hSw; (try dsimp only at hSw); go_simp; try with_reducible rfl)
      case hS => assumption
      (try simp only [Act.put, List.setIfInBounds_toArray, List.set_cons_zero, List.set_cons_succ])
      apply takeH (i := 8) rfl (by kernel_rfl) (by kernel_rfl) (by kernel_rfl) (fun _ _ _ h => h) (by rfl)
      case hy => (intro w hSw; (try dsimp only at hSw); go_simp; try with_reducible rfl)
      case hS => assumption
      (try simp only [Act.put, List.setIfInBounds_toArray, List.set_cons_zero, List.set_cons_succ])
      have hX6 : Blk w7 w6.heap.size 40 #[.int .i64 0, .int .i64 0, .slice none 0 0] := Blk.below (show Blk (w6.drew.alloc (.cells #[.int .i64 0, .int .i64 0, .slice none 0 0] 40)) w6.heap.size 40 #[.int .i64 0, .int .i64 0, .slice none 0 0] from Blk.new w6.drew _ _) hb7' (by simp)
      have c0 : w7.cell? ⟨w6.heap.size, 0, none⟩ = some (.int .i64 0) := hX6.cell 0
      have c1 : w7.cell? ⟨w6.heap.size, 1, none⟩ = some (.int .i64 0) := hX6.cell 1
      have c2 : w7.cell? ⟨w6.heap.size, 2, none⟩ = some (.slice none 0 0) := hX6.cell 2
      have f0 := hX6.frozen 0
      have f1 := hX6.frozen 1
      have f2 := hX6.frozen 2
      refine doH (i := 10) rfl (by kernel_rfl) (by rfl) (fun K hK => ?_)
      go_simp
      have hbE := ((hb7.setCell (p := ⟨w6.heap.size, 0, none⟩) (Nat.le_refl _) (.int .i64 xa)).setCell (p := ⟨w6.heap.size, 1, none⟩) (Nat.le_refl _) (.int .i64 ya)).setCell (p := ⟨w6.heap.size, 2, none⟩) (Nat.le_refl _) (.slice ova na cva)
      have hAE : Blk (((w7.setCell ⟨w6.heap.size, 0, none⟩ (.int .i64 xa)).setCell ⟨w6.heap.size, 1, none⟩ (.int .i64 ya)).setCell ⟨w6.heap.size, 2, none⟩ (.slice ova na cva)) w6.heap.size 40 #[.int .i64 xa, .int .i64 ya, .slice ova na cva] := ((hX6.set_ 0 (.int .i64 xa)).set_ 1 (.int .i64 ya)).set_ 2 (.slice ova na cva)
      have hsaE : Strs (((w7.setCell ⟨w6.heap.size, 0, none⟩ (.int .i64 xa)).setCell ⟨w6.heap.size, 1, none⟩ (.int .i64 ya)).setCell ⟨w6.heap.size, 2, none⟩ (.slice ova na cva)) ova LA := strs_far (strs_far (strs_far hsa hX6 rfl rfl (.int .i64 xa)) (hX6.set_ 0 (.int .i64 xa)) rfl rfl (.int .i64 ya)) ((hX6.set_ 0 (.int .i64 xa)).set_ 1 (.int .i64 ya)) rfl rfl (.slice ova na cva)
      obtain ⟨wE, hwE⟩ : ∃ wE, ((w7.setCell ⟨w6.heap.size, 0, none⟩ (.int .i64 xa)).setCell ⟨w6.heap.size, 1, none⟩ (.int .i64 ya)).setCell ⟨w6.heap.size, 2, none⟩ (.slice ova na cva) = wE := ⟨_, rfl⟩
      obtain ⟨gm, hgm⟩ : ∃ gm, w6.heap.size = gm := ⟨_, rfl⟩
      rw [hwE] at hbE hAE hsaE ⊢
      rw [hgm] at hAE ⊢
      refine hK.out _ _ ?_ (fun hHeld10 => ?_)
      · (refine HKP.out _ ?_; first | exact hbE | exact hbD | exact hb7 | exact (Below.refl _ _).drew | exact Below.refl _ _)
      clear hK K
      (try simp only [Act.put, List.setIfInBounds_toArray, List.set_cons_zero, List.set_cons_succ])
      apply takeH (i := 11) rfl (by kernel_rfl) (by kernel_rfl) (by kernel_rfl) (fun _ _ _ h => h) (by rfl)
      case hy => (intro w hSw; (try dsimp only at hSw); go_simp; try with_reducible rfl)
      case hS => assumption
      (try simp only [Act.put, List.setIfInBounds_toArray, List.set_cons_zero, List.set_cons_succ])
      refine wpAnyH_done (by kernel_rfl) ?_ _
      have hBE := hB6.trans (hbE.mono hB6.size)
      have hTE := hT6.below hbE hT6.lt
      have hDE := hD6.below hbE hD6.lt
      have hsE := hs6.below hbE
      have rT := tab_run hTE
      have rD := ld_id7 hDE
      clear HKP hbE
      go_wp2_with fail
      refine (HCB.out _ hsE).mono ?_
      intro e w8 hq
      obtain ⟨xb, yb, eb, ovb, cvb, rfl, hsb, hcb, hb8, _, _⟩ := HRB.out _ _ _ hq
      clear hq HCB rT rD
      obtain ⟨wz, hwz⟩ : ∃ wz, w8.alloc (.cells #[.int .i64 xb, .int .i64 yb, .slice ovb nb cvb] 40) = wz := ⟨_, rfl⟩
      obtain ⟨gz, hgz⟩ : ∃ gz, w8.heap.size = gz := ⟨_, rfl⟩
      have hbz : Below w8.heap.size w8 wz := by rw [← hwz]; exact (Below.refl _ _).alloc (Nat.le_refl _) _
      have hZz : Blk wz gz 40 #[.int .i64 xb, .int .i64 yb, .slice ovb nb cvb] := by rw [← hwz, ← hgz]; exact Blk.new _ _ _
      have hbz' := hb8.trans (hbz.mono hb8.size)
      have hAz := hAE.below hbz' hAE.lt
      have hsaz := hsaE.below hbz'
      have hsbz := hsb.below hbz
      have hBz := hBE.trans (hbz'.mono hBE.size)
      have HWZ := Lib.hid hwz
      have hgt : ¬ ((nb : Int) < (na : Int)) := by omega
      have ra := ld_sl7 (hAz.cell 2)
      have rb := ld_sl7 (hZz.cell 2)
      clear hwz hb8 hbz hbz' hTE hDE hsE hBE hAE hsaE hsb
      go_wp2_with (rw [HWZ.out])
      go_loopw [14] (fun v wr => ∃ i q : Nat, v = .int .i64 (i : Int) ∧ i ≤ na ∧ wr = wz.drewN q) (fun v _ => na - (intOf v).toNat)
      case atStart => exact ⟨0, 0, rfl, by omega, rfl⟩
      case round =>
        obtain ⟨i, q, rfl, hin, hwr⟩ := hrel
        have HWR := Lib.hid hwr
        have ra' : (loadVar 30 ⟨gm, 2, none⟩).run Try.prog wr = .ok (.slice ova na cva) wr := by rw [hwr]; exact ld_sl7 ((show Blk (wz.drewN q) gm 40 #[.int .i64 xa, .int .i64 ya, .slice ova na cva] from hAz).cell 2)
        by_cases hlt : i < na
        · obtain ⟨aa, rfl, _, hca'⟩ := hsaz i (by rw [HNA.out]; exact hlt)
          obtain ⟨ab, rfl, _, hcb'⟩ := hsbz i (by rw [HNB.out]; omega)
          rw [HAB i hlt] at hca'
          generalize LB.getD i ByteArray.empty = X at *
          have r1 : (loadVar 30 ⟨gm, 2, none⟩).run Try.prog wr.drew = .ok (.slice (some aa) na cva) wr.drew := by rw [hwr]; exact ld_sl7 ((show Blk (wz.drewN q).drew gm 40 #[.int .i64 xa, .int .i64 ya, .slice (some aa) na cva] from hAz).cell 2)
          have r2 : (loadVar 30 ⟨gz, 2, none⟩).run Try.prog wr.drew = .ok (.slice (some ab) nb cvb) wr.drew := by rw [hwr]; exact ld_sl7 ((show Blk (wz.drewN q).drew gz 40 #[.int .i64 xb, .int .i64 yb, .slice (some ab) nb cvb] from hZz).cell 2)
          have r3 : (loadVar 9 (aa.add i)).run Try.prog wr.drew = .ok (.string X) wr.drew := by rw [hwr]; exact txt_load (show (wz.drewN q).drew.cell? (aa.add i) = _ from hca')
          have r4 : (loadVar 9 (ab.add i)).run Try.prog wr.drew = .ok (.string X) wr.drew := by rw [hwr]; exact txt_load (show (wz.drewN q).drew.cell? (ab.add i) = _ from hcb')
          have hib : i < nb := by omega
          clear ra rb hca' hcb' hwr
          go_wp2_with fail
          refine wp_region_held_drew (S := fun W => W = wr.drew) (by kernel_rfl) rfl (fun hHeld0 => ?_)
          apply takeH (i := 0) rfl (by kernel_rfl) (by kernel_rfl) (by kernel_rfl) (fun _ _ _ h => h) (by rfl)
          case hy => (intro w hSw; subst hSw; go_simp; try with_reducible rfl)
          case hS => assumption
          (try simp only [Act.put, List.setIfInBounds_toArray, List.set_cons_zero, List.set_cons_succ])
          apply takeH (i := 1) rfl (by kernel_rfl) (by kernel_rfl) (by kernel_rfl) (fun _ _ _ h => h) (by rfl)
          case hy => (intro w hSw; subst hSw; go_simp; try with_reducible rfl)
          case hS => assumption
          (try simp only [Act.put, List.setIfInBounds_toArray, List.set_cons_zero, List.set_cons_succ])
          apply takeH (i := 2) rfl (by kernel_rfl) (by kernel_rfl) (by kernel_rfl) (fun _ _ _ h => h) (by rfl)
          case hy => (intro w hSw; subst hSw; go_simp; try with_reducible rfl)
          case hS => assumption
          (try simp only [Act.put, List.setIfInBounds_toArray, List.set_cons_zero, List.set_cons_succ])
          apply takeH (i := 3) rfl (by kernel_rfl) (by kernel_rfl) (by kernel_rfl) (fun _ _ _ h => h) (by rfl)
          case hy => (intro w hSw; subst hSw; go_simp; try with_reducible rfl)
          case hS => assumption
          (try simp only [Act.put, List.setIfInBounds_toArray, List.set_cons_zero, List.set_cons_succ])
          apply takeH (i := 4) rfl (by kernel_rfl) (by kernel_rfl) (by kernel_rfl) (fun _ _ _ h => h) (by rfl)
          case hy => (intro w hSw; subst hSw; go_simp; try with_reducible rfl)
          case hS => assumption
          (try simp only [Act.put, List.setIfInBounds_toArray, List.set_cons_zero, List.set_cons_succ])
          apply takeH (i := 5) rfl (by kernel_rfl) (by kernel_rfl) (by kernel_rfl) (fun _ _ _ h => h) (by rfl)
          case hy => (intro w hSw; subst hSw; go_simp; try with_reducible rfl)
          case hS => assumption
          (try simp only [Act.put, List.setIfInBounds_toArray, List.set_cons_zero, List.set_cons_succ])
          apply takeH (i := 6) rfl (by kernel_rfl) (by kernel_rfl) (by kernel_rfl) (fun _ _ _ h => h) (by rfl)
          case hy => (intro w hSw; subst hSw; go_simp; try with_reducible rfl)
          case hS => assumption
          (try simp only [Act.put, List.setIfInBounds_toArray, List.set_cons_zero, List.set_cons_succ])
          apply takeH (i := 7) rfl (by kernel_rfl) (by kernel_rfl) (by kernel_rfl) (fun _ _ _ h => h) (by rfl)
          case hy => (intro w hSw; subst hSw; go_simp; try with_reducible rfl)
          case hS => assumption
          (try simp only [Act.put, List.setIfInBounds_toArray, List.set_cons_zero, List.set_cons_succ])
          apply takeH (i := 8) rfl (by kernel_rfl) (by kernel_rfl) (by kernel_rfl) (fun _ _ _ h => h) (by rfl)
          case hy => (intro w hSw; subst hSw; go_simp; try with_reducible rfl)
          case hS => assumption
          (try simp only [Act.put, List.setIfInBounds_toArray, List.set_cons_zero, List.set_cons_succ])
          apply takeH (i := 9) rfl (by kernel_rfl) (by kernel_rfl) (by kernel_rfl) (fun _ _ _ h => h) (by rfl)
          case hy => (intro w hSw; subst hSw; go_simp; try with_reducible rfl)
          case hS => assumption
          (try simp only [Act.put, List.setIfInBounds_toArray, List.set_cons_zero, List.set_cons_succ])
          apply takeH (i := 10) rfl (by kernel_rfl) (by kernel_rfl) (by kernel_rfl) (fun _ _ _ h => h) (by rfl)
          case hy => (intro w hSw; subst hSw; go_simp; try with_reducible rfl)
          case hS => assumption
          (try simp only [Act.put, List.setIfInBounds_toArray, List.set_cons_zero, List.set_cons_succ])
          refine wpAnyH_done (by kernel_rfl) ?_ _
          clear hHeld0 r1 r2 r3 r4
          go_wp2
          go_roundw
          case rel => exact ⟨i + 1, q + 1, by go_num, by omega, by rw [HWR.out]; rfl⟩
          case measure => simp [intOf]; omega
        · clear hwr
          go_wp2
          go_ret
          exact ⟨rfl, by rw [HWR.out]; exact below_drewN hBz _⟩
  · rw [Bool.not_eq_true] at hfew
    rw [hfew]
    go_wp2_with fail
    refine (HA.out _).mono ?_
    rintro e w4 ⟨rfl, hb4⟩
    go_wp2
    go_ret
    exact ⟨rfl, hB3.trans (hb4.mono hB3.size)⟩
end
end Go.Proofs.Ytpapmcdnaplmkaa

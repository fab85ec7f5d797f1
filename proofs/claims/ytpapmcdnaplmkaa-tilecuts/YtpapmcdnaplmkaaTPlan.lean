/-
  Plan: the rows of each level, one ahead of the other.
-/
import Derived.Test.YtpapmcdnaplmkaaTCat
namespace Go.Proofs.Ytpapmcdnaplmkaa
open Go.RowKit Go.Shelf
attribute [local go_sem] Oper.semAt_some

theorem ownD_kept {W W' : World} {B D : Nat} {v : Value} {ps : List (Nat × Nat)} {row : Option Nat} (h : OwnD W B v ps) (hg : W.grownBy W' row) (hr : ∀ r, row = some r → D ≤ r ∧ ∃ o : Obj, W.heap[r]? = some o ∧ o.isCells = false) : OwnD W' B v ps := by
  refine World.ownsRow.kept h hg ?_
  cases hv : v.ownBlock with
  | none => exact .inl rfl
  | some g =>
    refine .inr (fun e => ?_)
    obtain ⟨_, o, ho, hc⟩ := hr g e.symm
    rcases h.2 with ⟨rfl, _⟩ | ⟨g', cap, cur, rfl, _, hk, _⟩
    · cases hv
    · simp [Value.ownBlock] at hv
      subst hv
      rw [ho] at hk
      injection hk with hk
      rw [hk] at hc
      cases hc
theorem ownD_far {w : World} {B : Nat} {v : Value} {ps : List (Nat × Nat)} (h : OwnD w B v ps) {p : Addr} (hp : p.block < B) (u : Value) : OwnD (w.setCell p u) B v ps :=
  World.ownsRow.kept h (row := some p.block) ⟨rfl, rfl, rfl, by simp, fun i _ hne => Below.heap_setCell w p u i (fun e => hne (by rw [e]))⟩ (.inr (fun e => by have := (World.ownsRow.lt h _ e).1; omega))
theorem ld_ids {w : World} {p : Addr} {oa : Option Addr} {n c : Nat} (h : w.cell? p = some (.slice oa n c)) : (loadVar 23 p).run Try.prog w = .ok (.slice oa n c) w := by
  go_simp
theorem planL_len {ps : List (Nat × Nat)} (h : ∀ p ∈ ps, p.2 ≤ 64) : (planL ps).length ≤ 16 * ps.length := by
  have : ∀ (ps acc : List (Nat × Nat)), (∀ p ∈ ps, p.2 ≤ 64) → (ps.foldl (fun acc p => rowT p.1 p.2 ++ acc) acc).length ≤ 16 * ps.length + acc.length := by
    intro ps
    induction ps with
    | nil => intro acc _; simp
    | cons p r ih =>
      intro acc hp
      have h1 := ih (rowT p.1 p.2 ++ acc) (fun q hq => hp q (by simp [hq]))
      have h2 : (rowT p.1 p.2).length ≤ 16 := by
        have := hp p (by simp)
        unfold rowT tlT
        rw [List.length_map, List.length_range]
        omega
      rw [List.foldl_cons]
      rw [List.length_append] at h1
      rw [List.length_cons]
      omega
  have h1 := this ps [] h
  unfold planL
  simpa using h1
section
attribute [-go_sem] loadVar
set_option maxRecDepth 100000 in
set_option maxHeartbeats 4000000 in
theorem plan_any (z : Int) (w : World) : Calls Try.prog 8 #[.int .i64 z] w (RD (planT z) w) := by
  obtain ⟨B, hB⟩ : ∃ B, w.heap.size = B := ⟨_, rfl⟩
  have HRD := Lib.hid (show ∀ e w', RD (planT z) w e w' = ∃ v, e = .returned v ∧ OwnD w' w.heap.size v (planL (lvl z)) ∧ Below w.heap.size w w' from fun _ _ => rfl)
  generalize RD (planT z) w = PO at *
  have hbd := fun p (hp : p ∈ lvl z) => lvl_bound (n := z) hp
  have hll := lvl_len z
  obtain ⟨w0, hw0⟩ : ∃ w0, w.alloc (.cells #[.slice none 0 0] 23) = w0 := ⟨_, rfl⟩
  have hb0 : Below w.heap.size w w0 := by rw [← hw0]; exact (Below.refl _ w).alloc (Nat.le_refl _) _
  have hP0 : Blk w0 B 23 #[.slice none 0 0] := by rw [← hw0, ← hB]; exact Blk.new _ _ _
  have hs0 : w0.heap.size = B + 1 := by rw [← hw0]; simp [hB]
  have HW0 := Lib.hid hw0
  clear hw0
  refine (callsIn_wide (n := 7)).1 ?_
  refine callsIn_of_wp_marks Try.func8 rfl trivial ?_ rfl
  simp only [Try.ntmps8, List.size_toArray, List.length_cons, List.length_nil, Nat.reduceAdd, Nat.reduceSub, Array.replicate_succ, Array.replicate_zero, List.push_toArray, List.append_toArray, List.nil_append, List.cons_append]
  gi_wp2_with (rw [HW0.out])
  refine ⟨trivial, ?_⟩
  refine (levels_in _ _ _).mono ?_
  rintro e w2 ⟨rfl, hw2⟩
  have hP2 : Blk w2 B 23 #[.slice none 0 0] := by rw [← hw2]; exact hP0.alloc _
  have hI2 : Blk w2 (B + 1) 3 #[.int .i64 z] := by rw [← hw2]; exact Blk.new_at hs0.symm
  have hB2 : Below w.heap.size w w2 := by rw [← hw2]; exact hb0.alloc hb0.size _
  have hs2 : w2.heap.size = B + 1 + 1 := by rw [← hw2]; simp [hs0]
  rw [hs0]
  clear hw2 hP0 hb0 HW0
  gi_wp2_with fail
  have HH := levels1_hands (7 - 1) (B + 1) (by omega) z w2 hI2.lt (hI2.cell 0)
  generalize hLV : lvl z = LV at *
  refine range_x (by omega) (gf := 37) (lb := #[.pointer (some ⟨B + 1, 0, none⟩)]) rfl (enters_of Try.func37 (by kernel_rfl) rfl) HH (fun _ => rfl)
    (fun pre W => (∃ v : Value, Blk W B 23 #[v] ∧ OwnD W (B + 1) v (planL pre) ∧ B + 1 + 1 ≤ W.heap.size) ∧ Below w.heap.size w W)
    (OwnFrom.and (fun s A B' row hs hg hr => by
      obtain ⟨v, h1, h2, h7⟩ := hs
      exact ⟨v, h1.grown hg (fun e => by have := (hr _ e.symm).1; omega), ownD_kept h2 hg hr, Nat.le_trans h7 hg.size⟩) (ownFrom_below (Nat.le_refl _) (by omega)))
    ⟨⟨.slice none 0 0, hP2, ownD_nil _ _, by omega⟩, hB2⟩
    (fun x => { tmps := #[.int .i64 z, undef, .slice none 0 0, .pointer (some ⟨B, 0, none⟩), iv x.1, iv x.2, .int .i64 z, .func (.func 37) #[] #[.pointer (some ⟨B + 1, 0, none⟩)], iv x.1, iv x.2, undef, undef, undef, undef, undef, undef, undef], defers := [] }) ?assign ?body ?done
  case assign =>
    intro l x W K hK
    gi_wp2
    exact hK
  case body =>
    rintro l pre x rest W hx ⟨⟨v, hP, hown, hsz⟩, hBW⟩
    clear hP2 hI2 hB2 HH
    have hxb : x.1 ≤ 3 ∧ x.2 ≤ 64 ∧ 0 < x.2 := hbd x (by rw [hx]; simp)
    have hpl : (planL pre).length ≤ 64 := by
      have h1 := planL_len (ps := pre) (fun p hp => (hbd p (by rw [hx]; simp [hp])).2.1)
      have h2 := congrArg List.length hx
      simp at h2
      omega
    have HPS := Lib.hid (planL_snoc pre x)
    obtain ⟨xl, xc⟩ := x
    dsimp only at hxb HPS ⊢
    have hrl : (rowT xl xc).length ≤ 16 ∧ 0 < (rowT xl xc).length := by
      unfold rowT tlT
      rw [List.length_map, List.length_range]
      omega
    have HRO := Lib.hid (fun W => row_any xl xc (by omega) hxb.2.1 W)
    have HRE := Lib.hid (show ∀ W e w', RD (rowT xl xc) W e w' = ∃ v, e = .returned v ∧ OwnD w' W.heap.size v (rowT xl xc) ∧ Below W.heap.size W w' from fun _ _ _ => rfl)
    generalize rowT xl xc = RO at *
    generalize planL pre = PL at *
    generalize planL (pre ++ [(xl, xc)]) = PN at *
    generalize RD RO = RF at *
    clear hx hbd hll
    obtain ⟨ov, cv, rfl, hIds, hcap, hnil, _⟩ := hown.form
    have mixed : Try.prog.follows Departure.mixedOrders = true := by kernel_rfl
    gi_wp2_with fail
    refine region_round (S := fun _ => True) (by kernel_rfl) mixed trivial (fun hHeld0 => ?_)
    apply takeH (i := 0) rfl (by kernel_rfl) (by kernel_rfl) (by kernel_rfl) (fun _ _ _ h => h) (by rfl)
    case hy => (intro w hSw; (try dsimp only at hSw); go_simp; try with_reducible rfl)
    case hS => assumption
    (try simp only [Act.put, List.setIfInBounds_toArray, List.set_cons_zero, List.set_cons_succ])
    apply takeH (i := 1) rfl (by kernel_rfl) (by kernel_rfl) (by kernel_rfl) (fun _ _ _ h => h) (by rfl)
    case hy => (intro w hSw; (try dsimp only at hSw); go_simp; try with_reducible rfl)
    case hS => assumption
    (try simp only [Act.put, List.setIfInBounds_toArray, List.set_cons_zero, List.set_cons_succ])
    have rD : (loadVar 23 ⟨B, 0, none⟩).run Try.prog W.drew = .ok (.slice ov PL.length cv) W.drew := ld_ids ((show Blk W.drew B 23 #[.slice ov PL.length cv] from hP).cell 0)
    refine doH2 (i := 2) (j := 3) rfl rfl (by kernel_rfl) (by rfl) (by rfl) (fun K hK => ?_) (fun K hK => ?_)
    · go_simp
      refine (HRO.out _).mono ?_
      rintro e w1 hq
      rw [HRE.out] at hq
      obtain ⟨v1, rfl, own1, hb1'⟩ := hq
      have hb1 : Below W.heap.size W w1 := (Below.refl _ _).drew.trans hb1'
      have p1 := hP.below hb1 hP.lt
      have hBW1 : Below w.heap.size w w1 := hBW.trans (hb1.mono hBW.size)
      have hsz1 : B + 1 + 1 ≤ w1.heap.size := Nat.le_trans hsz hb1.size
      have ids1 : Ids w1 ov PL := hIds.below hb1
      have own1' : OwnD w1 (B + 1) v1 RO := OwnD.mono own1 (by show B + 1 ≤ W.heap.size; omega)
      obtain ⟨o1, c1, rfl, idsR, hcap1, hnil1, _⟩ := own1.form
      have rP := ld_ids (p1.cell 0)
      clear own1 hb1'
      go_wp2_with fail
      refine hK.out _ _ trivial (fun _ => ?_)
      clear hK K
      (try simp only [Act.put, List.setIfInBounds_toArray, List.set_cons_zero, List.set_cons_succ])
      refine doH (i := 3) rfl (by kernel_rfl) (by rfl) (fun K hK => ?_)
      go_simp
      refine hK.out _ _ trivial (fun _ => ?_)
      clear hK K
      (try simp only [Act.put, List.setIfInBounds_toArray, List.set_cons_zero, List.set_cons_succ])
      refine doH (i := 4) rfl (by kernel_rfl) (by rfl) (fun K hK => ?_)
      have hBlk2 := Blk.new w1 23 #[.slice o1 RO.length c1, .slice ov PL.length cv]
      have hbB : Below w1.heap.size w1 (w1.alloc (.cells #[.slice o1 RO.length c1, .slice ov PL.length cv] 23)) := (Below.refl _ w1).alloc (Nat.le_refl _) _
      have HCO := Lib.hid (concat_ids w1.heap.size o1 ov RO.length c1 PL.length cv RO PL rfl rfl (by omega) (by omega) hnil1 hnil (w1.alloc (.cells #[.slice o1 RO.length c1, .slice ov PL.length cv] 23)) (by simp) (hBlk2.cell 0) (hBlk2.cell 1) (idsR.below hbB) (ids1.below hbB))
      have p2 := p1.alloc (.cells #[.slice o1 RO.length c1, .slice ov PL.length cv] 23)
      have hBW2 := hBW1.trans (hbB.mono hBW1.size)
      have HKB := Lib.hid (KeepsOthers.alloc w1 (.cells #[.slice o1 RO.length c1, .slice ov PL.length cv] 23))
      have hsz2 : B + 1 + 1 ≤ (w1.alloc (.cells #[.slice o1 RO.length c1, .slice ov PL.length cv] 23)).heap.size := Nat.le_trans hsz1 hbB.size
      go_simp
      refine hK.out _ _ trivial (fun _ => ?_)
      clear hK K
      (try simp only [Act.put, List.setIfInBounds_toArray, List.set_cons_zero, List.set_cons_succ])
      refine doH (i := 5) rfl (by kernel_rfl) (by rfl) (fun K hK => ?_)
      go_simp
      generalize hWB : w1.alloc (.cells #[.slice o1 RO.length c1, .slice ov PL.length cv] 23) = wB at *
      refine HCO.out.mono ?_
      rintro e w3 ⟨v3, rfl, own3, hb3⟩
      have p3 := p2.below hb3 p2.lt
      have hBW3 := hBW2.trans (hb3.mono hBW2.size)
      have hsz3 : B + 1 + 1 ≤ w3.heap.size := Nat.le_trans hsz2 hb3.size
      have own3' : OwnD w3 (B + 1) v3 PN := by rw [HPS.out]; exact OwnD.mono own3 (by omega)
      have HK3 := Lib.hid (show KeepsOthers wB w3 from KeepsOthers.of_grownBy (only_of_below (a := wB) hb3 none) (fun _ _ h => by cases h))
      obtain ⟨o3, c3, hv3, _⟩ := own3'.form
      have c3 : w3.cell? ⟨B, 0, none⟩ = some (.slice ov PL.length cv) := p3.cell 0
      have f3 := p3.frozen 0
      clear own3 HCO
      subst hv3
      go_wp2_with fail
      refine hK.out _ _ trivial (fun _ => ?_)
      clear hK K
      (try simp only [Act.put, List.setIfInBounds_toArray, List.set_cons_zero, List.set_cons_succ])
      refine doH (i := 6) rfl (by kernel_rfl) (by rfl) (fun K hK => ?_)
      go_simp
      refine hK.out _ _ trivial (fun _ => ?_)
      clear hK K
      (try simp only [Act.put, List.setIfInBounds_toArray, List.set_cons_zero, List.set_cons_succ])
      refine wpAnyH_done (by kernel_rfl) ?_ _
      simp only [onlyN]
      gi_wp2
      refine ⟨?_, ⟨_, p3.set_ 0 _, ownD_far own3' (p := ⟨B, 0, none⟩) (by show B < B + 1; omega) _, Nat.le_trans hsz3 (KeepsOthers.setCell _ _ _).size⟩, hBW3.setCell (p := ⟨B, 0, none⟩) (by show w.heap.size ≤ B; omega) _⟩
      exact (((KeepsOthers.of_grownBy (only_of_below (a := W) hb1 none) (fun _ _ h => by cases h)).trans HKB.out).trans HK3.out).trans (KeepsOthers.setCell _ _ _)
    · go_simp
      refine hK.out _ _ trivial (fun _ => ?_)
      clear hK K
      (try simp only [Act.put, List.setIfInBounds_toArray, List.set_cons_zero, List.set_cons_succ])
      refine doH (i := 2) rfl (by kernel_rfl) (by rfl) (fun K hK => ?_)
      go_simp
      refine (HRO.out _).mono ?_
      rintro e w1 hq
      rw [HRE.out] at hq
      obtain ⟨v1, rfl, own1, hb1'⟩ := hq
      have hb1 : Below W.heap.size W w1 := (Below.refl _ _).drew.trans hb1'
      have p1 := hP.below hb1 hP.lt
      have hBW1 : Below w.heap.size w w1 := hBW.trans (hb1.mono hBW.size)
      have hsz1 : B + 1 + 1 ≤ w1.heap.size := Nat.le_trans hsz hb1.size
      have ids1 : Ids w1 ov PL := hIds.below hb1
      have own1' : OwnD w1 (B + 1) v1 RO := OwnD.mono own1 (by show B + 1 ≤ W.heap.size; omega)
      obtain ⟨o1, c1, rfl, idsR, hcap1, hnil1, _⟩ := own1.form
      have rP := ld_ids (p1.cell 0)
      clear own1 hb1'
      go_wp2_with fail
      refine hK.out _ _ trivial (fun _ => ?_)
      clear hK K
      (try simp only [Act.put, List.setIfInBounds_toArray, List.set_cons_zero, List.set_cons_succ])
      refine doH (i := 4) rfl (by kernel_rfl) (by rfl) (fun K hK => ?_)
      have hBlk2 := Blk.new w1 23 #[.slice o1 RO.length c1, .slice ov PL.length cv]
      have hbB : Below w1.heap.size w1 (w1.alloc (.cells #[.slice o1 RO.length c1, .slice ov PL.length cv] 23)) := (Below.refl _ w1).alloc (Nat.le_refl _) _
      have HCO := Lib.hid (concat_ids w1.heap.size o1 ov RO.length c1 PL.length cv RO PL rfl rfl (by omega) (by omega) hnil1 hnil (w1.alloc (.cells #[.slice o1 RO.length c1, .slice ov PL.length cv] 23)) (by simp) (hBlk2.cell 0) (hBlk2.cell 1) (idsR.below hbB) (ids1.below hbB))
      have p2 := p1.alloc (.cells #[.slice o1 RO.length c1, .slice ov PL.length cv] 23)
      have hBW2 := hBW1.trans (hbB.mono hBW1.size)
      have HKB := Lib.hid (KeepsOthers.alloc w1 (.cells #[.slice o1 RO.length c1, .slice ov PL.length cv] 23))
      have hsz2 : B + 1 + 1 ≤ (w1.alloc (.cells #[.slice o1 RO.length c1, .slice ov PL.length cv] 23)).heap.size := Nat.le_trans hsz1 hbB.size
      go_simp
      refine hK.out _ _ trivial (fun _ => ?_)
      clear hK K
      (try simp only [Act.put, List.setIfInBounds_toArray, List.set_cons_zero, List.set_cons_succ])
      refine doH (i := 5) rfl (by kernel_rfl) (by rfl) (fun K hK => ?_)
      go_simp
      generalize hWB : w1.alloc (.cells #[.slice o1 RO.length c1, .slice ov PL.length cv] 23) = wB at *
      refine HCO.out.mono ?_
      rintro e w3 ⟨v3, rfl, own3, hb3⟩
      have p3 := p2.below hb3 p2.lt
      have hBW3 := hBW2.trans (hb3.mono hBW2.size)
      have hsz3 : B + 1 + 1 ≤ w3.heap.size := Nat.le_trans hsz2 hb3.size
      have own3' : OwnD w3 (B + 1) v3 PN := by rw [HPS.out]; exact OwnD.mono own3 (by omega)
      have HK3 := Lib.hid (show KeepsOthers wB w3 from KeepsOthers.of_grownBy (only_of_below (a := wB) hb3 none) (fun _ _ h => by cases h))
      obtain ⟨o3, c3, hv3, _⟩ := own3'.form
      have c3 : w3.cell? ⟨B, 0, none⟩ = some (.slice ov PL.length cv) := p3.cell 0
      have f3 := p3.frozen 0
      clear own3 HCO
      subst hv3
      go_wp2_with fail
      refine hK.out _ _ trivial (fun _ => ?_)
      clear hK K
      (try simp only [Act.put, List.setIfInBounds_toArray, List.set_cons_zero, List.set_cons_succ])
      refine doH (i := 6) rfl (by kernel_rfl) (by rfl) (fun K hK => ?_)
      go_simp
      refine hK.out _ _ trivial (fun _ => ?_)
      clear hK K
      (try simp only [Act.put, List.setIfInBounds_toArray, List.set_cons_zero, List.set_cons_succ])
      refine wpAnyH_done (by kernel_rfl) ?_ _
      simp only [onlyN]
      gi_wp2
      refine ⟨?_, ⟨_, p3.set_ 0 _, ownD_far own3' (p := ⟨B, 0, none⟩) (by show B < B + 1; omega) _, Nat.le_trans hsz3 (KeepsOthers.setCell _ _ _).size⟩, hBW3.setCell (p := ⟨B, 0, none⟩) (by show w.heap.size ≤ B; omega) _⟩
      exact (((KeepsOthers.of_grownBy (only_of_below (a := W) hb1 none) (fun _ _ h => by cases h)).trans HKB.out).trans HK3.out).trans (KeepsOthers.setCell _ _ _)
  case done =>
    rintro D W hD ⟨⟨v, hP, hown, _⟩, hBW⟩ hK
    obtain ⟨ov, cv, rfl, _⟩ := hown.form
    have q0 := ld_ids (hP.cell 0)
    gi_wp2
    refine ⟨by simp, .inl ⟨_, _, rfl, run_takeDeferred hK, ?_⟩⟩
    refine ⟨_, results_tmp rfl _ _ _, ?_⟩
    rw [HRD.out]
    exact ⟨_, rfl, World.ownsRow.mono (ownsRow_putObj hown _ hK rfl) (by omega), hBW.trans (belowK_b (w := w) (Nat.le_refl _) _ D _ _ (by omega) hK rfl rfl)⟩
end
end Go.Proofs.Ytpapmcdnaplmkaa

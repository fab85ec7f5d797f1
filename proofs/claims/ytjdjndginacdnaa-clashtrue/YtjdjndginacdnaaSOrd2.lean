/-
  order of two entries; slices.SortFunc of at most 12 entries.
-/
import Derived.Test.YtjdjndginacdnaaSPartSSortSOrd
import Derived.Test.YtjdjndginacdnaaSNil
import Derived.Test.YtjdjndginacdnaaHSumHStepSTree
namespace Go.Proofs.Ytjdjndginacdnaa
open Go.RowKit Go.Shelf Go.Sort

section
attribute [-go_sem] loadVar
set_option maxRecDepth 100000 in
set_option maxHeartbeats 2000000 in
theorem order_any (p1 k1 v1 p2 k2 v2 : ByteArray) (W : World) :
    Calls Try.prog 64 #[.agg #[.string p1, .string k1, .string v1], .agg #[.string p2, .string k2, .string v2]] W fun e w' => e = .returned (.int .i64 (orI (cmpS p1 p2) (cmpS k1 k2))) ∧ ∃ q os', w' = grow (W.drewN q) os' := by
  have HC1 := Lib.hid (compare_any p1 p2)
  have HC2 := Lib.hid (compare_any k1 k2)
  have HO := Lib.hid (fun g w h1 h2 => or_any g (cmpS p1 p2) (cmpS k1 k2) w h1 h2)
  obtain ⟨w0, hw0⟩ : ∃ w0, (W.alloc (.cells #[.string p1, .string k1, .string v1] 116)).alloc (.cells #[.string p2, .string k2, .string v2] 116) = w0 := ⟨_, rfl⟩
  have b0 : Blk w0 W.heap.size 116 #[.string p1, .string k1, .string v1] := by rw [← hw0]; exact (Blk.new _ _ _).alloc _
  have b1 : Blk w0 (W.heap.size + 1) 116 #[.string p2, .string k2, .string v2] := by rw [← hw0]; exact Blk.new_at (by simp)
  have HGR : Hid (∀ w', GR w0 w' → ∃ q os', w' = grow (W.drewN q) os') := Lib.hid fun w' h => by
    obtain ⟨q, os, rfl⟩ := h
    refine ⟨q, #[.cells #[.string p1, .string k1, .string v1] 116] ++ #[.cells #[.string p2, .string k2, .string v2] 116] ++ os, ?_⟩
    rw [← hw0, alloc_eq_grow, alloc_eq_grow, grow_grow]
    show grow (grow (W.drewN q) _) os = _
    rw [grow_grow]
  have HW0 := Lib.hid hw0
  have HKP : Hid (∀ w', GR w0 w' → ((loadVar 9 ⟨W.heap.size, 0, none⟩).run Try.prog w' = .ok (.string p1) w' ∧ (loadVar 9 ⟨W.heap.size, 1, none⟩).run Try.prog w' = .ok (.string k1) w' ∧ (loadVar 9 ⟨W.heap.size + 1, 0, none⟩).run Try.prog w' = .ok (.string p2) w' ∧ (loadVar 9 ⟨W.heap.size + 1, 1, none⟩).run Try.prog w' = .ok (.string k2) w') ∧ GR w0 w') :=
    Lib.hid fun w' h => ⟨⟨txt_load (h.cell (b0.cell 0)), txt_load (h.cell (b0.cell 1)), txt_load (h.cell (b1.cell 0)), txt_load (h.cell (b1.cell 1))⟩, h⟩
  generalize orI (cmpS p1 p2) (cmpS k1 k2) = R at *
  generalize cmpS p1 p2 = c1 at *
  generalize cmpS k1 k2 = c2 at *
  have hc0 := (Blk.new w0.drew 3 #[.int .i64 c1, .int .i64 c2]).cell 0
  have hc1 := (Blk.new w0.drew 3 #[.int .i64 c1, .int .i64 c2]).cell 1
  clear hw0 b0 b1
  go_enter Try.func64, Try.ntmps64
  go_wp2_with (rw [HW0.out])
  refine wp_region_held_drew (S := fun w' => ((loadVar 9 ⟨W.heap.size, 0, none⟩).run Try.prog w' = .ok (.string p1) w' ∧ (loadVar 9 ⟨W.heap.size, 1, none⟩).run Try.prog w' = .ok (.string k1) w' ∧ (loadVar 9 ⟨W.heap.size + 1, 0, none⟩).run Try.prog w' = .ok (.string p2) w' ∧ (loadVar 9 ⟨W.heap.size + 1, 1, none⟩).run Try.prog w' = .ok (.string k2) w') ∧ GR w0 w') (by kernel_rfl) ?_ (fun hHeld0 => ?_)
  · (refine HKP.out _ ?_; first | exact (GR.refl _).drew | exact ((GR.refl _).drew).alloc _ | exact GR.refl _)
  apply takeH (i := 0) rfl (by kernel_rfl) (by kernel_rfl) (by kernel_rfl) (fun _ _ _ h => h) (by rfl)
  case hy => (intro w hSw; (try dsimp only at hSw); go_simp; try with_reducible rfl)
  case hS => assumption
  (try simp only [Act.put, List.setIfInBounds_toArray, List.set_cons_zero, List.set_cons_succ])
  apply takeH (i := 1) rfl (by kernel_rfl) (by kernel_rfl) (by kernel_rfl) (fun _ _ _ h => h) (by rfl)
  case hy => (intro w hSw; (try dsimp only at hSw); go_simp; try with_reducible rfl)
  case hS => assumption
  (try simp only [Act.put, List.setIfInBounds_toArray, List.set_cons_zero, List.set_cons_succ])
  apply takeH (i := 2) rfl (by kernel_rfl) (by kernel_rfl) (by kernel_rfl) (fun _ _ _ h => h) (by rfl)
  case hy => (intro w hSw; (try dsimp only at hSw); go_simp; try with_reducible rfl)
  case hS => assumption
  (try simp only [Act.put, List.setIfInBounds_toArray, List.set_cons_zero, List.set_cons_succ])
  apply takeH (i := 3) rfl (by kernel_rfl) (by kernel_rfl) (by kernel_rfl) (fun _ _ _ h => h) (by rfl)
  case hy => (intro w hSw; (try dsimp only at hSw); go_simp; try with_reducible rfl)
  case hS => assumption
  (try simp only [Act.put, List.setIfInBounds_toArray, List.set_cons_zero, List.set_cons_succ])
  apply takeH (i := 5) rfl (by kernel_rfl) (by kernel_rfl) (by kernel_rfl) (fun _ _ _ h => h) (by rfl)
  case hy => (intro w hSw; (try dsimp only at hSw); go_simp; try with_reducible rfl)
  case hS => assumption
  (try simp only [Act.put, List.setIfInBounds_toArray, List.set_cons_zero, List.set_cons_succ])
  apply takeH (i := 6) rfl (by kernel_rfl) (by kernel_rfl) (by kernel_rfl) (fun _ _ _ h => h) (by rfl)
  case hy => (intro w hSw; (try dsimp only at hSw); go_simp; try with_reducible rfl)
  case hS => assumption
  (try simp only [Act.put, List.setIfInBounds_toArray, List.set_cons_zero, List.set_cons_succ])
  apply takeH (i := 7) rfl (by kernel_rfl) (by kernel_rfl) (by kernel_rfl) (fun _ _ _ h => h) (by rfl)
  case hy => (intro w hSw; (try dsimp only at hSw); go_simp; try with_reducible rfl)
  case hS => assumption
  (try simp only [Act.put, List.setIfInBounds_toArray, List.set_cons_zero, List.set_cons_succ])
  apply takeH (i := 8) rfl (by kernel_rfl) (by kernel_rfl) (by kernel_rfl) (fun _ _ _ h => h) (by rfl)
  case hy => (intro w hSw; (try dsimp only at hSw); go_simp; try with_reducible rfl)
  case hS => assumption
  (try simp only [Act.put, List.setIfInBounds_toArray, List.set_cons_zero, List.set_cons_succ])
  refine doH (i := 4) rfl (by kernel_rfl) (by rfl) (fun K hK => ?_)
  go_simp
  (go_at_call 79; refine (HC1.out _).mono ?_; rintro e y1 ⟨rfl, rfl⟩)
  go_wp2_with fail
  refine hK.out _ _ ?_ (fun hHeld4 => ?_)
  · (refine HKP.out _ ?_; first | exact (GR.refl _).drew | exact ((GR.refl _).drew).alloc _ | exact GR.refl _)
  clear hK K hHeld0
  (try simp only [Act.put, List.setIfInBounds_toArray, List.set_cons_zero, List.set_cons_succ])
  refine doH (i := 9) rfl (by kernel_rfl) (by rfl) (fun K hK => ?_)
  go_simp
  (go_at_call 79; refine (HC2.out _).mono ?_; rintro e y1 ⟨rfl, rfl⟩)
  go_wp2_with fail
  refine hK.out _ _ ?_ (fun hHeld9 => ?_)
  · (refine HKP.out _ ?_; first | exact (GR.refl _).drew | exact ((GR.refl _).drew).alloc _ | exact GR.refl _)
  clear hK K hHeld4
  (try simp only [Act.put, List.setIfInBounds_toArray, List.set_cons_zero, List.set_cons_succ])
  refine doH (i := 10) rfl (by kernel_rfl) (by rfl) (fun K hK => ?_)
  go_simp
  refine hK.out _ _ ?_ (fun hHeld10 => ?_)
  · (refine HKP.out _ ?_; first | exact (GR.refl _).drew | exact ((GR.refl _).drew).alloc _ | exact GR.refl _)
  clear hK K hHeld9
  (try simp only [Act.put, List.setIfInBounds_toArray, List.set_cons_zero, List.set_cons_succ])
  refine doH (i := 11) rfl (by kernel_rfl) (by rfl) (fun K hK => ?_)
  go_simp
  (go_at_call 78; refine (HO.out _ _ hc0 hc1).mono ?_; rintro e y1 ⟨rfl, rfl⟩)
  go_wp2_with fail
  refine hK.out _ _ ?_ (fun hHeld11 => ?_)
  · (refine HKP.out _ ?_; first | exact (GR.refl _).drew | exact ((GR.refl _).drew).alloc _ | exact GR.refl _)
  clear hK K hHeld10
  (try simp only [Act.put, List.setIfInBounds_toArray, List.set_cons_zero, List.set_cons_succ])
  apply takeH (i := 12) rfl (by kernel_rfl) (by kernel_rfl) (by kernel_rfl) (fun _ _ _ h => h) (by rfl)
  case hy => (intro w hSw; (try dsimp only at hSw); go_simp; try with_reducible rfl)
  case hS => assumption
  (try simp only [Act.put, List.setIfInBounds_toArray, List.set_cons_zero, List.set_cons_succ])
  refine wpAnyH_done (by kernel_rfl) ?_ _
  go_wp2
  go_ret
  exact ⟨rfl, HGR.out _ (((GR.refl _).drew).alloc _)⟩
end

/-- a key of a map, with its path and its value -/
def entK (val : ByteArray → ByteArray) (k : ByteArray) : Ent := ⟨pathS k, k, val k⟩
def cfK (x y : ByteArray) : Int := orI (cmpS (pathS x) (pathS y)) (cmpS x y)
def iren : Go.Shelf.Ren := ⟨fun | 20 => 88 | n => n, fun | 0 => 0 | 3 => 3 | 4 => 4 | 22 => 73 | 24 => 116 | 25 => 118 | n => n, fun | n => n⟩
theorem ilays : Go.Proofs.SlLaysF0.n20 Try.prog iren := {
  mixed := by kernel_rfl
  f20 := ⟨Try.f88.name, by decide, Try.func88.trans (congrArg some (by kernel_rfl))⟩
  t0 := Try.underlying0, a0 := Try.isAgg0, z0 := Try.sizeOf0, v0 := Try.zeroValue0
  t3 := Try.underlying3, a3 := Try.isAgg3, z3 := Try.sizeOf3, v3 := Try.zeroValue3
  t4 := Try.underlying4, a4 := Try.isAgg4, z4 := Try.sizeOf4, v4 := Try.zeroValue4
  t22 := Try.underlying73, a22 := Try.isAgg73, z22 := Try.sizeOf73, v22 := Try.zeroValue73
  t25 := Try.underlying118, a25 := Try.isAgg118, z25 := Try.sizeOf118, v25 := Try.zeroValue118 }
/-- the world in which the entries lie so -/
abbrev sortedW (val : ByteArray → ByteArray) (w : World) (g n : Nat) (d : Array ByteArray) (os : Array Obj) : World := sortWorldK (fun k => (entK val k).enc) 3 w g 0 n d os
theorem insert_any (val : ByteArray → ByteArray) (g cap : Nat) (d : Array ByteArray) (w : World) (hH : HoldsK (fun k => (entK val k).enc) 3 w g 0 d) (hg : g < w.heap.size) (h12 : d.size ≤ 12) :
    Calls Try.prog 88 #[.slice (some ⟨g, 0, none⟩) d.size cap, .int .i64 0, .int .i64 d.size, .func (.func 64) #[] #[]] w fun e w' =>
      e = .returned (.tuple #[]) ∧ ∃ n os, w' = sortedW val w g n (Sort.insertionSort (ltOf cfK) d 0 d.size) os := by
  have eg : ∀ args w, (callFunc 64 args).run Try.prog w = .ok (.enter 64 args) w := enters_of Try.func64 (by kernel_rfl) rfl
  have := AnyQ.insertionSortCmpFunc ilays 3 Try.isAgg116 Try.sizeOf116 (fun k => (entK val k).enc) (fun _ => rfl) (fun x v hv => by simp [Ent.enc] at hv; rcases hv with rfl | rfl | rfl <;> rfl) cfK 64 #[] g 0 cap 0 d.size d w eg
    (fun m os dk _ x y => order_any (pathS x) x (val x) (pathS y) y (val y) _) hH hg (Nat.zero_le _) (Nat.le_refl _) (by omega)
  exact this
set_option maxRecDepth 100000 in
set_option maxHeartbeats 1000000 in
theorem sort_any (val : ByteArray → ByteArray) (g cap n : Nat) (d : Array ByteArray) (hn : d.size = n) (w : World) (hH : HoldsK (fun k => (entK val k).enc) 3 w g 0 d) (hg : g < w.heap.size) (h12 : n ≤ 12) :
    Calls Try.prog 63 #[.slice (some ⟨g, 0, none⟩) n cap, .func (.func 64) #[] #[]] w fun e w' =>
      e = .returned (.tuple #[]) ∧ ∃ m os, w' = sortedW val w g m (Sort.insertionSort (ltOf cfK) d 0 n) os := by
  have HI := Lib.hid (insert_any val g cap d w hH hg (by omega))
  rw [hn] at HI
  have HL := Lib.hid (fun W => blen_small n (by omega) W)
  generalize Lib.bitLen n = bl at *
  unfold sortedW at *
  generalize (Sort.insertionSort (ltOf cfK) d 0 n) = dd at *
  have hn12 : ¬ (12 : Int) < (n : Int) := by omega
  have hn12' : (n : Int) ≤ 12 := by omega
  have HP : Hid (Calls Try.prog 76 #[.slice (some ⟨g, 0, none⟩) n cap, .int .i64 0, .int .i64 n, .int .i64 bl, .func (.func 64) #[] #[]] w fun e w' => e = .returned (.tuple #[]) ∧ ∃ m os, w' = sortWorldK (fun k => (entK val k).enc) 3 w g 0 m dd os) := by
    refine Lib.hid ?_
    clear HL hH
    go_enter Try.func76, Try.ntmps76
    go_wp2
    refine wp_loop_rounds 1 ?_
    rw [rounds_succ]
    go_wp2_with fail
    refine HI.out.mono ?_
    rintro e w' ⟨rfl, m, os, hw⟩
    go_wp2
    (try simp only [Exit.inBlock, Exit.then]); refine bodyPost_ret (results_none rfl _ _ _) rfl ?_
    first | exact ⟨rfl, m, os, rfl⟩ | exact ⟨rfl, m, os, hw⟩
  clear HI hH
  go_enter Try.func63, Try.ntmps63
  go_wp2_with fail
  refine (HL.out _).mono ?_
  rintro e w' ⟨rfl, rfl⟩
  go_wp2_with fail
  refine HP.out.mono ?_
  rintro e w' ⟨rfl, m, os, hw⟩
  go_wp2
  go_end0
  first | exact ⟨rfl, m, os, rfl⟩ | exact ⟨rfl, m, os, hw⟩
end Go.Proofs.Ytjdjndginacdnaa

/-
  order of two entries; slices.SortFunc of at most 12 entries.
-/
import Derived.Test.YtjmjkcgldencoaaGreatSPartSSortSOrd
import Derived.Test.YtjmjkcgldencoaaGreatSNilR
import Derived.Test.YtjmjkcgldencoaaGreatHStepSTree
namespace Go.Proofs.YtjmjkcgldencoaaGreat
open Go.RowKit Go.Shelf Go.Sort

section
attribute [-go_sem] loadVar
set_option maxRecDepth 100000 in
set_option maxHeartbeats 2000000 in
theorem order_any (p1 k1 v1 p2 k2 v2 : ByteArray) (W : World) :
    Calls Tryz.prog 79 #[.agg #[.string p1, .string k1, .string v1], .agg #[.string p2, .string k2, .string v2]] W fun e w' => e = .returned (.int .i64 (orI (cmpS p1 p2) (cmpS k1 k2))) ∧ ∃ q os', w' = grow (W.drewN q) os' := by
  have HC1 := Lib.hid (compare_any p1 p2)
  have HC2 := Lib.hid (compare_any k1 k2)
  have HO := Lib.hid (fun g w h1 h2 => or_any g (cmpS p1 p2) (cmpS k1 k2) w h1 h2)
  obtain ⟨w0, hw0⟩ : ∃ w0, (W.alloc (.cells #[.string p1, .string k1, .string v1] 134)).alloc (.cells #[.string p2, .string k2, .string v2] 134) = w0 := ⟨_, rfl⟩
  have b0 : Blk w0 W.heap.size 134 #[.string p1, .string k1, .string v1] := by rw [← hw0]; exact (Blk.new _ _ _).alloc _
  have b1 : Blk w0 (W.heap.size + 1) 134 #[.string p2, .string k2, .string v2] := by rw [← hw0]; exact Blk.new_at (by simp)
  have HGR : Hid (∀ w', GR w0 w' → ∃ q os', w' = grow (W.drewN q) os') := Lib.hid fun w' h => by
    obtain ⟨q, os, rfl⟩ := h
    refine ⟨q, #[.cells #[.string p1, .string k1, .string v1] 134] ++ #[.cells #[.string p2, .string k2, .string v2] 134] ++ os, ?_⟩
    rw [← hw0, alloc_eq_grow, alloc_eq_grow, grow_grow]
    show grow (grow (W.drewN q) _) os = _
    rw [grow_grow]
  have HW0 := Lib.hid hw0
  have HKP : Hid (∀ w', GR w0 w' → ((loadVar 9 ⟨W.heap.size, 0, none⟩).run Tryz.prog w' = .ok (.string p1) w' ∧ (loadVar 9 ⟨W.heap.size, 1, none⟩).run Tryz.prog w' = .ok (.string k1) w' ∧ (loadVar 9 ⟨W.heap.size + 1, 0, none⟩).run Tryz.prog w' = .ok (.string p2) w' ∧ (loadVar 9 ⟨W.heap.size + 1, 1, none⟩).run Tryz.prog w' = .ok (.string k2) w') ∧ GR w0 w') :=
    Lib.hid fun w' h => ⟨⟨txt_load (h.cell (b0.cell 0)), txt_load (h.cell (b0.cell 1)), txt_load (h.cell (b1.cell 0)), txt_load (h.cell (b1.cell 1))⟩, h⟩
  generalize orI (cmpS p1 p2) (cmpS k1 k2) = R at *
  generalize cmpS p1 p2 = c1 at *
  generalize cmpS k1 k2 = c2 at *
  have hc0 := (Blk.new w0.drew 3 #[.int .i64 c1, .int .i64 c2]).cell 0
  have hc1 := (Blk.new w0.drew 3 #[.int .i64 c1, .int .i64 c2]).cell 1
  clear hw0 b0 b1
  go_enter Tryz.func79, Tryz.ntmps79
  go_wp2_with (rw [HW0.out])
  refine wp_region_held_drew (S := fun w' => ((loadVar 9 ⟨W.heap.size, 0, none⟩).run Tryz.prog w' = .ok (.string p1) w' ∧ (loadVar 9 ⟨W.heap.size, 1, none⟩).run Tryz.prog w' = .ok (.string k1) w' ∧ (loadVar 9 ⟨W.heap.size + 1, 0, none⟩).run Tryz.prog w' = .ok (.string p2) w' ∧ (loadVar 9 ⟨W.heap.size + 1, 1, none⟩).run Tryz.prog w' = .ok (.string k2) w') ∧ GR w0 w') (by kernel_rfl) ?_ (fun hHeld0 => ?_)
  · (refine HKP.out _ ?_; first | exact (GR.refl _).drew | exact ((GR.refl _).drew).alloc _ | exact GR.refl _)
  apply takeH (i := 0) rfl (by kernel_rfl) (by kernel_rfl) (by kernel_rfl) (fun _ _ _ h => h) (by rfl)
  case hy => (intro w hSw; (try dsimp only at hSw); go_simp; try with_reducible rfl)
  case hS => assumption
  (try simp only [Act.put, List.setIfInBounds_toArray, List.set_cons_zero, List.set_cons_succ])
  apply takeH (i := 1) rfl (by kernel_rfl) (by kernel_rfl) (by kernel_rfl) (fun _ _ _ h => h) (by rfl)
  case hy => (intro w hSw; (try dsimp only at hSw); go_simp; try with_reducible rfl)
  case hS => assumption
  (try simp only [Act.put, List.setIfInBounds_toArray, List.set_cons_zero, List.set_cons_succ])
  apply takeH (i := 2) rfl (by kernel_rfl) (by kernel_rfl) (by kernel_rfl) (fun _ _ _ h => h) (by rfl)
  case hy => (intro w hSw; (try dsimp only at hSw); go_simp; try with_reducible rfl)
  case hS => assumption
  (try simp only [Act.put, List.setIfInBounds_toArray, List.set_cons_zero, List.set_cons_succ])
  apply takeH (i := 3) rfl (by kernel_rfl) (by kernel_rfl) (by kernel_rfl) (fun _ _ _ h => h) (by rfl)
  case hy => (intro w hSw; (try dsimp only at hSw); go_simp; try with_reducible rfl)
  case hS => assumption
  (try simp only [Act.put, List.setIfInBounds_toArray, List.set_cons_zero, List.set_cons_succ])
  apply takeH (i := 5) rfl (by kernel_rfl) (by kernel_rfl) (by kernel_rfl) (fun _ _ _ h => h) (by rfl)
  case hy => (intro w hSw; (try dsimp only at hSw); go_simp; try with_reducible rfl)
  case hS => assumption
  (try simp only [Act.put, List.setIfInBounds_toArray, List.set_cons_zero, List.set_cons_succ])
  apply takeH (i := 6) rfl (by kernel_rfl) (by kernel_rfl) (by kernel_rfl) (fun _ _ _ h => h) (by rfl)
  case hy => (intro w hSw; (try dsimp only at hSw); go_simp; try with_reducible rfl)
  case hS => assumption
  (try simp only [Act.put, List.setIfInBounds_toArray, List.set_cons_zero, List.set_cons_succ])
  apply takeH (i := 7) rfl (by kernel_rfl) (by kernel_rfl) (by kernel_rfl) (fun _ _ _ h => h) (by rfl)
  case hy => (intro w hSw; (try dsimp only at hSw); go_simp; try with_reducible rfl)
  case hS => assumption
  (try simp only [Act.put, List.setIfInBounds_toArray, List.set_cons_zero, List.set_cons_succ])
  apply takeH (i := 8) rfl (by kernel_rfl) (by kernel_rfl) (by kernel_rfl) (fun _ _ _ h => h) (by rfl)
  case hy => (intro w hSw; (try dsimp only at hSw); go_simp; try with_reducible rfl)
  case hS => assumption
  (try simp only [Act.put, List.setIfInBounds_toArray, List.set_cons_zero, List.set_cons_succ])
  refine doH (i := 4) rfl (by kernel_rfl) (by rfl) (fun K hK => ?_)
  go_simp
  (go_at_call 92; refine (HC1.out _).mono ?_; rintro e y1 ⟨rfl, rfl⟩)
  go_wp2_with fail
  refine hK.out _ _ ?_ (fun hHeld4 => ?_)
  · (refine HKP.out _ ?_; first | exact (GR.refl _).drew | exact ((GR.refl _).drew).alloc _ | exact GR.refl _)
  clear hK K hHeld0
  (try simp only [Act.put, List.setIfInBounds_toArray, List.set_cons_zero, List.set_cons_succ])
  refine doH (i := 9) rfl (by kernel_rfl) (by rfl) (fun K hK => ?_)
  go_simp
  (go_at_call 92; refine (HC2.out _).mono ?_; rintro e y1 ⟨rfl, rfl⟩)
  go_wp2_with fail
  refine hK.out _ _ ?_ (fun hHeld9 => ?_)
  · (refine HKP.out _ ?_; first | exact (GR.refl _).drew | exact ((GR.refl _).drew).alloc _ | exact GR.refl _)
  clear hK K hHeld4
  (try simp only [Act.put, List.setIfInBounds_toArray, List.set_cons_zero, List.set_cons_succ])
  refine doH (i := 10) rfl (by kernel_rfl) (by rfl) (fun K hK => ?_)
  go_simp
  refine hK.out _ _ ?_ (fun hHeld10 => ?_)
  · (refine HKP.out _ ?_; first | exact (GR.refl _).drew | exact ((GR.refl _).drew).alloc _ | exact GR.refl _)
  clear hK K hHeld9
  (try simp only [Act.put, List.setIfInBounds_toArray, List.set_cons_zero, List.set_cons_succ])
  refine doH (i := 11) rfl (by kernel_rfl) (by rfl) (fun K hK => ?_)
  go_simp
  (go_at_call 91; refine (HO.out _ _ hc0 hc1).mono ?_; rintro e y1 ⟨rfl, rfl⟩)
  go_wp2_with fail
  refine hK.out _ _ ?_ (fun hHeld11 => ?_)
  · (refine HKP.out _ ?_; first | exact (GR.refl _).drew | exact ((GR.refl _).drew).alloc _ | exact GR.refl _)
  clear hK K hHeld10
  (try simp only [Act.put, List.setIfInBounds_toArray, List.set_cons_zero, List.set_cons_succ])
  apply takeH (i := 12) rfl (by kernel_rfl) (by kernel_rfl) (by kernel_rfl) (fun _ _ _ h => h) (by rfl)
  case hy => (intro w hSw; (try dsimp only at hSw); go_simp; try with_reducible rfl)
  case hS => assumption
  (try simp only [Act.put, List.setIfInBounds_toArray, List.set_cons_zero, List.set_cons_succ])
  refine wpAnyH_done (by kernel_rfl) ?_ _
  go_wp2
  go_ret
  exact ⟨rfl, HGR.out _ (((GR.refl _).drew).alloc _)⟩
end

/-- a key of a map, with its path and its value -/
def entK (val : ByteArray → ByteArray) (k : ByteArray) : Ent := ⟨pathS k, k, val k⟩
def cfK (x y : ByteArray) : Int := orI (cmpS (pathS x) (pathS y)) (cmpS x y)
/-- the world in which the entries lie so -/
abbrev sortedW (val : ByteArray → ByteArray) (w : World) (g n : Nat) (d : Array ByteArray) (os : Array Obj) : World := sortWorldK (fun k => (entK val k).enc) 3 w g 0 n d os
end Go.Proofs.YtjmjkcgldencoaaGreat

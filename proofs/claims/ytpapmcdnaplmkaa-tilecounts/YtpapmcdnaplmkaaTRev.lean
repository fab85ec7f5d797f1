/-
  slices.Reverse of at most three places.
-/
import Derived.Test.YtpapmcdnaplmkaaTPlan
namespace Go.Proofs.Ytpapmcdnaplmkaa
open Go.RowKit

/-- what Reverse answers -/
def RRv (B : Nat) (v : Value) (ps : List (Nat × Nat)) (w : World) (e : Ending) (w' : World) : Prop := (∃ u, e = .returned u) ∧ OwnD w' B v ps.reverse ∧ w.grownBy w' v.ownBlock
theorem grown_drew7 {a w : World} {row : Option Nat} (h : a.grownBy w row) : a.grownBy w.drew row := ⟨h.os, h.tape, h.output, h.size, h.block⟩
set_option maxRecDepth 100000 in
theorem rev_few (B : Nat) (oa : Option Addr) (n cap : Nat) (ps : List (Nat × Nat)) (hn : ps.length = n) (hn1 : n ≤ 1) (w : World) (h : OwnD w B (.slice oa n cap) ps) :
    Calls Try.prog 35 #[.slice oa n cap] w (RRv B (.slice oa n cap) ps w) := by
  have HF := Lib.hid (show ∀ u, RRv B (.slice oa n cap) ps w (.returned u) w from fun u => ⟨⟨u, rfl⟩, by
    rw [show ps.reverse = ps by match ps, hn with
      | [], _ => rfl
      | [p], _ => rfl
      | p :: q :: r, h => simp at h; omega]
    exact h, grown_refl _ _⟩)
  generalize RRv B (.slice oa n cap) ps w = PO at *
  clear h hn
  go_enter Try.func35, Try.ntmps35
  go_wp2
  go_loop [2, 3] (fun i j => i = .int .i64 0 ∧ j = .int .i64 ((n : Int) - 1)) (fun _ _ => 0)
  case atStart => exact ⟨rfl, rfl⟩
  case round =>
    obtain ⟨rfl, rfl⟩ := hrel
    have hlt : ¬ (0 : Int) < (n : Int) - 1 := by omega
    go_wp2
    go_end0
    exact HF.out _
set_option maxRecDepth 100000 in
set_option maxHeartbeats 2000000 in
theorem rev_2 (B g cap : Nat) (p0 p1 : Nat × Nat) (w : World) (h : OwnD w B (.slice (some ⟨g, 0, none⟩) 2 cap) [p0, p1]) :
    Calls Try.prog 35 #[.slice (some ⟨g, 0, none⟩) 2 cap] w (RRv B (.slice (some ⟨g, 0, none⟩) 2 cap) [p0, p1] w) := by
  have HF := Lib.hid (show ∀ u w', OwnD w' B (.slice (some ⟨g, 0, none⟩) 2 cap) [p1, p0] → w.grownBy w' (some g) → RRv B (.slice (some ⟨g, 0, none⟩) 2 cap) [p0, p1] w (.returned u) w' from fun u w' h1 h2 => ⟨⟨u, rfl⟩, h1, h2⟩)
  generalize RRv B (.slice (some ⟨g, 0, none⟩) 2 cap) [p0, p1] w = PO at *
  have H0 := Lib.hid h
  have mixed : Try.prog.follows Departure.mixedOrders = true := by kernel_rfl
  have c0 : w.cell? ⟨g, 0, none⟩ = some (iv p0.1) := World.ownsRow.cells h (g := g) rfl 0 _ rfl
  have c1 : w.cell? ⟨g, 1, none⟩ = some (iv p0.2) := World.ownsRow.cells h (g := g) rfl 1 _ rfl
  have d0 : w.cell? ⟨g, 2, none⟩ = some (iv p1.1) := World.ownsRow.cells h (g := g) rfl 2 _ rfl
  have d1 : w.cell? ⟨g, 3, none⟩ = some (iv p1.2) := World.ownsRow.cells h (g := g) rfl 3 _ rfl
  have f0 : w.frozen? ⟨g, 0, none⟩ = false := World.ownsRow.frozenAt h 0
  have f1 : w.frozen? ⟨g, 1, none⟩ = false := World.ownsRow.frozenAt h 1
  clear h
  go_enter Try.func35, Try.ntmps35
  go_wp2
  go_loopw [2, 3] (fun i j wr => (i = .int .i64 0 ∧ j = .int .i64 1 ∧ wr = w) ∨ (i = .int .i64 1 ∧ j = .int .i64 0 ∧ OwnD wr B (.slice (some ⟨g, 0, none⟩) 2 cap) [p1, p0] ∧ w.grownBy wr (some g))) (fun i _ _ => 1 - (intOf i).toNat)
  case atStart => exact .inl ⟨rfl, rfl, rfl⟩
  case round =>
    rcases hrel with ⟨rfl, rfl, rfl⟩ | ⟨rfl, rfl, hown, hgr⟩
    · generalize wr = w at *
      go_wp2_with fail
      refine wp_region_held_drew (S := fun _ => True) (by kernel_rfl) trivial (fun hHeld0 => ?_)
      apply takeH (i := 0) rfl (by kernel_rfl) (by kernel_rfl) (by kernel_rfl) (fun _ _ _ h => h) (by rfl)
      case hy => (intro w hSw; (try dsimp only at hSw); go_simp; try with_reducible rfl)
      case hS => assumption
      (try simp only [Act.put, List.setIfInBounds_toArray, List.set_cons_zero, List.set_cons_succ])
      apply takeH (i := 1) rfl (by kernel_rfl) (by kernel_rfl) (by kernel_rfl) (fun _ _ _ h => h) (by rfl)
      case hy => (intro w hSw; (try dsimp only at hSw); go_simp; try with_reducible rfl)
      case hS => assumption
      (try simp only [Act.put, List.setIfInBounds_toArray, List.set_cons_zero, List.set_cons_succ])
      apply takeH (i := 2) rfl (by kernel_rfl) (by kernel_rfl) (by kernel_rfl) (fun _ _ _ h => h) (by rfl)
      case hy => (intro w hSw; (try dsimp only at hSw); go_simp; try with_reducible rfl)
      case hS => assumption
      (try simp only [Act.put, List.setIfInBounds_toArray, List.set_cons_zero, List.set_cons_succ])
      apply takeH (i := 3) rfl (by kernel_rfl) (by kernel_rfl) (by kernel_rfl) (fun _ _ _ h => h) (by rfl)
      case hy => (intro w hSw; (try dsimp only at hSw); go_simp; try with_reducible rfl)
      case hS => assumption
      (try simp only [Act.put, List.setIfInBounds_toArray, List.set_cons_zero, List.set_cons_succ])
      apply takeH (i := 4) rfl (by kernel_rfl) (by kernel_rfl) (by kernel_rfl) (fun _ _ _ h => h) (by rfl)
      case hy => (intro w hSw; (try dsimp only at hSw); go_simp; try with_reducible rfl)
      case hS => assumption
      (try simp only [Act.put, List.setIfInBounds_toArray, List.set_cons_zero, List.set_cons_succ])
      apply takeH (i := 5) rfl (by kernel_rfl) (by kernel_rfl) (by kernel_rfl) (fun _ _ _ h => h) (by rfl)
      case hy => (intro w hSw; (try dsimp only at hSw); go_simp; try with_reducible rfl)
      case hS => assumption
      (try simp only [Act.put, List.setIfInBounds_toArray, List.set_cons_zero, List.set_cons_succ])
      apply takeH (i := 6) rfl (by kernel_rfl) (by kernel_rfl) (by kernel_rfl) (fun _ _ _ h => h) (by rfl)
      case hy => (intro w hSw; (try dsimp only at hSw); go_simp; try with_reducible rfl)
      case hS => assumption
      (try simp only [Act.put, List.setIfInBounds_toArray, List.set_cons_zero, List.set_cons_succ])
      apply takeH (i := 8) rfl (by kernel_rfl) (by kernel_rfl) (by kernel_rfl) (fun _ _ _ h => h) (by rfl)
      case hy => (intro w hSw; (try dsimp only at hSw); go_simp; try with_reducible rfl)
      case hS => assumption
      (try simp only [Act.put, List.setIfInBounds_toArray, List.set_cons_zero, List.set_cons_succ])
      apply takeH (i := 9) rfl (by kernel_rfl) (by kernel_rfl) (by kernel_rfl) (fun _ _ _ h => h) (by rfl)
      case hy => (intro w hSw; (try dsimp only at hSw); go_simp; try with_reducible rfl)
      case hS => assumption
      (try simp only [Act.put, List.setIfInBounds_toArray, List.set_cons_zero, List.set_cons_succ])
      apply takeH (i := 10) rfl (by kernel_rfl) (by kernel_rfl) (by kernel_rfl) (fun _ _ _ h => h) (by rfl)
      case hy => (intro w hSw; (try dsimp only at hSw); go_simp; try with_reducible rfl)
      case hS => assumption
      (try simp only [Act.put, List.setIfInBounds_toArray, List.set_cons_zero, List.set_cons_succ])
      refine doH2 (i := 7) (j := 11) rfl rfl (by kernel_rfl) (by rfl) (by rfl) (fun K hK => ?_) (fun K hK => ?_)
      · go_simp
        refine hK.out _ _ trivial (fun _ => ?_)
        clear hK K
        (try simp only [Act.put, List.setIfInBounds_toArray, List.set_cons_zero, List.set_cons_succ])
        refine doH (i := 11) rfl (by kernel_rfl) (by rfl) (fun K hK => ?_)
        go_simp
        refine hK.out _ _ trivial (fun _ => ?_)
        clear hK K
        (try simp only [Act.put, List.setIfInBounds_toArray, List.set_cons_zero, List.set_cons_succ])
        apply takeH (i := 12) rfl (by kernel_rfl) (by kernel_rfl) (by kernel_rfl) (fun _ _ _ h => h) (by rfl)
        case hy => (intro w hSw; (try dsimp only at hSw); go_simp; try with_reducible rfl)
        case hS => assumption
        (try simp only [Act.put, List.setIfInBounds_toArray, List.set_cons_zero, List.set_cons_succ])
        refine doH (i := 13) rfl (by kernel_rfl) (by rfl) (fun K hK => ?_)
        go_simp
        refine hK.out _ _ trivial (fun _ => ?_)
        clear hK K
        (try simp only [Act.put, List.setIfInBounds_toArray, List.set_cons_zero, List.set_cons_succ])
        have own1 : OwnD ((w.setCell ⟨g, 0, none⟩ (iv p1.1)).setCell ⟨g, 1, none⟩ (iv p1.2)).drew B (.slice (some ⟨g, 0, none⟩) 2 cap) [p1, p1] := (World.ownsRow.stored (World.ownsRow.stored H0.out 0 (iv p1.1)).1 1 (iv p1.2)).1
        have hgr1 : w.grownBy ((w.setCell ⟨g, 0, none⟩ (iv p1.1)).setCell ⟨g, 1, none⟩ (iv p1.2)).drew (some g) := grown_drew7 (grown_trans (World.ownsRow.stored H0.out 0 (iv p1.1)).2 (World.ownsRow.stored (World.ownsRow.stored H0.out 0 (iv p1.1)).1 1 (iv p1.2)).2)
        generalize ((w.setCell ⟨g, 0, none⟩ (iv p1.1)).setCell ⟨g, 1, none⟩ (iv p1.2)).drew = w1 at *
        have e0 : w1.cell? ⟨g, 2, none⟩ = some (iv p1.1) := World.ownsRow.cells own1 (g := g) rfl 2 _ rfl
        have e1 : w1.cell? ⟨g, 3, none⟩ = some (iv p1.2) := World.ownsRow.cells own1 (g := g) rfl 3 _ rfl
        have k0 : w1.frozen? ⟨g, 2, none⟩ = false := World.ownsRow.frozenAt own1 2
        have k1 : w1.frozen? ⟨g, 3, none⟩ = false := World.ownsRow.frozenAt own1 3
        have HO1 := Lib.hid own1
        clear own1
        apply takeH (i := 14) rfl (by kernel_rfl) (by kernel_rfl) (by kernel_rfl) (fun _ _ _ h => h) (by rfl)
        case hy => (intro w hSw; (try dsimp only at hSw); go_simp; try with_reducible rfl)
        case hS => assumption
        (try simp only [Act.put, List.setIfInBounds_toArray, List.set_cons_zero, List.set_cons_succ])
        refine doH (i := 15) rfl (by kernel_rfl) (by rfl) (fun K hK => ?_)
        go_simp
        refine hK.out _ _ trivial (fun _ => ?_)
        clear hK K
        (try simp only [Act.put, List.setIfInBounds_toArray, List.set_cons_zero, List.set_cons_succ])
        have own2 := (World.ownsRow.stored (World.ownsRow.stored HO1.out 2 (iv p0.1)).1 3 (iv p0.2)).1
        have hgr2 := grown_trans hgr1 (grown_trans (World.ownsRow.stored HO1.out 2 (iv p0.1)).2 (World.ownsRow.stored (World.ownsRow.stored HO1.out 2 (iv p0.1)).1 3 (iv p0.2)).2)
        generalize (w1.setCell ⟨g, 2, none⟩ (iv p0.1)).setCell ⟨g, 3, none⟩ (iv p0.2) = w2 at *
        refine wpAnyH_done (by kernel_rfl) ?_ _
        go_wp2
        go_roundw
        case rel => exact .inr ⟨by go_num, by go_num, own2, hgr2⟩
        case measure => simp [intOf]
      · go_simp
        refine hK.out _ _ trivial (fun _ => ?_)
        clear hK K
        (try simp only [Act.put, List.setIfInBounds_toArray, List.set_cons_zero, List.set_cons_succ])
        refine doH (i := 7) rfl (by kernel_rfl) (by rfl) (fun K hK => ?_)
        go_simp
        refine hK.out _ _ trivial (fun _ => ?_)
        clear hK K
        (try simp only [Act.put, List.setIfInBounds_toArray, List.set_cons_zero, List.set_cons_succ])
        apply takeH (i := 12) rfl (by kernel_rfl) (by kernel_rfl) (by kernel_rfl) (fun _ _ _ h => h) (by rfl)
        case hy => (intro w hSw; (try dsimp only at hSw); go_simp; try with_reducible rfl)
        case hS => assumption
        (try simp only [Act.put, List.setIfInBounds_toArray, List.set_cons_zero, List.set_cons_succ])
        refine doH (i := 13) rfl (by kernel_rfl) (by rfl) (fun K hK => ?_)
        go_simp
        refine hK.out _ _ trivial (fun _ => ?_)
        clear hK K
        (try simp only [Act.put, List.setIfInBounds_toArray, List.set_cons_zero, List.set_cons_succ])
        have own1 : OwnD ((w.setCell ⟨g, 0, none⟩ (iv p1.1)).setCell ⟨g, 1, none⟩ (iv p1.2)).drew B (.slice (some ⟨g, 0, none⟩) 2 cap) [p1, p1] := (World.ownsRow.stored (World.ownsRow.stored H0.out 0 (iv p1.1)).1 1 (iv p1.2)).1
        have hgr1 : w.grownBy ((w.setCell ⟨g, 0, none⟩ (iv p1.1)).setCell ⟨g, 1, none⟩ (iv p1.2)).drew (some g) := grown_drew7 (grown_trans (World.ownsRow.stored H0.out 0 (iv p1.1)).2 (World.ownsRow.stored (World.ownsRow.stored H0.out 0 (iv p1.1)).1 1 (iv p1.2)).2)
        generalize ((w.setCell ⟨g, 0, none⟩ (iv p1.1)).setCell ⟨g, 1, none⟩ (iv p1.2)).drew = w1 at *
        have e0 : w1.cell? ⟨g, 2, none⟩ = some (iv p1.1) := World.ownsRow.cells own1 (g := g) rfl 2 _ rfl
        have e1 : w1.cell? ⟨g, 3, none⟩ = some (iv p1.2) := World.ownsRow.cells own1 (g := g) rfl 3 _ rfl
        have k0 : w1.frozen? ⟨g, 2, none⟩ = false := World.ownsRow.frozenAt own1 2
        have k1 : w1.frozen? ⟨g, 3, none⟩ = false := World.ownsRow.frozenAt own1 3
        have HO1 := Lib.hid own1
        clear own1
        apply takeH (i := 14) rfl (by kernel_rfl) (by kernel_rfl) (by kernel_rfl) (fun _ _ _ h => h) (by rfl)
        case hy => (intro w hSw; (try dsimp only at hSw); go_simp; try with_reducible rfl)
        case hS => assumption
        (try simp only [Act.put, List.setIfInBounds_toArray, List.set_cons_zero, List.set_cons_succ])
        refine doH (i := 15) rfl (by kernel_rfl) (by rfl) (fun K hK => ?_)
        go_simp
        refine hK.out _ _ trivial (fun _ => ?_)
        clear hK K
        (try simp only [Act.put, List.setIfInBounds_toArray, List.set_cons_zero, List.set_cons_succ])
        have own2 := (World.ownsRow.stored (World.ownsRow.stored HO1.out 2 (iv p0.1)).1 3 (iv p0.2)).1
        have hgr2 := grown_trans hgr1 (grown_trans (World.ownsRow.stored HO1.out 2 (iv p0.1)).2 (World.ownsRow.stored (World.ownsRow.stored HO1.out 2 (iv p0.1)).1 3 (iv p0.2)).2)
        generalize (w1.setCell ⟨g, 2, none⟩ (iv p0.1)).setCell ⟨g, 3, none⟩ (iv p0.2) = w2 at *
        refine wpAnyH_done (by kernel_rfl) ?_ _
        go_wp2
        go_roundw
        case rel => exact .inr ⟨by go_num, by go_num, own2, hgr2⟩
        case measure => simp [intOf]
    · go_wp2
      go_end0
      exact HF.out _ _ hown hgr
set_option maxRecDepth 100000 in
set_option maxHeartbeats 2000000 in
theorem rev_3 (B g cap : Nat) (p0 p1 p2 : Nat × Nat) (w : World) (h : OwnD w B (.slice (some ⟨g, 0, none⟩) 3 cap) [p0, p1, p2]) :
    Calls Try.prog 35 #[.slice (some ⟨g, 0, none⟩) 3 cap] w (RRv B (.slice (some ⟨g, 0, none⟩) 3 cap) [p0, p1, p2] w) := by
  have HF := Lib.hid (show ∀ u w', OwnD w' B (.slice (some ⟨g, 0, none⟩) 3 cap) [p2, p1, p0] → w.grownBy w' (some g) → RRv B (.slice (some ⟨g, 0, none⟩) 3 cap) [p0, p1, p2] w (.returned u) w' from fun u w' h1 h2 => ⟨⟨u, rfl⟩, h1, h2⟩)
  generalize RRv B (.slice (some ⟨g, 0, none⟩) 3 cap) [p0, p1, p2] w = PO at *
  have H0 := Lib.hid h
  have mixed : Try.prog.follows Departure.mixedOrders = true := by kernel_rfl
  have c0 : w.cell? ⟨g, 0, none⟩ = some (iv p0.1) := World.ownsRow.cells h (g := g) rfl 0 _ rfl
  have c1 : w.cell? ⟨g, 1, none⟩ = some (iv p0.2) := World.ownsRow.cells h (g := g) rfl 1 _ rfl
  have d0 : w.cell? ⟨g, 4, none⟩ = some (iv p2.1) := World.ownsRow.cells h (g := g) rfl 4 _ rfl
  have d1 : w.cell? ⟨g, 5, none⟩ = some (iv p2.2) := World.ownsRow.cells h (g := g) rfl 5 _ rfl
  have f0 : w.frozen? ⟨g, 0, none⟩ = false := World.ownsRow.frozenAt h 0
  have f1 : w.frozen? ⟨g, 1, none⟩ = false := World.ownsRow.frozenAt h 1
  clear h
  go_enter Try.func35, Try.ntmps35
  go_wp2
  go_loopw [2, 3] (fun i j wr => (i = .int .i64 0 ∧ j = .int .i64 2 ∧ wr = w) ∨ (i = .int .i64 1 ∧ j = .int .i64 1 ∧ OwnD wr B (.slice (some ⟨g, 0, none⟩) 3 cap) [p2, p1, p0] ∧ w.grownBy wr (some g))) (fun i _ _ => 1 - (intOf i).toNat)
  case atStart => exact .inl ⟨rfl, rfl, rfl⟩
  case round =>
    rcases hrel with ⟨rfl, rfl, rfl⟩ | ⟨rfl, rfl, hown, hgr⟩
    · generalize wr = w at *
      go_wp2_with fail
      refine wp_region_held_drew (S := fun _ => True) (by kernel_rfl) trivial (fun hHeld0 => ?_)
      apply takeH (i := 0) rfl (by kernel_rfl) (by kernel_rfl) (by kernel_rfl) (fun _ _ _ h => h) (by rfl)
      case hy => (intro w hSw; (try dsimp only at hSw); go_simp; try with_reducible rfl)
      case hS => assumption
      (try simp only [Act.put, List.setIfInBounds_toArray, List.set_cons_zero, List.set_cons_succ])
      apply takeH (i := 1) rfl (by kernel_rfl) (by kernel_rfl) (by kernel_rfl) (fun _ _ _ h => h) (by rfl)
      case hy => (intro w hSw; (try dsimp only at hSw); go_simp; try with_reducible rfl)
      case hS => assumption
      (try simp only [Act.put, List.setIfInBounds_toArray, List.set_cons_zero, List.set_cons_succ])
      apply takeH (i := 2) rfl (by kernel_rfl) (by kernel_rfl) (by kernel_rfl) (fun _ _ _ h => h) (by rfl)
      case hy => (intro w hSw; (try dsimp only at hSw); go_simp; try with_reducible rfl)
      case hS => assumption
      (try simp only [Act.put, List.setIfInBounds_toArray, List.set_cons_zero, List.set_cons_succ])
      apply takeH (i := 3) rfl (by kernel_rfl) (by kernel_rfl) (by kernel_rfl) (fun _ _ _ h => h) (by rfl)
      case hy => (intro w hSw; (try dsimp only at hSw); go_simp; try with_reducible rfl)
      case hS => assumption
      (try simp only [Act.put, List.setIfInBounds_toArray, List.set_cons_zero, List.set_cons_succ])
      apply takeH (i := 4) rfl (by kernel_rfl) (by kernel_rfl) (by kernel_rfl) (fun _ _ _ h => h) (by rfl)
      case hy => (intro w hSw; (try dsimp only at hSw); go_simp; try with_reducible rfl)
      case hS => assumption
      (try simp only [Act.put, List.setIfInBounds_toArray, List.set_cons_zero, List.set_cons_succ])
      apply takeH (i := 5) rfl (by kernel_rfl) (by kernel_rfl) (by kernel_rfl) (fun _ _ _ h => h) (by rfl)
      case hy => (intro w hSw; (try dsimp only at hSw); go_simp; try with_reducible rfl)
      case hS => assumption
      (try simp only [Act.put, List.setIfInBounds_toArray, List.set_cons_zero, List.set_cons_succ])
      apply takeH (i := 6) rfl (by kernel_rfl) (by kernel_rfl) (by kernel_rfl) (fun _ _ _ h => h) (by rfl)
      case hy => (intro w hSw; (try dsimp only at hSw); go_simp; try with_reducible rfl)
      case hS => assumption
      (try simp only [Act.put, List.setIfInBounds_toArray, List.set_cons_zero, List.set_cons_succ])
      apply takeH (i := 8) rfl (by kernel_rfl) (by kernel_rfl) (by kernel_rfl) (fun _ _ _ h => h) (by rfl)
      case hy => (intro w hSw; (try dsimp only at hSw); go_simp; try with_reducible rfl)
      case hS => assumption
      (try simp only [Act.put, List.setIfInBounds_toArray, List.set_cons_zero, List.set_cons_succ])
      apply takeH (i := 9) rfl (by kernel_rfl) (by kernel_rfl) (by kernel_rfl) (fun _ _ _ h => h) (by rfl)
      case hy => (intro w hSw; (try dsimp only at hSw); go_simp; try with_reducible rfl)
      case hS => assumption
      (try simp only [Act.put, List.setIfInBounds_toArray, List.set_cons_zero, List.set_cons_succ])
      apply takeH (i := 10) rfl (by kernel_rfl) (by kernel_rfl) (by kernel_rfl) (fun _ _ _ h => h) (by rfl)
      case hy => (intro w hSw; (try dsimp only at hSw); go_simp; try with_reducible rfl)
      case hS => assumption
      (try simp only [Act.put, List.setIfInBounds_toArray, List.set_cons_zero, List.set_cons_succ])
      refine doH2 (i := 7) (j := 11) rfl rfl (by kernel_rfl) (by rfl) (by rfl) (fun K hK => ?_) (fun K hK => ?_)
      · go_simp
        refine hK.out _ _ trivial (fun _ => ?_)
        clear hK K
        (try simp only [Act.put, List.setIfInBounds_toArray, List.set_cons_zero, List.set_cons_succ])
        refine doH (i := 11) rfl (by kernel_rfl) (by rfl) (fun K hK => ?_)
        go_simp
        refine hK.out _ _ trivial (fun _ => ?_)
        clear hK K
        (try simp only [Act.put, List.setIfInBounds_toArray, List.set_cons_zero, List.set_cons_succ])
        apply takeH (i := 12) rfl (by kernel_rfl) (by kernel_rfl) (by kernel_rfl) (fun _ _ _ h => h) (by rfl)
        case hy => (intro w hSw; (try dsimp only at hSw); go_simp; try with_reducible rfl)
        case hS => assumption
        (try simp only [Act.put, List.setIfInBounds_toArray, List.set_cons_zero, List.set_cons_succ])
        refine doH (i := 13) rfl (by kernel_rfl) (by rfl) (fun K hK => ?_)
        go_simp
        refine hK.out _ _ trivial (fun _ => ?_)
        clear hK K
        (try simp only [Act.put, List.setIfInBounds_toArray, List.set_cons_zero, List.set_cons_succ])
        have own1 : OwnD ((w.setCell ⟨g, 0, none⟩ (iv p2.1)).setCell ⟨g, 1, none⟩ (iv p2.2)).drew B (.slice (some ⟨g, 0, none⟩) 3 cap) [p2, p1, p2] := (World.ownsRow.stored (World.ownsRow.stored H0.out 0 (iv p2.1)).1 1 (iv p2.2)).1
        have hgr1 : w.grownBy ((w.setCell ⟨g, 0, none⟩ (iv p2.1)).setCell ⟨g, 1, none⟩ (iv p2.2)).drew (some g) := grown_drew7 (grown_trans (World.ownsRow.stored H0.out 0 (iv p2.1)).2 (World.ownsRow.stored (World.ownsRow.stored H0.out 0 (iv p2.1)).1 1 (iv p2.2)).2)
        generalize ((w.setCell ⟨g, 0, none⟩ (iv p2.1)).setCell ⟨g, 1, none⟩ (iv p2.2)).drew = w1 at *
        have e0 : w1.cell? ⟨g, 4, none⟩ = some (iv p2.1) := World.ownsRow.cells own1 (g := g) rfl 4 _ rfl
        have e1 : w1.cell? ⟨g, 5, none⟩ = some (iv p2.2) := World.ownsRow.cells own1 (g := g) rfl 5 _ rfl
        have k0 : w1.frozen? ⟨g, 4, none⟩ = false := World.ownsRow.frozenAt own1 4
        have k1 : w1.frozen? ⟨g, 5, none⟩ = false := World.ownsRow.frozenAt own1 5
        have HO1 := Lib.hid own1
        clear own1
        apply takeH (i := 14) rfl (by kernel_rfl) (by kernel_rfl) (by kernel_rfl) (fun _ _ _ h => h) (by rfl)
        case hy => (intro w hSw; (try dsimp only at hSw); go_simp; try with_reducible rfl)
        case hS => assumption
        (try simp only [Act.put, List.setIfInBounds_toArray, List.set_cons_zero, List.set_cons_succ])
        refine doH (i := 15) rfl (by kernel_rfl) (by rfl) (fun K hK => ?_)
        go_simp
        refine hK.out _ _ trivial (fun _ => ?_)
        clear hK K
        (try simp only [Act.put, List.setIfInBounds_toArray, List.set_cons_zero, List.set_cons_succ])
        have own2 := (World.ownsRow.stored (World.ownsRow.stored HO1.out 4 (iv p0.1)).1 5 (iv p0.2)).1
        have hgr2 := grown_trans hgr1 (grown_trans (World.ownsRow.stored HO1.out 4 (iv p0.1)).2 (World.ownsRow.stored (World.ownsRow.stored HO1.out 4 (iv p0.1)).1 5 (iv p0.2)).2)
        generalize (w1.setCell ⟨g, 4, none⟩ (iv p0.1)).setCell ⟨g, 5, none⟩ (iv p0.2) = w2 at *
        refine wpAnyH_done (by kernel_rfl) ?_ _
        go_wp2
        go_roundw
        case rel => exact .inr ⟨by go_num, by go_num, own2, hgr2⟩
        case measure => simp [intOf]
      · go_simp
        refine hK.out _ _ trivial (fun _ => ?_)
        clear hK K
        (try simp only [Act.put, List.setIfInBounds_toArray, List.set_cons_zero, List.set_cons_succ])
        refine doH (i := 7) rfl (by kernel_rfl) (by rfl) (fun K hK => ?_)
        go_simp
        refine hK.out _ _ trivial (fun _ => ?_)
        clear hK K
        (try simp only [Act.put, List.setIfInBounds_toArray, List.set_cons_zero, List.set_cons_succ])
        apply takeH (i := 12) rfl (by kernel_rfl) (by kernel_rfl) (by kernel_rfl) (fun _ _ _ h => h) (by rfl)
        case hy => (intro w hSw; (try dsimp only at hSw); go_simp; try with_reducible rfl)
        case hS => assumption
        (try simp only [Act.put, List.setIfInBounds_toArray, List.set_cons_zero, List.set_cons_succ])
        refine doH (i := 13) rfl (by kernel_rfl) (by rfl) (fun K hK => ?_)
        go_simp
        refine hK.out _ _ trivial (fun _ => ?_)
        clear hK K
        (try simp only [Act.put, List.setIfInBounds_toArray, List.set_cons_zero, List.set_cons_succ])
        have own1 : OwnD ((w.setCell ⟨g, 0, none⟩ (iv p2.1)).setCell ⟨g, 1, none⟩ (iv p2.2)).drew B (.slice (some ⟨g, 0, none⟩) 3 cap) [p2, p1, p2] := (World.ownsRow.stored (World.ownsRow.stored H0.out 0 (iv p2.1)).1 1 (iv p2.2)).1
        have hgr1 : w.grownBy ((w.setCell ⟨g, 0, none⟩ (iv p2.1)).setCell ⟨g, 1, none⟩ (iv p2.2)).drew (some g) := grown_drew7 (grown_trans (World.ownsRow.stored H0.out 0 (iv p2.1)).2 (World.ownsRow.stored (World.ownsRow.stored H0.out 0 (iv p2.1)).1 1 (iv p2.2)).2)
        generalize ((w.setCell ⟨g, 0, none⟩ (iv p2.1)).setCell ⟨g, 1, none⟩ (iv p2.2)).drew = w1 at *
        have e0 : w1.cell? ⟨g, 4, none⟩ = some (iv p2.1) := World.ownsRow.cells own1 (g := g) rfl 4 _ rfl
        have e1 : w1.cell? ⟨g, 5, none⟩ = some (iv p2.2) := World.ownsRow.cells own1 (g := g) rfl 5 _ rfl
        have k0 : w1.frozen? ⟨g, 4, none⟩ = false := World.ownsRow.frozenAt own1 4
        have k1 : w1.frozen? ⟨g, 5, none⟩ = false := World.ownsRow.frozenAt own1 5
        have HO1 := Lib.hid own1
        clear own1
        apply takeH (i := 14) rfl (by kernel_rfl) (by kernel_rfl) (by kernel_rfl) (fun _ _ _ h => h) (by rfl)
        case hy => (intro w hSw; (try dsimp only at hSw); go_simp; try with_reducible rfl)
        case hS => assumption
        (try simp only [Act.put, List.setIfInBounds_toArray, List.set_cons_zero, List.set_cons_succ])
        refine doH (i := 15) rfl (by kernel_rfl) (by rfl) (fun K hK => ?_)
        go_simp
        refine hK.out _ _ trivial (fun _ => ?_)
        clear hK K
        (try simp only [Act.put, List.setIfInBounds_toArray, List.set_cons_zero, List.set_cons_succ])
        have own2 := (World.ownsRow.stored (World.ownsRow.stored HO1.out 4 (iv p0.1)).1 5 (iv p0.2)).1
        have hgr2 := grown_trans hgr1 (grown_trans (World.ownsRow.stored HO1.out 4 (iv p0.1)).2 (World.ownsRow.stored (World.ownsRow.stored HO1.out 4 (iv p0.1)).1 5 (iv p0.2)).2)
        generalize (w1.setCell ⟨g, 4, none⟩ (iv p0.1)).setCell ⟨g, 5, none⟩ (iv p0.2) = w2 at *
        refine wpAnyH_done (by kernel_rfl) ?_ _
        go_wp2
        go_roundw
        case rel => exact .inr ⟨by go_num, by go_num, own2, hgr2⟩
        case measure => simp [intOf]
    · go_wp2
      go_end0
      exact HF.out _ _ hown hgr
theorem reverse_any (B : Nat) (v : Value) (ps : List (Nat × Nat)) (hn : ps.length ≤ 3) (w : World) (h : OwnD w B v ps) : Calls Try.prog 35 #[v] w (RRv B v ps w) := by
  obtain ⟨oa, cap, rfl, hI, _, _, hform⟩ := h.form
  match ps, hn, h, hI with
  | [], _, h, _ => exact rev_few B oa 0 cap [] rfl (by omega) w h
  | [p], _, h, _ => exact rev_few B oa 1 cap [p] rfl (by omega) w h
  | [p0, p1], _, h, hI =>
    obtain ⟨a, rfl, _⟩ := hI 0 (by simp)
    have ha := (hform a rfl).1
    generalize a.block = g at *
    subst ha
    exact rev_2 B g cap p0 p1 w h
  | [p0, p1, p2], _, h, hI =>
    obtain ⟨a, rfl, _⟩ := hI 0 (by simp)
    have ha := (hform a rfl).1
    generalize a.block = g at *
    subst ha
    exact rev_3 B g cap p0 p1 p2 w h
  | p :: q :: r :: s :: t, hn, _, _ => simp at hn
end Go.Proofs.Ytpapmcdnaplmkaa

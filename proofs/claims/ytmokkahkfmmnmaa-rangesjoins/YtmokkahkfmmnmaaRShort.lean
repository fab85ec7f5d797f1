/-
  How long the shortest stretch is: the program's.
-/
import Derived.Test.YtmokkahkfmmnmaaRPut
import Derived.Test.YtmokkahkfmmnmaaRLen
namespace Go.Proofs.Ytmokkahkfmmnmaa
open Go.RowKit Go.Shelf
attribute [local go_sem] Oper.semAt_some

set_option maxRecDepth 100000 in
set_option maxHeartbeats 1000000 in
theorem shortest_any (n : Nat) (hn : n ≤ 9223372036854775807) (w : World) : Calls Try.prog 39 #[.int .i64 n] w fun e w' => e = .returned (.int .i64 ((lastN (strL n) : Nat) : Int)) ∧ Below w.heap.size w w' := by
  obtain ⟨B, hB⟩ : ∃ B, w.heap.size = B := ⟨_, rfl⟩
  obtain ⟨w0, hw0⟩ : ∃ w0, w.alloc (.cells #[.int .i64 0] 3) = w0 := ⟨_, rfl⟩
  have hK : Blk w0 B 3 #[.int .i64 0] := by rw [← hw0, ← hB]; exact Blk.new _ _ _
  have hB0 : Below w.heap.size w w0 := by rw [← hw0]; exact (Below.refl _ w).alloc (Nat.le_refl _) _
  have hs0 : w0.heap.size = B + 1 := by rw [← hw0]; simp [hB]
  have HW0 := Lib.hid hw0
  have HS0 := Lib.hid (show (w.alloc (.cells #[.int .i64 0] 3)).heap.size = B + 1 by rw [hw0]; exact hs0)
  clear hw0
  refine (callsIn_wide (n := 7)).1 ?_
  refine callsIn_of_wp_marks Try.func39 rfl trivial ?_ rfl
  simp only [Try.ntmps39, List.size_toArray, List.length_cons, List.length_nil, Nat.reduceAdd, Nat.reduceSub, Array.replicate_succ, Array.replicate_zero, List.push_toArray, List.append_toArray, List.nil_append, List.cons_append]
  gi_wp2_with fail
  refine ⟨trivial, ?_⟩
  refine (stretches_in _ _ _).mono ?_
  rintro e w2 ⟨rfl, hw2⟩
  rw [HW0.out] at hw2
  have b0 : Blk w2 B 3 #[.int .i64 0] := by rw [← hw2]; exact hK.alloc _
  have b1 : Blk w2 (B + 1) 3 #[.int .i64 n] := by rw [← hw2]; exact Blk.new_at hs0.symm
  have hB2 : Below w.heap.size w w2 := by rw [← hw2]; exact hB0.alloc hB0.size _
  have hs2 : w2.heap.size = B + 1 + 1 := by rw [← hw2]; simp [hs0]
  rw [HS0.out]
  clear hw2 hK hB0
  gi_wp2_with fail
  have HH := str1_hands (Lib.hid lenOf) (7 - 1) (B + 1) (by omega) (n : Int) (by omega) w2 b1.lt (b1.cell 0)
  rw [Int.toNat_natCast] at HH
  refine range_hands (by omega) (gf := 46) (lb := #[.pointer (some ⟨B + 1, 0, none⟩)]) rfl (enters_of Try.func46 (by kernel_rfl) rfl) HH (fun _ => rfl)
    (fun pre W => Blk W B 3 #[.int .i64 ((lastN pre : Nat) : Int)] ∧ Below w.heap.size w W)
    (OwnFrom.and (fun s A B' row hs hg hr => hs.grown hg (fun e => by have := (hr _ e.symm).1; omega)) (ownFrom_below (Nat.le_refl _) (by omega)))
    ⟨b0, hB2⟩
    (fun x => { tmps := #[.int .i64 (n : Int), undef, .int .i64 0, .pointer (some ⟨B, 0, none⟩), .int .i64 ((x : Nat) : Int), .int .i64 (n : Int), .func (.func 46) #[] #[.pointer (some ⟨B + 1, 0, none⟩)], .int .i64 ((x : Nat) : Int), undef, undef], defers := [] }) ?assign ?body ?done
  case assign =>
    intro l x W K hK
    gi_wp2
    exact hK
  case body =>
    rintro l pre x rest W hx ⟨hb, hBW⟩
    have HL := Lib.hid (lastN_snoc pre x)
    have c0 : W.cell? ⟨B, 0, none⟩ = some (.int .i64 ((lastN pre : Nat) : Int)) := hb.cell 0
    have f0 := hb.frozen 0
    clear b0 b1 HH
    gi_wp2
    refine ⟨KeepsOthers.setCell _ _ _, ?_, hBW.setCell (p := ⟨B, 0, none⟩) (by show w.heap.size ≤ B; omega) _⟩
    rw [HL.out]
    exact hb.set_ 0 _
  case done =>
    rintro D W hD ⟨hb, hBW⟩ hK
    have c0 : W.cell? ⟨B, 0, none⟩ = some (.int .i64 ((lastN (strL n) : Nat) : Int)) := hb.cell 0
    have hBs := hBW.trans (belowK_b (w := w) (Nat.le_refl _) _ D _ (.deferred none) (by omega) hK rfl rfl)
    clear HH b0 b1
    gi_wp2
    refine ⟨by simp, .inl ⟨_, _, rfl, run_takeDeferred hK, ?_⟩⟩
    exact ⟨_, results_tmp rfl _ _ _, rfl, hBs⟩
end Go.Proofs.Ytmokkahkfmmnmaa

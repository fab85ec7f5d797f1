/-
  Layer 11: awake.
-/
import Derived.Test.YtjmjkcgldencoaaGreatYApply
namespace Go.Proofs.YtjmjkcgldencoaaGreat
open Go.RowKit

theorem says0 : saysS ⟨[], [], []⟩ ⟨0, 1, ⟨#[97]⟩, ⟨#[]⟩, ⟨#[]⟩⟩ = ⟨0, 0, 1⟩ := by rfl
section
attribute [-go_sem] loadVar
set_option maxRecDepth 100000 in
set_option maxHeartbeats 1000000 in
theorem awake11_any (w : World) : Calls Tryz.prog 8 #[] w fun e w' => e = .returned (.bool true) ∧ Below w.heap.size w w' := by
  have HA : Hid (∀ W, Calls Tryz.prog 13 #[.agg zeroSt, .agg #[.int .i64 0, .int .i64 1, .string ⟨#[97]⟩, .string ⟨#[]⟩, .string ⟨#[]⟩]] W fun e w' => ∃ cs', e = .returned (.tuple #[.agg cs', .agg #[.int .i64 0, .int .i64 0, .int .i64 1]]) ∧ StC w' (geP W.heap.size) cs' (askS ⟨[], [], []⟩ ⟨0, 1, ⟨#[97]⟩, ⟨#[]⟩, ⟨#[]⟩⟩) ∧ Below W.heap.size W w') := Lib.hid fun W => by
    have key := applyC (fun _ => True) zeroSt ⟨[], [], []⟩ ⟨0, 1, ⟨#[97]⟩, ⟨#[]⟩, ⟨#[]⟩⟩ W InvW.nil (by rfl) (zeroSt_at _ _)
    rw [says0] at key
    exact key
  have hz := zeroS
  go_enter Tryz.func8, Tryz.ntmps8
  go_wp2_with fail
  refine (HA.out _).mono ?_
  rintro e w1 ⟨cs', rfl, hS, hb1⟩
  obtain ⟨wA2, hwA⟩ : ∃ wA, ((w1.alloc (.cells zeroSt 37)).alloc (.cells #[.int .i64 0, .int .i64 0, .int .i64 0] 31)) = wA := ⟨_, rfl⟩
  have bA : Below w1.heap.size w1 wA2 := by rw [← hwA]; exact ((Below.refl _ w1).alloc (Nat.le_refl _) _).alloc (by simp) _
  have kA : Blk wA2 w1.heap.size 37 zeroSt := by rw [← hwA]; exact (Blk.new _ _ _).alloc _
  have kB : Blk wA2 (w1.heap.size + 1) 31 #[.int .i64 0, .int .i64 0, .int .i64 0] := by rw [← hwA]; exact Blk.new_at (by simp)
  obtain ⟨w2, hw2⟩ : ∃ x, (wA2.setRow w1.heap.size cs').setRow (w1.heap.size + 1) #[.int .i64 0, .int .i64 0, .int .i64 1] = x := ⟨_, rfl⟩
  have ks : Blk w2 w1.heap.size 37 cs' := by rw [← hw2]; exact Blk.setRow (setRow_heap wA2 _ zeroSt cs' 37 (0, 0) kA) (by omega) _
  have kr : Blk w2 (w1.heap.size + 1) 31 #[.int .i64 0, .int .i64 0, .int .i64 1] := by rw [← hw2]; exact setRow_heap _ _ #[.int .i64 0, .int .i64 0, .int .i64 0] #[.int .i64 0, .int .i64 0, .int .i64 1] 31 (0, 0) (Blk.setRow kB (by omega) _)
  have b2 : Below w1.heap.size w1 w2 := by rw [← hw2]; exact (bA.grown (only_setRow (grown_refl wA2 (some w1.heap.size)) cs') bA.size (fun k hk => by injection hk; omega)).grown (only_setRow (grown_refl _ (some (w1.heap.size + 1))) #[.int .i64 0, .int .i64 0, .int .i64 1]) (by have := bA.size; simp; omega) (fun k hk => by injection hk; omega)
  have HWA2 := Lib.hid hwA
  have HW2 := Lib.hid hw2
  have HKA2 := Lib.hid kA
  have HKB2 := Lib.hid kB
  have HIA2 : Hid ((Tryz.prog.info? 37).map (·.size) = some (cs' : Array Value).size) := Lib.hid (by rw [hS.size]; exact infoS)
  have HIB2 : Hid ((Tryz.prog.info? 31).map (·.size) = some (#[.int .i64 0, .int .i64 0, .int .i64 1] : Array Value).size) := Lib.hid info3
  have HSA2 : Hid ((zeroSt : Array Value).size = (cs' : Array Value).size) := Lib.hid (by rw [hS.size]; rfl)
  have HSB2 : Hid ((#[.int .i64 0, .int .i64 0, .int .i64 0] : Array Value).size = (#[.int .i64 0, .int .i64 0, .int .i64 1] : Array Value).size) := Lib.hid rfl
  have HOA2 : Hid (((cs' : Array Value).all fun x => x.oneCell') = true) := Lib.hid hS.one
  have HOB2 : Hid (((#[.int .i64 0, .int .i64 0, .int .i64 1] : Array Value).all fun x => x.oneCell') = true) := Lib.hid (rep_one _ _ _)
  clear hwA hw2 kA kB bA
  have l2 := rep_load3 kr
  have hb := hb1.trans (b2.mono hb1.size)
  go_wp2_with (first
    | rw [HWA2.out]
    | (refine wpList_store_row rfl 37 _ _ rfl w1.heap.size cs' rfl rfl 37 zeroSt HKA2.out HIA2.out HSA2.out HOA2.out ?_)
    | (refine wpList_store_row rfl 31 _ _ rfl (w1.heap.size + 1) #[.int .i64 0, .int .i64 0, .int .i64 1] rfl rfl 31 #[.int .i64 0, .int .i64 0, .int .i64 0] (Blk.setRow HKB2.out (by omega) _) HIB2.out HSB2.out HOB2.out ?_; rw [HW2.out]))
  go_ret
  exact ⟨by first | rfl | simp, hb⟩
end
end Go.Proofs.YtjmjkcgldencoaaGreat

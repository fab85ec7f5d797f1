/-
  awake, and the reference's two tables.
-/
import Derived.Test.YtclmladcbhcphaaStd
import Derived.Deep.WholeRow
namespace Go.Proofs.Ytclmladcbhcphaa
open Go.RowKit

def U64 (n : Nat) : Value := .int .u64 (n : Int)
def refKV : Array Value := (stdK.map U64).toArray
def refHV : Array Value := (stdH.map U64).toArray

def kV : Array Value := (stdK.map U32).toArray
theorem fldK (w : World) : (Instr.field 27 (.agg tabV) 0).run Try.prog w = .ok (.agg kV) w := by kernel_rfl
theorem idxK (w : World) : (Instr.index 24 (.agg kV) (.int .i64 0)).run Try.prog w = .ok (.int .u32 1116352408) w := by kernel_rfl

set_option maxRecDepth 100000 in
set_option maxHeartbeats 400000 in
theorem awake_any (w : World) : Calls Try.prog 8 #[] w fun e w' => e = .returned (.bool true) ∧ Below w.heap.size w w' := by
  have h1 := fldK
  have h2 := idxK
  go_enter Try.func8, Try.ntmps8
  go_wp2_with fail
  refine (make_std _).mono ?_
  rintro e w' ⟨rfl, hb⟩
  go_wp2
  go_ret
  exact ⟨rfl, hb⟩

def zero64 : Array Value := Array.replicate 64 (U64 0)
def zero8 : Array Value := Array.replicate 8 (U64 0)
theorem zero64_run (w : World) : (zeroValue 40).run Try.prog w = .ok (.agg zero64) w := by kernel_rfl
theorem zero8_run (w : World) : (zeroValue 42).run Try.prog w = .ok (.agg zero8) w := by kernel_rfl
theorem info64 : (Try.prog.info? 40).map (·.size) = some 64 := by kernel_rfl
theorem info8 : (Try.prog.info? 42).map (·.size) = some 8 := by kernel_rfl

set_option maxRecDepth 100000 in
set_option maxHeartbeats 400000 in
theorem refK_any (w : World) : Calls Try.prog 15 #[] w fun e w' => e = .returned (.agg refKV) ∧ w.alloc (.cells refKV 40) = w' := by
  have h1 := zero64_run
  go_enter Try.func15, Try.ntmps15
  go_wp2_with (first
    | (refine wpList_build_as rfl 40 _ rfl refKV (by kernel_rfl) ?_)
    | (refine wpList_store_row rfl 40 _ _ rfl w.heap.size refKV rfl rfl 40 zero64 (Blk.new _ _ _) (by kernel_rfl) (by kernel_rfl) (by kernel_rfl) ?_))
  rw [World.setRow_alloc_new]
  exact bodyPost_ret (results_cell_row rfl _ _ w.heap.size 40 refKV (0, 0) _ rfl (Blk.new _ _ _) Try.underlying40 rfl (by kernel_rfl)) rfl ⟨rfl, rfl⟩

set_option maxRecDepth 100000 in
set_option maxHeartbeats 400000 in
theorem refH_any (w : World) : Calls Try.prog 16 #[] w fun e w' => e = .returned (.agg refHV) ∧ w.alloc (.cells refHV 42) = w' := by
  have h1 := zero8_run
  go_enter Try.func16, Try.ntmps16
  go_wp2_with (first
    | (refine wpList_build_as rfl 42 _ rfl refHV (by kernel_rfl) ?_)
    | (refine wpList_store_row rfl 42 _ _ rfl w.heap.size refHV rfl rfl 42 zero8 (Blk.new _ _ _) (by kernel_rfl) (by kernel_rfl) (by kernel_rfl) ?_))
  rw [World.setRow_alloc_new]
  exact bodyPost_ret (results_cell_row rfl _ _ w.heap.size 42 refHV (0, 0) _ rfl (Blk.new _ _ _) Try.underlying42 rfl (by kernel_rfl)) rfl ⟨rfl, rfl⟩
end Go.Proofs.Ytclmladcbhcphaa

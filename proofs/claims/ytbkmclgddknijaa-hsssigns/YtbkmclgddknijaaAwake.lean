/-
  The reference's two tables.
-/
import Derived.Test.YtbkmclgddknijaaStd
import Derived.Deep.WholeRow
namespace Go.Proofs.Ytbkmclgddknijaa
open Go.RowKit

def U64 (n : Nat) : Value := .int .u64 (n : Int)
def refKV : Array Value := (stdK.map U64).toArray
def refHV : Array Value := (stdH.map U64).toArray

def zero64 : Array Value := Array.replicate 64 (U64 0)
def zero8 : Array Value := Array.replicate 8 (U64 0)
theorem zero64_run (w : World) : (zeroValue 89).run Try.prog w = .ok (.agg zero64) w := by kernel_rfl
theorem zero8_run (w : World) : (zeroValue 91).run Try.prog w = .ok (.agg zero8) w := by kernel_rfl
theorem info64 : (Try.prog.info? 89).map (·.size) = some 64 := by kernel_rfl
theorem info8 : (Try.prog.info? 91).map (·.size) = some 8 := by kernel_rfl

set_option maxRecDepth 100000 in
set_option maxHeartbeats 400000 in
theorem refK_any (w : World) : Calls Try.prog 54 #[] w fun e w' => e = .returned (.agg refKV) ∧ w.alloc (.cells refKV 89) = w' := by
  have h1 := zero64_run
  go_enter Try.func54, Try.ntmps54
  go_wp2_with (first
    | (refine wpList_build_as rfl 89 _ rfl refKV (by kernel_rfl) ?_)
    | (refine wpList_store_row rfl 89 _ _ rfl w.heap.size refKV rfl rfl 89 zero64 (Blk.new _ _ _) (by kernel_rfl) (by kernel_rfl) (by kernel_rfl) ?_))
  rw [World.setRow_alloc_new]
  exact bodyPost_ret (results_cell_row rfl _ _ w.heap.size 89 refKV (0, 0) _ rfl (Blk.new _ _ _) Try.underlying89 rfl (by kernel_rfl)) rfl ⟨rfl, rfl⟩

set_option maxRecDepth 100000 in
set_option maxHeartbeats 400000 in
theorem refH_any (w : World) : Calls Try.prog 55 #[] w fun e w' => e = .returned (.agg refHV) ∧ w.alloc (.cells refHV 91) = w' := by
  have h1 := zero8_run
  go_enter Try.func55, Try.ntmps55
  go_wp2_with (first
    | (refine wpList_build_as rfl 91 _ rfl refHV (by kernel_rfl) ?_)
    | (refine wpList_store_row rfl 91 _ _ rfl w.heap.size refHV rfl rfl 91 zero8 (Blk.new _ _ _) (by kernel_rfl) (by kernel_rfl) (by kernel_rfl) ?_))
  rw [World.setRow_alloc_new]
  exact bodyPost_ret (results_cell_row rfl _ _ w.heap.size 91 refHV (0, 0) _ rfl (Blk.new _ _ _) Try.underlying91 rfl (by kernel_rfl)) rfl ⟨rfl, rfl⟩
end Go.Proofs.Ytbkmclgddknijaa

/-
  The reference's two tables.
-/
import Derived.Test.YtjdjndginacdnaaStdSched
import Derived.Deep.WholeRow
namespace Go.Proofs.Ytjdjndginacdnaa
open Go.RowKit

def U64 (n : Nat) : Value := .int .u64 (n : Int)
def refKV : Array Value := (stdK.map U64).toArray
def refHV : Array Value := (stdH.map U64).toArray

def zero64 : Array Value := Array.replicate 64 (U64 0)
def zero8 : Array Value := Array.replicate 8 (U64 0)
theorem zero64_run (w : World) : (zeroValue 96).run Try.prog w = .ok (.agg zero64) w := by kernel_rfl
theorem zero8_run (w : World) : (zeroValue 98).run Try.prog w = .ok (.agg zero8) w := by kernel_rfl
theorem info64 : (Try.prog.info? 96).map (·.size) = some 64 := by kernel_rfl
theorem info8 : (Try.prog.info? 98).map (·.size) = some 8 := by kernel_rfl

set_option maxRecDepth 100000 in
set_option maxHeartbeats 400000 in
theorem refK_any (w : World) : Calls Try.prog 55 #[] w fun e w' => e = .returned (.agg refKV) ∧ w.alloc (.cells refKV 96) = w' := by
  have h1 := zero64_run
  go_enter Try.func55, Try.ntmps55
  go_wp2_with (first
    | (refine wpList_build_as rfl 96 _ rfl refKV (by kernel_rfl) ?_)
    | (refine wpList_store_row rfl 96 _ _ rfl w.heap.size refKV rfl rfl 96 zero64 (Blk.new _ _ _) (by kernel_rfl) (by kernel_rfl) (by kernel_rfl) ?_))
  rw [World.setRow_alloc_new]
  exact bodyPost_ret (results_cell_row rfl _ _ w.heap.size 96 refKV (0, 0) _ rfl (Blk.new _ _ _) Try.underlying96 rfl (by kernel_rfl)) rfl ⟨rfl, rfl⟩

set_option maxRecDepth 100000 in
set_option maxHeartbeats 400000 in
theorem refH_any (w : World) : Calls Try.prog 56 #[] w fun e w' => e = .returned (.agg refHV) ∧ w.alloc (.cells refHV 98) = w' := by
  have h1 := zero8_run
  go_enter Try.func56, Try.ntmps56
  go_wp2_with (first
    | (refine wpList_build_as rfl 98 _ rfl refHV (by kernel_rfl) ?_)
    | (refine wpList_store_row rfl 98 _ _ rfl w.heap.size refHV rfl rfl 98 zero8 (Blk.new _ _ _) (by kernel_rfl) (by kernel_rfl) (by kernel_rfl) ?_))
  rw [World.setRow_alloc_new]
  exact bodyPost_ret (results_cell_row rfl _ _ w.heap.size 98 refHV (0, 0) _ rfl (Blk.new _ _ _) Try.underlying98 rfl (by kernel_rfl)) rfl ⟨rfl, rfl⟩
end Go.Proofs.Ytjdjndginacdnaa

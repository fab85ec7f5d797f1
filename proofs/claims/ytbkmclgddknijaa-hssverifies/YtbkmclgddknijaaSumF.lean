/-
  sha.Sum of the table and a string.
-/
import Derived.Test.YtbkmclgddknijaaPadSumD
namespace Go.Proofs.Ytbkmclgddknijaa
open Go.RowKit

theorem tab_run {w : World} {g : Nat} (h : Blk w g 27 tabV) : (loadVar 27 ⟨g, 0, none⟩).run Try.prog w = .ok (.agg tabV) w :=
  run_loadVar_row w g 27 27 tabV (0, 0) _ h Try.underlying27 rfl (by rw [tabV_size]; exact infoTable)

set_option maxRecDepth 100000 in
set_option maxHeartbeats 400000 in
theorem sum_any (b : ByteArray) (hn : b.size ≤ 72057594037927936) (w : World) :
    Calls Try.prog 45 #[.agg tabV, .string b] w fun e w' => e = .returned (.string (SHA (nums b))) ∧ Below w.heap.size w w' := by
  have HI := Lib.hid (show (Try.prog.info? 27).map (·.size) = some tabV.size by rw [tabV_size]; exact infoTable)
  have b0 : Blk (w.alloc (.cells tabV 27)) w.heap.size 27 tabV := Blk.new _ _ _
  go_enter Try.func45, Try.ntmps45
  go_wp2_with (refine wpList_load_row rfl 27 _ rfl w.heap.size rfl 27 tabV (0, 0) _ b0 Try.underlying27 rfl HI.out ?_)
  obtain ⟨w1, hw1⟩ : ∃ w1, w.alloc (.cells tabV 27) = w1 := ⟨_, rfl⟩
  rw [hw1]
  have hB1 : Below w.heap.size w w1 := by rw [← hw1]; exact (Below.refl _ w).alloc (Nat.le_refl _) _
  clear hw1 b0
  refine (new_any _).mono ?_
  rintro e w2 ⟨rfl, hd2, hB2⟩
  have hs1 := hB1.size
  have hB2' : Below w.heap.size w w2 := hB1.trans (hB2.mono hs1)
  generalize hg : w1.heap.size + 1 = g at *
  have hgw : w.heap.size ≤ g := by omega
  clear hg hB2 hB1
  go_wp2_with fail
  refine (write_any g [] b (by show 0 + b.size ≤ _; omega) _ hd2).mono ?_
  rintro e w3 ⟨rfl, hd3, hg3⟩
  rw [List.nil_append] at hd3
  have hB3 : Below w.heap.size w w3 := hB2'.grown hg3 hB2'.size (fun k hk => by injection hk; omega)
  go_wp2_with fail
  refine (dsum_any g (nums b) (by rw [nums_length]; exact hn) _ hd3).mono ?_
  rintro e w4 ⟨rfl, hB4⟩
  have hB5 := hB3.trans (hB4.mono hB3.size)
  go_wp2
  go_ret
  exact ⟨rfl, hB5⟩
end Go.Proofs.Ytbkmclgddknijaa

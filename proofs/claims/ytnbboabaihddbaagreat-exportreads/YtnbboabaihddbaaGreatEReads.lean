/-
 reads: whatever bytes make a state that has just them, or none.
-/
import Derived.Test.YtnbboabaihddbaaGreatEImp
namespace Go.Proofs.YtnbboabaihddbaaGreat
open Go.RowKit

section
attribute [-go_sem] loadVar
set_option maxRecDepth 100000 in
set_option maxHeartbeats 2000000 in
theorem reads_any (b : ByteArray) (hb : b.size ≤ 268435456) (w : World) : Calls Tryz.prog 21 #[.agg tabV, .string b] w fun e w' => e = .returned (.bool true) ∧ Below w.heap.size w w' := by
 have HIM := Lib.hid (fun X => import_any b hb X)
 have HRM := Lib.hid (show ∀ X e w', RImp b X e w' = (((e = .returned (.tuple #[.agg zeroSt, .int .i64 2]) ∧ ∀ V, OwnW V → expB V ≠ b) ∨
  (∃ W cs, e = .returned (.tuple #[.agg cs, .int .i64 0]) ∧ StC w' (geP X.heap.size) cs W ∧ InvW W ∧ expB W = b ∧ ∀ V, OwnW V → expB V = b → V = W)) ∧ Below X.heap.size X w') from fun _ _ _ => rfl)
 have zs := zeroS
 obtain ⟨w0, hw0⟩ : ∃ w0, w.alloc (.cells tabV 30) = w0 := ⟨_, rfl⟩
 have hb0 : Below w.heap.size w w0 := by rw [← hw0]; exact (Below.refl _ w).alloc (Nat.le_refl _) _
 have kT : Blk w0 w.heap.size 30 tabV := by rw [← hw0]; exact Blk.new _ _ _
 have HW0 := Lib.hid hw0
 have lT := tab_run kT
 generalize RImp b = RI at *
 clear hw0
 go_enter Tryz.func21, Tryz.ntmps21
 go_wp2_with (rw [HW0.out])
 refine (HIM.out _).mono ?_
 rintro e w1 he
 rw [HRM.out] at he
 obtain ⟨he, hb1⟩ := he
 have hB1 := hb0.trans (hb1.mono hb0.size)
 clear hb0 hb1 kT lT HIM HRM
 rcases he with ⟨rfl, _⟩ | ⟨W, cs, rfl, hS, hi, hex, _⟩
 · have hB2 := hB1.alloc hB1.size (.cells zeroSt 41)
   have k4 : Blk (w1.alloc (.cells zeroSt 41)) w1.heap.size 41 zeroSt := Blk.new _ _ _
   have q1 := sl_req (k4.cell 0)
   have q2 := sl_hd (k4.cell 21)
   change _ = Result.ok (Value.slice none 0 0) _ at q1
   change _ = Result.ok (Value.slice none 0 0) _ at q2
   clear k4
   go_wp2_with (refine wpList_store_row rfl 41 _ _ rfl w1.heap.size zeroSt rfl rfl 41 zeroSt (Blk.new _ _ _) infoS rfl zeroSt_one ?_; rw [World.setRow_alloc_new])
   go_ret
   exact ⟨rfl, hB2⟩
 · obtain ⟨w3, hw3⟩ : ∃ w3, w1.alloc (.cells cs 41) = w3 := ⟨_, rfl⟩
   have hb3 : Below w1.heap.size w1 w3 := by rw [← hw3]; exact (Below.refl _ w1).alloc (Nat.le_refl _) _
   have k9 : Blk w3 w1.heap.size 41 cs := by rw [← hw3]; exact Blk.new _ _ _
   have hB3 := hB1.trans (hb3.mono hB1.size)
   have HW3 := Lib.hid hw3
   have HSZ := Lib.hid hS.size
   have HIS : Hid ((Tryz.prog.info? 41).map (·.size) = some (cs : Array Value).size) := Lib.hid (by rw [HSZ.out]; exact infoS)
   have HOS := Lib.hid hS.one
   have HCS : Hid ((zeroSt : Array Value).size = cs.size) := Lib.hid (by rw [HSZ.out]; rfl)
   have HEX := Lib.hid (export_any _ cs W hi w3 (hS.below hb3))
   rw [hex] at HEX
   have d9 := st_load HSZ.out k9
   have hee : (b.toList == b.toList) = true := by simp
   clear hw3 hb3 hB1 hS hi hex k9
   go_wp2_with (refine wpList_store_row rfl 41 _ _ rfl w1.heap.size cs rfl rfl 41 zeroSt (Blk.new _ _ _) HIS.out HCS.out HOS.out ?_; rw [World.setRow_alloc_new, HW3.out])
   refine HEX.out.mono ?_
   rintro e w4 ⟨rfl, hb4⟩
   have hB4 := hB3.trans (hb4.mono hB3.size)
   go_wp2
   go_ret
   exact ⟨rfl, hB4⟩
end
end Go.Proofs.YtnbboabaihddbaaGreat

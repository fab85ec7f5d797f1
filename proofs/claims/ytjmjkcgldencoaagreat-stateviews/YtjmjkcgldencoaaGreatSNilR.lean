/-
  Root over what entries answers; a map that is nil.
-/
import Derived.Test.YtjmjkcgldencoaaGreatSRoot
import Derived.Shelf.Small.Bits
import Derived.Laws.IdiomRangeMap
namespace Go.Proofs.YtjmjkcgldencoaaGreat
open Go.RowKit

/-- what entries answers -/
def REs (es : List Ent) (W : World) (e : Ending) (w' : World) : Prop := ∃ oa cap, e = .returned (.slice oa es.length cap) ∧ es.length ≤ cap ∧ Ents w' w'.heap.size oa es ∧ Below W.heap.size W w'
section
attribute [-go_sem] loadVar
set_option maxRecDepth 100000 in
set_option maxHeartbeats 2000000 in
theorem sroot_any (mv : Value) (es : List Ent) (hsz : es.length ≤ 1000000) (hG : Good 0 es) (hF : Fit es) (w : World)
    (hent : ∀ W, Below w.heap.size w W → Calls Tryz.prog 60 #[.agg tabV, mv] W (REs es W)) :
    Calls Tryz.prog 39 #[.agg tabV, mv] w fun e w' => e = .returned (.string (rootK 256 es)) ∧ Below w.heap.size w w' := by
  have hB0 := (Below.refl _ w).alloc (Nat.le_refl _) (.cells tabV 47)
  have hT0 : Blk (w.alloc (.cells tabV 47)) w.heap.size 47 tabV := Blk.new _ _ _
  have HPL := Lib.hid plant_any
  have HPR := Lib.hid (fun g oa cap hc b W hT hE => troot_any g (b := b) 256 0 rfl oa _ cap es rfl hsz hc hG hF W hT hE)
  have HEN := Lib.hid hent
  unfold REs at HEN
  generalize rootK 256 es = R at *
  obtain ⟨w0, hw0⟩ : ∃ w0, w.alloc (.cells tabV 47) = w0 := ⟨_, rfl⟩
  have HW := Lib.hid hw0
  rw [hw0] at hB0 hT0
  have HB0 := Lib.hid hB0
  have HKP : Hid (∀ W, Below w0.heap.size w0 W → (loadVar 47 ⟨w.heap.size, 0, none⟩).run Tryz.prog W = .ok (.agg tabV) W ∧ Below w0.heap.size w0 W) := Lib.hid fun W hW => ⟨tab_run (hT0.below hW hT0.lt), hW⟩
  rw [show ((0 : Nat) : Int) = 0 from rfl] at HPR
  clear hent hw0 hT0 hB0 hG hF hsz
  go_enter Tryz.func39, Tryz.ntmps39
  go_wp2
  rw [HW.out]
  go_region_held3 (fun w' => (loadVar 47 ⟨w.heap.size, 0, none⟩).run Tryz.prog w' = .ok (.agg tabV) w' ∧ Below w0.heap.size w0 w')
    ((refine HKP.out _ ?_; first | exact hE4 | exact hE3 | exact hE1 | exact (Below.refl _ _).drew | exact Below.refl _ _))
    (first
      | (have := hE3; go_at_call 59; refine (HPR.out _ oa cap hc3 _ _ hT3 hn3).mono ?_; rintro e y4 ⟨rfl, hy4⟩; have hE4 : Below w0.heap.size w0 y4 := hE3.trans (hy4.mono hE3.size))
      | (have := hE1; go_at_call 60; refine (HEN.out _ (HB0.out.trans (hE1.mono HB0.out.size))).mono ?_; rintro e y3 ⟨oa, cap, rfl, hc3, hn3, hy3⟩; have hE3 : Below w0.heap.size w0 y3 := hE1.trans (hy3.mono hE1.size); have hT3 := Blk.below hT1 hy3 hT1.lt)
      | (go_at_call 58; refine (HPL.out _).mono ?_; rintro e y1 ⟨rfl, hT1, hy1⟩; have hE1 : Below w0.heap.size w0 y1 := (Below.refl _ _).drew.trans hy1))
  have hB9 := HB0.out.trans (hE4.mono HB0.out.size)
  go_wp2
  go_ret
  exact ⟨rfl, hB9⟩
end

def lren : Go.Shelf.Ren := ⟨fun | 125 => 72 | 128 => 84 | 129 => 85 | n => n, fun | 3 => 3 | 4 => 4 | 5 => 5 | 9 => 9 | 46 => 104 | 51 => 43 | 53 => 85 | n => n, fun | n => n⟩
theorem llays : Go.Proofs.Lays.n125 Tryz.prog lren := {
  mixed := by kernel_rfl
  f125 := Tryz.func72.trans (congrArg some (by kernel_rfl))
  f128 := Tryz.func84.trans (congrArg some (by kernel_rfl))
  f129 := Tryz.func85.trans (congrArg some (by kernel_rfl))
  t3 := Tryz.underlying3, a3 := Tryz.isAgg3, z3 := Tryz.sizeOf3, v3 := Tryz.zeroValue3
  t4 := Tryz.underlying4, a4 := Tryz.isAgg4, z4 := Tryz.sizeOf4, v4 := Tryz.zeroValue4
  t5 := Tryz.underlying5, a5 := Tryz.isAgg5, z5 := Tryz.sizeOf5, v5 := Tryz.zeroValue5
  t9 := Tryz.underlying9, a9 := Tryz.isAgg9, z9 := Tryz.sizeOf9, v9 := Tryz.zeroValue9
  t46 := Tryz.underlying104, a46 := Tryz.isAgg104, z46 := Tryz.sizeOf104, v46 := Tryz.zeroValue104
  t51 := Tryz.underlying43, a51 := Tryz.isAgg43, z51 := Tryz.sizeOf43, v51 := Tryz.zeroValue43
  t53 := Tryz.underlying85, a53 := Tryz.isAgg85, z53 := Tryz.sizeOf85, v53 := Tryz.zeroValue85 }
theorem blen_small (x : Nat) (hx : x ≤ 255) (w : World) : Calls Tryz.prog 72 #[.int .u64 x] w fun e w' => e = .returned (.int .i64 (Lib.bitLen x : Nat)) ∧ w' = w := by
  have h := Any.bits_Len llays (x : Int) w (by omega) (by omega)
  rw [Int.toNat_natCast] at h
  exact h
set_option maxRecDepth 100000 in
set_option maxHeartbeats 1000000 in
theorem insert_none (p : Option Addr) (cap : Nat) (fv : Value) (w : World) :
    Calls Tryz.prog 95 #[.slice p 0 cap, .int .i64 0, .int .i64 0, fv] w fun e w' => e = .returned (.tuple #[]) ∧ w' = w := by
  go_enter Tryz.func95, Tryz.ntmps95
  go_wp2
  refine wp_loop_rounds 1 ?_
  rw [rounds_succ]
  go_wp2
  go_end0
  exact ⟨rfl, rfl⟩
set_option maxRecDepth 100000 in
set_option maxHeartbeats 1000000 in
theorem pdq_none (p : Option Addr) (cap : Nat) (lim : Int) (fv : Value) (w : World) :
    Calls Tryz.prog 90 #[.slice p 0 cap, .int .i64 0, .int .i64 0, .int .i64 lim, fv] w fun e w' => e = .returned (.tuple #[]) ∧ w' = w := by
  have hi := fun W => insert_none p cap fv W
  go_enter Tryz.func90, Tryz.ntmps90
  go_wp2
  refine wp_loop_rounds 1 ?_
  rw [rounds_succ]
  go_wp2_with (go_at_call 95; refine (hi _).mono ?_; rintro e w' ⟨rfl, rfl⟩)
  (try simp only [Exit.inBlock, Exit.then]); refine bodyPost_ret (results_none rfl _ _ _) rfl ?_
  exact ⟨rfl, rfl⟩
set_option maxRecDepth 100000 in
set_option maxHeartbeats 1000000 in
theorem sort_none (p : Option Addr) (cap : Nat) (fv : Value) (w : World) :
    Calls Tryz.prog 78 #[.slice p 0 cap, fv] w fun e w' => e = .returned (.tuple #[]) ∧ w' = w := by
  have hp := fun lim W => pdq_none p cap lim fv W
  have hl := fun W => blen_small 0 (by omega) W
  rw [show ((0 : Nat) : Int) = 0 from rfl] at hl
  go_enter Tryz.func78, Tryz.ntmps78
  go_wp2_with (first | (go_at_call 72; refine (hl _).mono ?_; rintro e w' ⟨rfl, rfl⟩) | (go_at_call 90; refine (hp _ _).mono ?_; rintro e w' ⟨rfl, rfl⟩))
  go_end0
  exact ⟨rfl, rfl⟩
set_option maxRecDepth 100000 in
set_option maxHeartbeats 1000000 in
theorem entries_nil (w : World) : Calls Tryz.prog 60 #[.agg tabV, .map none] w (REs [] w) := by
  have hrg := run_range_nilMap (P := Tryz.prog) (w.alloc (.cells tabV 47)) 55 9 9 Tryz.underlying55
  have hnx : ∀ ty, (Instr.next (.pointer (some ⟨(w.alloc (.cells tabV 47)).heap.size, 0, none⟩)) false ty).run Tryz.prog ((w.alloc (.cells tabV 47)).alloc (.mapIter none 0 #[] 0)) = _ := fun ty => run_next_nilMap _ ty 0 0 #[]
  have e1 : (w.alloc (.cells tabV 47)).heap.size = w.heap.size + 1 := by simp
  have hB0 := ((Below.refl _ w).alloc (Nat.le_refl _) (.cells tabV 47)).alloc (by omega) (.mapIter none 0 #[] 0)
  rw [e1] at hrg hnx
  have hs := fun W => sort_none none 0 (.func (.func 79) #[] #[]) W
  unfold REs
  clear e1
  go_enter Tryz.func60, Tryz.ntmps60
  go_wp2
  refine wp_loop_rounds 1 ?_
  rw [rounds_succ]
  go_wp2_with (go_at_call 78; refine (hs _).mono ?_; rintro e w' ⟨rfl, rfl⟩)
  go_ret
  exact ⟨none, 0, rfl, Nat.le_refl _, .inl rfl, hB0⟩
end Go.Proofs.YtjmjkcgldencoaaGreat

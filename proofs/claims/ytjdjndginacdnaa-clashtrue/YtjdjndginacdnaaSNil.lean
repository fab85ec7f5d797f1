/-
  Root and Prove over what entries answers; a map that is nil.
-/
import Derived.Test.YtjdjndginacdnaaLoadsSProve
import Derived.Shelf.Small.Bits
import Derived.Laws.IdiomRangeMap
namespace Go.Proofs.Ytjdjndginacdnaa
open Go.RowKit

/-- what entries answers -/
def REs (es : List Ent) (W : World) (e : Ending) (w' : World) : Prop := ∃ oa cap, e = .returned (.slice oa es.length cap) ∧ es.length ≤ cap ∧ Ents w' w'.heap.size oa es ∧ Below W.heap.size W w'
section
attribute [-go_sem] loadVar
set_option maxRecDepth 100000 in
set_option maxHeartbeats 2000000 in
theorem sprove_any (mv : Value) (es : List Ent) (hsz : es.length ≤ 1000000) (hG : Good 0 es) (hF : Fit es) (k : ByteArray) (hk : k.size ≤ 1073741824) (w : World)
    (hent : ∀ W, Below w.heap.size w W → Calls Try.prog 37 #[.agg tabV, mv] W (REs es W)) :
    Calls Try.prog 17 #[.agg tabV, mv, .string k] w fun e w' => (∃ s, PrS (pathS k) es s ∧ e = .returned (.string s)) ∧ Below w.heap.size w w' := by
  have hB0 := (Below.refl _ w).alloc (Nat.le_refl _) (.cells tabV 43)
  have hT0 : Blk (w.alloc (.cells tabV 43)) w.heap.size 43 tabV := Blk.new _ _ _
  have HPL := Lib.hid plant_any
  have HPO := Lib.hid (pathOf_any k hk)
  have HPR := Lib.hid (fun g oa cap hc W hT hE => prove_any g (pathS k) (pathS_size k) oa _ cap es rfl hsz hc hG hF W hT hE)
  have HEN := Lib.hid hent
  unfold REs at HEN
  generalize pathS k = pk at *
  obtain ⟨w0, hw0⟩ : ∃ w0, w.alloc (.cells tabV 43) = w0 := ⟨_, rfl⟩
  have HW := Lib.hid hw0
  rw [hw0] at hB0 hT0
  have HB0 := Lib.hid hB0
  have HKP : Hid (∀ W, Below w0.heap.size w0 W → (loadVar 43 ⟨w.heap.size, 0, none⟩).run Try.prog W = .ok (.agg tabV) W ∧ Below w0.heap.size w0 W) := Lib.hid fun W hW => ⟨tab_run (hT0.below hW hT0.lt), hW⟩
  clear hent hw0 hT0 hB0 hG hF hk hsz
  go_enter Try.func17, Try.ntmps17
  go_wp2
  rw [HW.out]
  go_region_held3 (fun w' => (loadVar 43 ⟨w.heap.size, 0, none⟩).run Try.prog w' = .ok (.agg tabV) w' ∧ Below w0.heap.size w0 w')
    ((refine HKP.out _ ?_; first | exact hE4 | exact hE3 | exact hE2 | exact hE1 | exact (Below.refl _ _).drew | exact Below.refl _ _))
    (first
      | (have := hE3; go_at_call 35; refine (HPR.out _ oa cap hc3 _ hT3 hn3).mono ?_; rintro e y4 ⟨⟨s, hs, rfl⟩, hy4⟩; have hE4 : Below w0.heap.size w0 y4 := hE3.trans (hy4.mono hE3.size))
      | (have := hE2; go_at_call 37; refine (HEN.out _ (HB0.out.trans (hE2.mono HB0.out.size))).mono ?_; rintro e y3 ⟨oa, cap, rfl, hc3, hn3, hy3⟩; have hE3 : Below w0.heap.size w0 y3 := hE2.trans (hy3.mono hE2.size); have hT3 := Blk.below hT2 hy3 hT2.lt)
      | (have := hE1; go_at_call 36; refine (HPO.out _).mono ?_; rintro e y2 ⟨rfl, hy2⟩; have hE2 : Below w0.heap.size w0 y2 := hE1.trans (hy2.mono hE1.size); have hT2 := Blk.below hT1 hy2 hT1.lt)
      | (go_at_call 34; refine (HPL.out _).mono ?_; rintro e y1 ⟨rfl, hT1, hy1⟩; have hE1 : Below w0.heap.size w0 y1 := (Below.refl _ _).drew.trans hy1))
  have hB9 := HB0.out.trans (hE4.mono HB0.out.size)
  go_wp2
  go_ret
  exact ⟨⟨s, hs, rfl⟩, hB9⟩
set_option maxRecDepth 100000 in
set_option maxHeartbeats 2000000 in
theorem sroot_any (mv : Value) (es : List Ent) (hsz : es.length ≤ 1000000) (hG : Good 0 es) (hF : Fit es) (w : World)
    (hent : ∀ W, Below w.heap.size w W → Calls Try.prog 37 #[.agg tabV, mv] W (REs es W)) :
    Calls Try.prog 18 #[.agg tabV, mv] w fun e w' => e = .returned (.string (rootK 256 es)) ∧ Below w.heap.size w w' := by
  have hB0 := (Below.refl _ w).alloc (Nat.le_refl _) (.cells tabV 43)
  have hT0 : Blk (w.alloc (.cells tabV 43)) w.heap.size 43 tabV := Blk.new _ _ _
  have HPL := Lib.hid plant_any
  have HPR := Lib.hid (fun g oa cap hc b W hT hE => troot_any g (b := b) 256 0 rfl oa _ cap es rfl hsz hc hG hF W hT hE)
  have HEN := Lib.hid hent
  unfold REs at HEN
  generalize rootK 256 es = R at *
  obtain ⟨w0, hw0⟩ : ∃ w0, w.alloc (.cells tabV 43) = w0 := ⟨_, rfl⟩
  have HW := Lib.hid hw0
  rw [hw0] at hB0 hT0
  have HB0 := Lib.hid hB0
  have HKP : Hid (∀ W, Below w0.heap.size w0 W → (loadVar 43 ⟨w.heap.size, 0, none⟩).run Try.prog W = .ok (.agg tabV) W ∧ Below w0.heap.size w0 W) := Lib.hid fun W hW => ⟨tab_run (hT0.below hW hT0.lt), hW⟩
  rw [show ((0 : Nat) : Int) = 0 from rfl] at HPR
  clear hent hw0 hT0 hB0 hG hF hsz
  go_enter Try.func18, Try.ntmps18
  go_wp2
  rw [HW.out]
  go_region_held3 (fun w' => (loadVar 43 ⟨w.heap.size, 0, none⟩).run Try.prog w' = .ok (.agg tabV) w' ∧ Below w0.heap.size w0 w')
    ((refine HKP.out _ ?_; first | exact hE4 | exact hE3 | exact hE1 | exact (Below.refl _ _).drew | exact Below.refl _ _))
    (first
      | (have := hE3; go_at_call 38; refine (HPR.out _ oa cap hc3 _ _ hT3 hn3).mono ?_; rintro e y4 ⟨rfl, hy4⟩; have hE4 : Below w0.heap.size w0 y4 := hE3.trans (hy4.mono hE3.size))
      | (have := hE1; go_at_call 37; refine (HEN.out _ (HB0.out.trans (hE1.mono HB0.out.size))).mono ?_; rintro e y3 ⟨oa, cap, rfl, hc3, hn3, hy3⟩; have hE3 : Below w0.heap.size w0 y3 := hE1.trans (hy3.mono hE1.size); have hT3 := Blk.below hT1 hy3 hT1.lt)
      | (go_at_call 34; refine (HPL.out _).mono ?_; rintro e y1 ⟨rfl, hT1, hy1⟩; have hE1 : Below w0.heap.size w0 y1 := (Below.refl _ _).drew.trans hy1))
  have hB9 := HB0.out.trans (hE4.mono HB0.out.size)
  go_wp2
  go_ret
  exact ⟨rfl, hB9⟩
end

def lren : Go.Shelf.Ren := ⟨fun | 125 => 77 | 128 => 96 | 129 => 97 | n => n, fun | 3 => 3 | 4 => 4 | 5 => 5 | 9 => 9 | 46 => 88 | 51 => 39 | 53 => 64 | n => n, fun | n => n⟩
theorem llays : Go.Proofs.Lays.n125 Try.prog lren := {
  mixed := by kernel_rfl
  f125 := Try.func77.trans (congrArg some (by kernel_rfl))
  f128 := Try.func96.trans (congrArg some (by kernel_rfl))
  f129 := Try.func97.trans (congrArg some (by kernel_rfl))
  t3 := Try.underlying3, a3 := Try.isAgg3, z3 := Try.sizeOf3, v3 := Try.zeroValue3
  t4 := Try.underlying4, a4 := Try.isAgg4, z4 := Try.sizeOf4, v4 := Try.zeroValue4
  t5 := Try.underlying5, a5 := Try.isAgg5, z5 := Try.sizeOf5, v5 := Try.zeroValue5
  t9 := Try.underlying9, a9 := Try.isAgg9, z9 := Try.sizeOf9, v9 := Try.zeroValue9
  t46 := Try.underlying88, a46 := Try.isAgg88, z46 := Try.sizeOf88, v46 := Try.zeroValue88
  t51 := Try.underlying39, a51 := Try.isAgg39, z51 := Try.sizeOf39, v51 := Try.zeroValue39
  t53 := Try.underlying64, a53 := Try.isAgg64, z53 := Try.sizeOf64, v53 := Try.zeroValue64 }
theorem blen_small (x : Nat) (hx : x ≤ 255) (w : World) : Calls Try.prog 77 #[.int .u64 x] w fun e w' => e = .returned (.int .i64 (Lib.bitLen x : Nat)) ∧ w' = w := by
  have h := Any.bits_Len llays (x : Int) w (by omega) (by omega)
  rw [Int.toNat_natCast] at h
  exact h
set_option maxRecDepth 100000 in
set_option maxHeartbeats 1000000 in
theorem insert_none (p : Option Addr) (cap : Nat) (fv : Value) (w : World) :
    Calls Try.prog 88 #[.slice p 0 cap, .int .i64 0, .int .i64 0, fv] w fun e w' => e = .returned (.tuple #[]) ∧ w' = w := by
  go_enter Try.func88, Try.ntmps88
  go_wp2
  refine wp_loop_rounds 1 ?_
  rw [rounds_succ]
  go_wp2
  go_end0
  exact ⟨rfl, rfl⟩
set_option maxRecDepth 100000 in
set_option maxHeartbeats 1000000 in
theorem pdq_none (p : Option Addr) (cap : Nat) (lim : Int) (fv : Value) (w : World) :
    Calls Try.prog 76 #[.slice p 0 cap, .int .i64 0, .int .i64 0, .int .i64 lim, fv] w fun e w' => e = .returned (.tuple #[]) ∧ w' = w := by
  have hi := fun W => insert_none p cap fv W
  go_enter Try.func76, Try.ntmps76
  go_wp2
  refine wp_loop_rounds 1 ?_
  rw [rounds_succ]
  go_wp2_with (go_at_call 88; refine (hi _).mono ?_; rintro e w' ⟨rfl, rfl⟩)
  (try simp only [Exit.inBlock, Exit.then]); refine bodyPost_ret (results_none rfl _ _ _) rfl ?_
  exact ⟨rfl, rfl⟩
set_option maxRecDepth 100000 in
set_option maxHeartbeats 1000000 in
theorem sort_none (p : Option Addr) (cap : Nat) (fv : Value) (w : World) :
    Calls Try.prog 63 #[.slice p 0 cap, fv] w fun e w' => e = .returned (.tuple #[]) ∧ w' = w := by
  have hp := fun lim W => pdq_none p cap lim fv W
  have hl := fun W => blen_small 0 (by omega) W
  rw [show ((0 : Nat) : Int) = 0 from rfl] at hl
  go_enter Try.func63, Try.ntmps63
  go_wp2_with (first | (go_at_call 77; refine (hl _).mono ?_; rintro e w' ⟨rfl, rfl⟩) | (go_at_call 76; refine (hp _ _).mono ?_; rintro e w' ⟨rfl, rfl⟩))
  go_end0
  exact ⟨rfl, rfl⟩
set_option maxRecDepth 100000 in
set_option maxHeartbeats 1000000 in
theorem entries_nil (w : World) : Calls Try.prog 37 #[.agg tabV, .map none] w (REs [] w) := by
  have hrg := run_range_nilMap (P := Try.prog) (w.alloc (.cells tabV 43)) 46 9 9 Try.underlying46
  have hnx : ∀ ty, (Instr.next (.pointer (some ⟨(w.alloc (.cells tabV 43)).heap.size, 0, none⟩)) false ty).run Try.prog ((w.alloc (.cells tabV 43)).alloc (.mapIter none 0 #[] 0)) = _ := fun ty => run_next_nilMap _ ty 0 0 #[]
  have e1 : (w.alloc (.cells tabV 43)).heap.size = w.heap.size + 1 := by simp
  have hB0 := ((Below.refl _ w).alloc (Nat.le_refl _) (.cells tabV 43)).alloc (by omega) (.mapIter none 0 #[] 0)
  rw [e1] at hrg hnx
  have hs := fun W => sort_none none 0 (.func (.func 64) #[] #[]) W
  unfold REs
  clear e1
  go_enter Try.func37, Try.ntmps37
  go_wp2
  refine wp_loop_rounds 1 ?_
  rw [rounds_succ]
  go_wp2_with (go_at_call 63; refine (hs _).mono ?_; rintro e w' ⟨rfl, rfl⟩)
  go_ret
  exact ⟨none, 0, rfl, Nat.le_refl _, .inl rfl, hB0⟩
theorem algN_nil (p : ByteArray) : ∀ k, algN p k [] = []
  | 0 => rfl
  | k + 1 => by rw [algN, algN_nil p k]; unfold alg; split <;> rfl
theorem rb_nil (p : ByteArray) : ∀ k, k ≤ 256 → rb p [] k = []
  | 0, _ => rfl
  | k + 1, h => by
    have ht : tel p [] k = false := by
      unfold tel bes
      rw [algN_nil]
      have : oth k p [] = [] := by unfold oth; split <;> rfl
      rw [this, rootK_nil, emp, show 256 - (k + 1) = 255 - k by omega]
      simp
    rw [rb, rb_nil p k (by omega), ht]
    rfl
end Go.Proofs.Ytjdjndginacdnaa

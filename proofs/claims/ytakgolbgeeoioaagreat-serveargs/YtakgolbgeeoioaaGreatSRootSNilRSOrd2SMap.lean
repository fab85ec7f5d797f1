/-
  Roots of entries at a depth. Root over what entries answers; a map that is nil. order of two entries; slices.SortFunc of at most 12 entries. Maps of pairs: what is put, and what it comes to.
-/
import Derived.Test.YtakgolbgeeoioaaGreatSPartSSortSOrd
import Derived.Test.YtakgolbgeeoioaaGreatHStepSTreeSConvSPlantSBitSRefASFitP
import Derived.Shelf.Small.Bits
import Derived.Laws.IdiomRangeMap
import Derived.Test.YtakgolbgeeoioaaGreatSRefBSRefCMSRefCYRef1YRef2
import Derived.Maps.Ext
import Derived.Maps.OwnOps
import Derived.Maps.RangeWalk
import Derived.Maps.StringElems
import Derived.Sort.KeysCollected
namespace Go.Proofs.YtakgolbgeeoioaaGreat
open Go.RowKit

/-- the root of entries, so many depths above the last -/
def rootK : Nat → List Ent → ByteArray
 | 0, [] => empK 0
 | 0, x :: _ => ownS x.key x.val
 | k + 1, [] => empK (k + 1)
 | k + 1, x :: r => nodS (rootK k (zer (255 - k) (x :: r))) (rootK k (one (255 - k) (x :: r)))
theorem rootK_nil (k : Nat) : rootK k [] = empK k := by cases k <;> simp [rootK]
theorem rootK_size (k : Nat) (es : List Ent) : (rootK k es).size = 32 := by
 cases k with
 | zero => cases es with
  | nil => rw [rootK]; exact empK_size _
  | cons x r => rw [rootK]; exact ownS_size _ _
 | succ k => cases es with
  | nil => rw [rootK]; exact empK_size _
  | cons x r => rw [rootK]; exact nodS_size _ _
/-- keys and values that are not too long -/
def Fit (es : List Ent) : Prop := ∀ x ∈ es, x.key.size ≤ 1073741824 ∧ x.val.size ≤ 1073741824
theorem Fit.filter {es : List Ent} (h : Fit es) (f : Ent → Bool) : Fit (es.filter f) := fun x hx => h x (List.mem_filter.1 hx).1
set_option maxRecDepth 100000 in
theorem bitAt_any (d : Nat) (w : World) : Calls Tryz.prog 102 #[.int .i64 d] w fun e w' => e = .returned (.func (.func 116) #[] #[.pointer (some ⟨w.heap.size, 0, none⟩)]) ∧ w.alloc (.cells #[.int .i64 d] 3) = w' := by
 go_enter Tryz.func102, Tryz.ntmps102
 go_wp2
 go_ret
 exact ⟨rfl, rfl⟩

section
attribute [-go_sem] loadVar
set_option maxRecDepth 100000 in
set_option maxHeartbeats 2000000 in
theorem troot_any (g : Nat) {b : Nat} (k : Nat) : ∀ (d : Nat) (_ : d + k = 256) (oa : Option Addr) (n cap : Nat) (es : List Ent) (_ : es.length = n) (_ : n ≤ 1000000) (_ : n ≤ cap) (_ : Good d es) (_ : Fit es) (w : World) (_ : Tre w g) (_ : Ents w b oa es),
 Calls Tryz.prog 79 #[.pointer (some ⟨g, 0, none⟩), .int .i64 d, .slice oa n cap] w fun e w' => e = .returned (.string (rootK k es)) ∧ Below w.heap.size w w' := by
 induction k with
 | zero =>
  intro d hd oa n cap es hn hsz hcap hG hF w hT hE
  obtain rfl : d = 256 := by omega
  cases es with
  | nil =>
   obtain rfl : n = 0 := by simpa using hn.symm
   have hc := txt_load (tre_cell hT (d := 256) (by decide))
   rw [rootK_nil]
   change (loadVar 9 _).run Tryz.prog w = .ok (.string (empK 0)) w at hc
   generalize empK 0 = R at *
   rw [show (72 + 256 : Nat) = 328 from rfl] at hc
   clear hG hF hT hE hn
   go_enter Tryz.func79, Tryz.ntmps79
   go_wp2
   go_ret
   exact ⟨rfl, Below.refl _ _⟩
  | cons x r =>
   rcases hE with hE | ⟨g1, o, rfl, _, hE⟩
   · cases hE
   obtain ⟨_, e1, e2⟩ := hE.2 0 (by simp)
   simp only [List.getElem_cons_zero, Nat.zero_mul, Nat.add_zero] at e1 e2
   have hn1 : 1 ≤ n := by rw [← hn]; simp
   have hn0 : ((n : Int) == 0) = false := by rw [beq_eq_false_iff_ne]; omega
   have hnp : 0 < n := hn1
   obtain ⟨f1, f2⟩ := hF x (by simp)
   have HV := Lib.hid (fun W h1 h2 => tvalue_any g x.key x.val f1 f2 W h1 h2)
   rw [show rootK 0 (x :: r) = ownS x.key x.val by rw [rootK]]
   have HT := Lib.hid hT
   have HKP : Hid (∀ W, Below w.heap.size w W → ((loadVar 9 ⟨g1, o + 1, none⟩).run Tryz.prog W = .ok (.string x.key) W ∧ (loadVar 9 ⟨g1, o + 2, none⟩).run Tryz.prog W = .ok (.string x.val) W) ∧ Below w.heap.size w W) :=
    Lib.hid fun W hW => ⟨⟨txt_load ((hW.cell (p := ⟨g1, o + 1, none⟩) hE.1).trans e1), txt_load ((hW.cell (p := ⟨g1, o + 2, none⟩) hE.1).trans e2)⟩, hW⟩
   generalize ownS x.key x.val = R at *
   generalize x.key = X at *
   generalize x.val = Y at *
   clear hG hF hT hE e1 e2 f1 f2 hn
   go_enter Tryz.func79, Tryz.ntmps79
   go_wp2
   go_region_held3 (fun w' => ((loadVar 9 ⟨g1, o + 1, none⟩).run Tryz.prog w' = .ok (.string X) w' ∧ (loadVar 9 ⟨g1, o + 2, none⟩).run Tryz.prog w' = .ok (.string Y) w') ∧ Below w.heap.size w w')
    ((refine HKP.out _ ?_; first | exact hB1' | exact (Below.refl _ _).drew | exact Below.refl _ _))
    (first
     | (go_at_call 100; refine (HV.out w.drew HT.out.lt (fun W hW => tre_tab (Blk.below (w := w.drew) HT.out hW HT.out.lt))).mono ?_; rintro e w1 ⟨rfl, hb1⟩; have hB1' : Below w.heap.size w w1 := (Below.refl _ _).drew.trans hb1))
   go_wp2
   go_ret
   exact ⟨rfl, hB1'⟩
 | succ k ih =>
  intro d hd oa n cap es hn hsz hcap hG hF w hT hE
  have hd1 : d < 256 := by omega
  cases es with
  | nil =>
   obtain rfl : n = 0 := by simpa using hn.symm
   have hc := txt_load (tre_cell hT (d := d) (by omega))
   rw [rootK_nil]
   have he : emp d = empK (k + 1) := by unfold emp; rw [show 256 - d = k + 1 by omega]
   rw [he] at hc
   generalize empK (k + 1) = R at *
   have hd7 : (d : Int) < 257 := by omega
   clear hG hF hT hE hn he
   go_enter Tryz.func79, Tryz.ntmps79
   go_wp2
   go_ret
   exact ⟨rfl, Below.refl _ _⟩
  | cons x r =>
   have hn1 : 1 ≤ n := by rw [← hn]; simp
   have hn0 : ((n : Int) == 0) = false := by rw [beq_eq_false_iff_ne]; omega
   have hd2 : ((d : Int) == 256) = false := by rw [beq_eq_false_iff_ne]; omega
   have HP := Lib.hid (fun W c hE' hc => part_any (b := b) d c hd1 oa cap n (x :: r) hn hsz hcap hG.size (hG.mon hd1) W hE' hc)
   have HR : Hid (rootK (k + 1) (x :: r) = nodS (rootK k (zer d (x :: r))) (rootK k (one d (x :: r)))) := Lib.hid (by rw [rootK, show 255 - k = d by omega])
   have hl1 : (zer d (x :: r)).length ≤ n := by rw [← hn]; exact List.length_filter_le _ _
   have hl2 : (one d (x :: r)).length ≤ n := by rw [← hn]; exact List.length_filter_le _ _
   have H1 := Lib.hid (fun oa cap hc W hT hE => ih (d + 1) (by omega) oa _ cap (zer d (x :: r)) rfl (by omega) hc hG.zer (hF.filter _) W hT hE)
   have H2 := Lib.hid (fun oa cap hc W hT hE => ih (d + 1) (by omega) oa _ cap (one d (x :: r)) rfl (by omega) hc hG.one (hF.filter _) W hT hE)
   have HJ := Lib.hid (fun W hT => tjoin_any g (rootK k (zer d (x :: r))) (rootK k (one d (x :: r))) (by rw [rootK_size]; decide) (by rw [rootK_size]; decide) W hT)
   rw [← HR.out] at HJ
   have HT := Lib.hid hT
   have HE := Lib.hid hE
   unfold RPs at HP
   generalize rootK (k + 1) (x :: r) = R at *
   generalize rootK k (zer d (x :: r)) = R1 at *
   generalize rootK k (one d (x :: r)) = R2 at *
   generalize zer d (x :: r) = zs at *
   generalize one d (x :: r) = os at *
   generalize zs.length = n1 at *
   generalize os.length = n2 at *
   have e1 : ((d + 1 : Nat) : Int) = (d : Int) + 1 := by omega
   rw [e1] at H1 H2
   clear hG hF hT hn ih HR hE hl1 hl2 hd
   have hB0 := (Below.refl _ w).alloc (Nat.le_refl _) (.cells #[.int .i64 d] 3)
   have hcd := (Blk.new w 3 #[.int .i64 d]).cell 0
   go_enter Tryz.func79, Tryz.ntmps79
   go_wp2_with fail
   refine (bitAt_any d _).mono ?_
   rintro e w1 ⟨rfl, rfl⟩
   go_wp2_with fail
   refine (HP.out _ _ (HE.out.below hB0) hcd).mono ?_
   rintro e w2 ⟨o1, c1, o2, c2, rfl, hz, ho, hc1, hc2, hB2⟩
   have hB2' := hB0.trans (hB2.mono hB0.size)
   have hT2 := HT.out.below hB2' HT.out.lt
   clear hB0 hB2 HP hcd
   go_wp2_with fail
   refine (H1.out o1 c1 hc1 _ hT2 hz).mono ?_
   rintro e w3 ⟨rfl, hB3⟩
   have ho3 := ho.below hB3
   have hT3 := hT2.below hB3 hT2.lt
   have hB3' := hB2'.trans (hB3.mono hB2'.size)
   clear hB2' hB3 hz ho hT2
   go_wp2_with fail
   refine (H2.out o2 c2 hc2 _ hT3 ho3).mono ?_
   rintro e w4 ⟨rfl, hB4⟩
   have hT4 := hT3.below hB4 hT3.lt
   have hB4' := hB3'.trans (hB4.mono hB3'.size)
   clear hB3' hB4 ho3 hT3
   go_wp2_with fail
   refine (HJ.out _ (tre_tab hT4)).mono ?_
   rintro e w5 ⟨rfl, hB5⟩
   have hB5' := hB4'.trans (hB5.mono hB4'.size)
   go_wp2
   go_ret
   exact ⟨rfl, hB5'⟩
end
end Go.Proofs.YtakgolbgeeoioaaGreat
namespace Go.Proofs.YtakgolbgeeoioaaGreat
open Go.RowKit

/-- what entries answers -/
def REs (es : List Ent) (W : World) (e : Ending) (w' : World) : Prop := ∃ oa cap, e = .returned (.slice oa es.length cap) ∧ es.length ≤ cap ∧ Ents w' w'.heap.size oa es ∧ Below W.heap.size W w'
section
attribute [-go_sem] loadVar
set_option maxRecDepth 100000 in
set_option maxHeartbeats 2000000 in
theorem sroot_any (mv : Value) (es : List Ent) (hsz : es.length ≤ 1000000) (hG : Good 0 es) (hF : Fit es) (w : World)
 (hent : ∀ W, Below w.heap.size w W → Calls Tryz.prog 80 #[.agg tabV, mv] W (REs es W)) :
 Calls Tryz.prog 49 #[.agg tabV, mv] w fun e w' => e = .returned (.string (rootK 256 es)) ∧ Below w.heap.size w w' := by
 have hB0 := (Below.refl _ w).alloc (Nat.le_refl _) (.cells tabV 29)
 have hT0 : Blk (w.alloc (.cells tabV 29)) w.heap.size 29 tabV := Blk.new _ _ _
 have HPL := Lib.hid plant_any
 have HPR := Lib.hid (fun g oa cap hc b W hT hE => troot_any g (b := b) 256 0 rfl oa _ cap es rfl hsz hc hG hF W hT hE)
 have HEN := Lib.hid hent
 unfold REs at HEN
 generalize rootK 256 es = R at *
 obtain ⟨w0, hw0⟩ : ∃ w0, w.alloc (.cells tabV 29) = w0 := ⟨_, rfl⟩
 have HW := Lib.hid hw0
 rw [hw0] at hB0 hT0
 have HB0 := Lib.hid hB0
 have HKP : Hid (∀ W, Below w0.heap.size w0 W → (loadVar 29 ⟨w.heap.size, 0, none⟩).run Tryz.prog W = .ok (.agg tabV) W ∧ Below w0.heap.size w0 W) := Lib.hid fun W hW => ⟨tab_run (hT0.below hW hT0.lt), hW⟩
 rw [show ((0 : Nat) : Int) = 0 from rfl] at HPR
 clear hent hw0 hT0 hB0 hG hF hsz
 go_enter Tryz.func49, Tryz.ntmps49
 go_wp2
 rw [HW.out]
 go_region_held3 (fun w' => (loadVar 29 ⟨w.heap.size, 0, none⟩).run Tryz.prog w' = .ok (.agg tabV) w' ∧ Below w0.heap.size w0 w')
  ((refine HKP.out _ ?_; first | exact hE4 | exact hE3 | exact hE1 | exact (Below.refl _ _).drew | exact Below.refl _ _))
  (first
   | (have := hE3; go_at_call 79; refine (HPR.out _ oa cap hc3 _ _ hT3 hn3).mono ?_; rintro e y4 ⟨rfl, hy4⟩; have hE4 : Below w0.heap.size w0 y4 := hE3.trans (hy4.mono hE3.size))
   | (have := hE1; go_at_call 80; refine (HEN.out _ (HB0.out.trans (hE1.mono HB0.out.size))).mono ?_; rintro e y3 ⟨oa, cap, rfl, hc3, hn3, hy3⟩; have hE3 : Below w0.heap.size w0 y3 := hE1.trans (hy3.mono hE1.size); have hT3 := Blk.below hT1 hy3 hT1.lt)
   | (go_at_call 78; refine (HPL.out _).mono ?_; rintro e y1 ⟨rfl, hT1, hy1⟩; have hE1 : Below w0.heap.size w0 y1 := (Below.refl _ _).drew.trans hy1))
 have hB9 := HB0.out.trans (hE4.mono HB0.out.size)
 go_wp2
 go_ret
 exact ⟨rfl, hB9⟩
end

def lren : Go.Shelf.Ren := ⟨fun | 125 => 98 | 128 => 112 | 129 => 113 | n => n, fun | 3 => 3 | 4 => 4 | 5 => 5 | 9 => 9 | 46 => 102 | 51 => 25 | 53 => 67 | n => n, fun | n => n⟩
theorem llays : Go.Proofs.Lays.n125 Tryz.prog lren := {
 mixed := by kernel_rfl
 f125 := Tryz.func98.trans (congrArg some (by kernel_rfl))
 f128 := Tryz.func112.trans (congrArg some (by kernel_rfl))
 f129 := Tryz.func113.trans (congrArg some (by kernel_rfl))
 t3 := Tryz.underlying3, a3 := Tryz.isAgg3, z3 := Tryz.sizeOf3, v3 := Tryz.zeroValue3
 t4 := Tryz.underlying4, a4 := Tryz.isAgg4, z4 := Tryz.sizeOf4, v4 := Tryz.zeroValue4
 t5 := Tryz.underlying5, a5 := Tryz.isAgg5, z5 := Tryz.sizeOf5, v5 := Tryz.zeroValue5
 t9 := Tryz.underlying9, a9 := Tryz.isAgg9, z9 := Tryz.sizeOf9, v9 := Tryz.zeroValue9
 t46 := Tryz.underlying102, a46 := Tryz.isAgg102, z46 := Tryz.sizeOf102, v46 := Tryz.zeroValue102
 t51 := Tryz.underlying25, a51 := Tryz.isAgg25, z51 := Tryz.sizeOf25, v51 := Tryz.zeroValue25
 t53 := Tryz.underlying67, a53 := Tryz.isAgg67, z53 := Tryz.sizeOf67, v53 := Tryz.zeroValue67 }
theorem blen_small (x : Nat) (hx : x ≤ 255) (w : World) : Calls Tryz.prog 98 #[.int .u64 x] w fun e w' => e = .returned (.int .i64 (Lib.bitLen x : Nat)) ∧ w' = w := by
 have h := Any.bits_Len llays (x : Int) w (by omega) (by omega)
 rw [Int.toNat_natCast] at h
 exact h
set_option maxRecDepth 100000 in
set_option maxHeartbeats 1000000 in
theorem insert_none (p : Option Addr) (cap : Nat) (fv : Value) (w : World) :
 Calls Tryz.prog 123 #[.slice p 0 cap, .int .i64 0, .int .i64 0, fv] w fun e w' => e = .returned (.tuple #[]) ∧ w' = w := by
 go_enter Tryz.func123, Tryz.ntmps123
 go_wp2
 refine wp_loop_rounds 1 ?_
 rw [rounds_succ]
 go_wp2
 go_end0
 exact ⟨rfl, rfl⟩
set_option maxRecDepth 100000 in
set_option maxHeartbeats 1000000 in
theorem pdq_none (p : Option Addr) (cap : Nat) (lim : Int) (fv : Value) (w : World) :
 Calls Tryz.prog 117 #[.slice p 0 cap, .int .i64 0, .int .i64 0, .int .i64 lim, fv] w fun e w' => e = .returned (.tuple #[]) ∧ w' = w := by
 have hi := fun W => insert_none p cap fv W
 go_enter Tryz.func117, Tryz.ntmps117
 go_wp2
 refine wp_loop_rounds 1 ?_
 rw [rounds_succ]
 go_wp2_with (go_at_call 123; refine (hi _).mono ?_; rintro e w' ⟨rfl, rfl⟩)
 (try simp only [Exit.inBlock, Exit.then]); refine bodyPost_ret (results_none rfl _ _ _) rfl ?_
 exact ⟨rfl, rfl⟩
set_option maxRecDepth 100000 in
set_option maxHeartbeats 1000000 in
theorem sort_none (p : Option Addr) (cap : Nat) (fv : Value) (w : World) :
 Calls Tryz.prog 103 #[.slice p 0 cap, fv] w fun e w' => e = .returned (.tuple #[]) ∧ w' = w := by
 have hp := fun lim W => pdq_none p cap lim fv W
 have hl := fun W => blen_small 0 (by omega) W
 rw [show ((0 : Nat) : Int) = 0 from rfl] at hl
 go_enter Tryz.func103, Tryz.ntmps103
 go_wp2_with (first | (go_at_call 98; refine (hl _).mono ?_; rintro e w' ⟨rfl, rfl⟩) | (go_at_call 117; refine (hp _ _).mono ?_; rintro e w' ⟨rfl, rfl⟩))
 go_end0
 exact ⟨rfl, rfl⟩
set_option maxRecDepth 100000 in
set_option maxHeartbeats 1000000 in
theorem entries_nil (w : World) : Calls Tryz.prog 80 #[.agg tabV, .map none] w (REs [] w) := by
 have hrg := run_range_nilMap (P := Tryz.prog) (w.alloc (.cells tabV 29)) 110 9 9 Tryz.underlying110
 have hnx : ∀ ty, (Instr.next (.pointer (some ⟨(w.alloc (.cells tabV 29)).heap.size, 0, none⟩)) false ty).run Tryz.prog ((w.alloc (.cells tabV 29)).alloc (.mapIter none 0 #[] 0)) = _ := fun ty => run_next_nilMap _ ty 0 0 #[]
 have e1 : (w.alloc (.cells tabV 29)).heap.size = w.heap.size + 1 := by simp
 have hB0 := ((Below.refl _ w).alloc (Nat.le_refl _) (.cells tabV 29)).alloc (by omega) (.mapIter none 0 #[] 0)
 rw [e1] at hrg hnx
 have hs := fun W => sort_none none 0 (.func (.func 104) #[] #[]) W
 unfold REs
 clear e1
 go_enter Tryz.func80, Tryz.ntmps80
 go_wp2
 refine wp_loop_rounds 1 ?_
 rw [rounds_succ]
 go_wp2_with (go_at_call 103; refine (hs _).mono ?_; rintro e w' ⟨rfl, rfl⟩)
 go_ret
 exact ⟨none, 0, rfl, Nat.le_refl _, .inl rfl, hB0⟩
end Go.Proofs.YtakgolbgeeoioaaGreat
namespace Go.Proofs.YtakgolbgeeoioaaGreat
open Go.RowKit Go.Shelf Go.Sort

section
attribute [-go_sem] loadVar
set_option maxRecDepth 100000 in
set_option maxHeartbeats 2000000 in
theorem order_any (p1 k1 v1 p2 k2 v2 : ByteArray) (W : World) :
 Calls Tryz.prog 104 #[.agg #[.string p1, .string k1, .string v1], .agg #[.string p2, .string k2, .string v2]] W fun e w' => e = .returned (.int .i64 (orI (cmpS p1 p2) (cmpS k1 k2))) ∧ ∃ q os', w' = grow (W.drewN q) os' := by
 have HC1 := Lib.hid (compare_any p1 p2)
 have HC2 := Lib.hid (compare_any k1 k2)
 have HO := Lib.hid (fun g w h1 h2 => or_any g (cmpS p1 p2) (cmpS k1 k2) w h1 h2)
 obtain ⟨w0, hw0⟩ : ∃ w0, (W.alloc (.cells #[.string p1, .string k1, .string v1] 163)).alloc (.cells #[.string p2, .string k2, .string v2] 163) = w0 := ⟨_, rfl⟩
 have b0 : Blk w0 W.heap.size 163 #[.string p1, .string k1, .string v1] := by rw [← hw0]; exact (Blk.new _ _ _).alloc _
 have b1 : Blk w0 (W.heap.size + 1) 163 #[.string p2, .string k2, .string v2] := by rw [← hw0]; exact Blk.new_at (by simp)
 have HGR : Hid (∀ w', GR w0 w' → ∃ q os', w' = grow (W.drewN q) os') := Lib.hid fun w' h => by
  obtain ⟨q, os, rfl⟩ := h
  refine ⟨q, #[.cells #[.string p1, .string k1, .string v1] 163] ++ #[.cells #[.string p2, .string k2, .string v2] 163] ++ os, ?_⟩
  rw [← hw0, alloc_eq_grow, alloc_eq_grow, grow_grow]
  show grow (grow (W.drewN q) _) os = _
  rw [grow_grow]
 have HW0 := Lib.hid hw0
 have HKP : Hid (∀ w', GR w0 w' → ((loadVar 9 ⟨W.heap.size, 0, none⟩).run Tryz.prog w' = .ok (.string p1) w' ∧ (loadVar 9 ⟨W.heap.size, 1, none⟩).run Tryz.prog w' = .ok (.string k1) w' ∧ (loadVar 9 ⟨W.heap.size + 1, 0, none⟩).run Tryz.prog w' = .ok (.string p2) w' ∧ (loadVar 9 ⟨W.heap.size + 1, 1, none⟩).run Tryz.prog w' = .ok (.string k2) w') ∧ GR w0 w') :=
  Lib.hid fun w' h => ⟨⟨txt_load (h.cell (b0.cell 0)), txt_load (h.cell (b0.cell 1)), txt_load (h.cell (b1.cell 0)), txt_load (h.cell (b1.cell 1))⟩, h⟩
 generalize orI (cmpS p1 p2) (cmpS k1 k2) = R at *
 generalize cmpS p1 p2 = c1 at *
 generalize cmpS k1 k2 = c2 at *
 have hc0 := (Blk.new w0.drew 3 #[.int .i64 c1, .int .i64 c2]).cell 0
 have hc1 := (Blk.new w0.drew 3 #[.int .i64 c1, .int .i64 c2]).cell 1
 clear hw0 b0 b1
 go_enter Tryz.func104, Tryz.ntmps104
 go_wp2_with (rw [HW0.out])
 refine wp_region_held_drew (S := fun w' => ((loadVar 9 ⟨W.heap.size, 0, none⟩).run Tryz.prog w' = .ok (.string p1) w' ∧ (loadVar 9 ⟨W.heap.size, 1, none⟩).run Tryz.prog w' = .ok (.string k1) w' ∧ (loadVar 9 ⟨W.heap.size + 1, 0, none⟩).run Tryz.prog w' = .ok (.string p2) w' ∧ (loadVar 9 ⟨W.heap.size + 1, 1, none⟩).run Tryz.prog w' = .ok (.string k2) w') ∧ GR w0 w') (by kernel_rfl) ?_ (fun hHeld0 => ?_)
 · (refine HKP.out _ ?_; first | exact (GR.refl _).drew | exact ((GR.refl _).drew).alloc _ | exact GR.refl _)
 iterate 8 (apply tkF [0, 1, 2, 3, 5, 6, 7, 8] rfl rfl (by kernel_rfl) (fun _ _ _ h => h) (by rfl); (case hy => (intro w hSw; (try dsimp only at hSw); go_simp; try with_reducible rfl)); (case hS => assumption); (try simp only [Act.put, List.setIfInBounds_toArray, List.set_cons_zero, List.set_cons_succ]))
 refine doH (i := 4) rfl (by kernel_rfl) (by rfl) (fun K hK => ?_)
 go_simp
 (go_at_call 119; refine (HC1.out _).mono ?_; rintro e y1 ⟨rfl, rfl⟩)
 go_wp2_with fail
 refine hK.out _ _ ?_ (fun hHeld4 => ?_)
 · (refine HKP.out _ ?_; first | exact (GR.refl _).drew | exact ((GR.refl _).drew).alloc _ | exact GR.refl _)
 clear hK K hHeld0
 (try simp only [Act.put, List.setIfInBounds_toArray, List.set_cons_zero, List.set_cons_succ])
 refine doH (i := 9) rfl (by kernel_rfl) (by rfl) (fun K hK => ?_)
 go_simp
 (go_at_call 119; refine (HC2.out _).mono ?_; rintro e y1 ⟨rfl, rfl⟩)
 go_wp2_with fail
 refine hK.out _ _ ?_ (fun hHeld9 => ?_)
 · (refine HKP.out _ ?_; first | exact (GR.refl _).drew | exact ((GR.refl _).drew).alloc _ | exact GR.refl _)
 clear hK K hHeld4
 (try simp only [Act.put, List.setIfInBounds_toArray, List.set_cons_zero, List.set_cons_succ])
 refine doH (i := 10) rfl (by kernel_rfl) (by rfl) (fun K hK => ?_)
 go_simp
 refine hK.out _ _ ?_ (fun hHeld10 => ?_)
 · (refine HKP.out _ ?_; first | exact (GR.refl _).drew | exact ((GR.refl _).drew).alloc _ | exact GR.refl _)
 clear hK K hHeld9
 (try simp only [Act.put, List.setIfInBounds_toArray, List.set_cons_zero, List.set_cons_succ])
 refine doH (i := 11) rfl (by kernel_rfl) (by rfl) (fun K hK => ?_)
 go_simp
 (go_at_call 118; refine (HO.out _ _ hc0 hc1).mono ?_; rintro e y1 ⟨rfl, rfl⟩)
 go_wp2_with fail
 refine hK.out _ _ ?_ (fun hHeld11 => ?_)
 · (refine HKP.out _ ?_; first | exact (GR.refl _).drew | exact ((GR.refl _).drew).alloc _ | exact GR.refl _)
 clear hK K hHeld10
 (try simp only [Act.put, List.setIfInBounds_toArray, List.set_cons_zero, List.set_cons_succ])
 (apply tkF [12] rfl rfl (by kernel_rfl) (fun _ _ _ h => h) (by rfl); (case hy => (intro w hSw; (try dsimp only at hSw); go_simp; try with_reducible rfl)); (case hS => assumption); (try simp only [Act.put, List.setIfInBounds_toArray, List.set_cons_zero, List.set_cons_succ]))
 refine wpAnyH_done (by kernel_rfl) ?_ _
 go_wp2
 go_ret
 exact ⟨rfl, HGR.out _ (((GR.refl _).drew).alloc _)⟩
end

/-- a key of a map, with its path and its value -/
def entK (val : ByteArray → ByteArray) (k : ByteArray) : Ent := ⟨pathS k, k, val k⟩
def cfK (x y : ByteArray) : Int := orI (cmpS (pathS x) (pathS y)) (cmpS x y)
/-- the world in which the entries lie so -/
abbrev sortedW (val : ByteArray → ByteArray) (w : World) (g n : Nat) (d : Array ByteArray) (os : Array Obj) : World := sortWorldK (fun k => (entK val k).enc) 3 w g 0 n d os
end Go.Proofs.YtakgolbgeeoioaaGreat
namespace Go.Proofs.YtakgolbgeeoioaaGreat
open Go.RowKit Go.Maps

def litK (k : ByteArray) : Lit := .string k.data.toList
def datV (v : ByteArray) : DataW Unit := .lit (.string v.data.toList)
theorem litK_inj {a b : ByteArray} (h : litK a = litK b) : a = b := by
 unfold litK at h
 injection h with h
 exact ByteArray.ext (Array.toList_inj.1 h)
/-- the map of pairs, put one after another -/
def madeL (ps : List (ByteArray × ByteArray)) : DataW Unit := ps.foldl (fun D p => D.put (litK p.1) (datV p.2)) (.map [])
theorem madeL_snoc (ps : List (ByteArray × ByteArray)) (p : ByteArray × ByteArray) : madeL (ps ++ [p]) = (madeL ps).put (litK p.1) (datV p.2) := by simp [madeL]
/-- the last value of a key -/
def lookP (ps : List (ByteArray × ByteArray)) (x : ByteArray) : Option ByteArray := ps.foldl (fun acc p => if p.1 = x then some p.2 else acc) none
theorem lookP_snoc (ps : List (ByteArray × ByteArray)) (p : ByteArray × ByteArray) (x : ByteArray) : lookP (ps ++ [p]) x = if p.1 = x then some p.2 else lookP ps x := by simp [lookP]
theorem snoc_ind {α : Type} {P : List α → Prop} (h0 : P []) (h1 : ∀ l a, P l → P (l ++ [a])) (l : List α) : P l := by
 have : ∀ n (l : List α), l.length = n → P l := by
  intro n
  induction n with
  | zero => intro l h; rw [List.length_eq_zero_iff.1 h]; exact h0
  | succ n ih =>
   intro l h
   have hne : l ≠ [] := by intro e; rw [e] at h; cases h
   rw [← List.dropLast_concat_getLast hne]
   exact h1 _ _ (ih _ (by rw [List.length_dropLast]; omega))
 exact this _ l rfl
theorem isMap_put {D : DataW Unit} (h : IsMap D) (k : Lit) (d : DataW Unit) : IsMap (D.put k d) := by
 cases D <;> simp [IsMap] at h ⊢ <;> simp [DataW.put] <;> exact h
end Go.Proofs.YtakgolbgeeoioaaGreat

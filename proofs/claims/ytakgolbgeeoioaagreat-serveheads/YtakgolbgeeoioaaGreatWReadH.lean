/-
  Heads that are read.
-/
import Derived.Test.YtakgolbgeeoioaaGreatWReadC
import Derived.Test.YtakgolbgeeoioaaGreatMSubMSzWHeadWStrsWBound
namespace Go.Proofs.YtakgolbgeeoioaaGreat
open Go.RowKit

/-- what stands in b as a head: seq, size, time, root, map -/
def e0 (b : ByteArray) : ByteArray := cutR 1 b
def e1 (b : ByteArray) : ByteArray := cutR 4 (e0 b)
def e2 (b : ByteArray) : ByteArray := cutR 4 (e1 b)
def e3 (b : ByteArray) : ByteArray := cutR 4 (e2 b)
def e4 (b : ByteArray) : ByteArray := cutR 32 (e3 b)
def hdA (b : ByteArray) : Nat := nF (e0 b)
def hdB (b : ByteArray) : Nat := nF (e1 b)
def hdC (b : ByteArray) : Nat := nF (e2 b)
def hdR (b : ByteArray) : ByteArray := cutF 32 (e3 b)
def hdM (b : ByteArray) : ByteArray := cutF 32 (e4 b)
def okHead (b : ByteArray) : Bool := decide ((hdR b).size = 32) && decide ((hdM b).size = 32) && decide (headB (hdA b) (hdB b) (hdC b) (hdR b) (hdM b) = b)
theorem e_sizes (b : ByteArray) : (e0 b).size ≤ b.size ∧ (e1 b).size ≤ b.size ∧ (e2 b).size ≤ b.size ∧ (e3 b).size ≤ b.size ∧ (e4 b).size ≤ b.size ∧ (hdR b).size ≤ b.size ∧ (hdM b).size ≤ b.size := by
  have h0 : (e0 b).size ≤ b.size := cutR_size _ _
  have h1 : (e1 b).size ≤ (e0 b).size := cutR_size _ _
  have h2 : (e2 b).size ≤ (e1 b).size := cutR_size _ _
  have h3 : (e3 b).size ≤ (e2 b).size := cutR_size _ _
  have h4 : (e4 b).size ≤ (e3 b).size := cutR_size _ _
  have h5 : (hdR b).size ≤ (e3 b).size := cutF_size _ _
  have h6 : (hdM b).size ≤ (e4 b).size := cutF_size _ _
  omega
def zHead : Array Value := #[.int .i64 0, .int .i64 0, .int .i64 0, .string ⟨#[]⟩, .string ⟨#[]⟩]
/-- what ReadHead answers -/
def rdHead (b : ByteArray) : Array Value := if okHead b then #[.agg (headV (hdA b) (hdB b) (hdC b) (hdR b) (hdM b)), .int .i64 0] else #[.agg zHead, .int .i64 2]

set_option maxRecDepth 100000 in
set_option maxHeartbeats 2000000 in
theorem readHead_any (b : ByteArray) (hb : b.size ≤ 1099511627776) (w : World) :
    Calls Tryz.prog 12 #[.string b] w fun e w' => e = .returned (.tuple (rdHead b)) ∧ Below w.heap.size w w' := by
  obtain ⟨z0, z1, z2, z3, z4, z5, z6⟩ := e_sizes b
  have H0 := Lib.hid (fun g W hW => cut_any 1 g b (by omega) W hW)
  have H1 := Lib.hid (fun g W hW => cutNumber_any' g (e0 b) (by omega) W hW)
  have H2 := Lib.hid (fun g W hW => cutNumber_any' g (e1 b) (by omega) W hW)
  have H3 := Lib.hid (fun g W hW => cutNumber_any' g (e2 b) (by omega) W hW)
  have H4 := Lib.hid (fun g W hW => cut_any 32 g (e3 b) (by omega) W hW)
  have H5 := Lib.hid (fun g W hW => cut_any 32 g (e4 b) (by omega) W hW)
  have H7 := Lib.hid (fun W => head_any (hdA b) (hdB b) (hdC b) (hdR b) (hdM b) (by omega) (by omega) W)
  change Hid (∀ g W, Cut W g b → Calls Tryz.prog 62 _ W fun e w' => _ ∧ Cut w' g (e0 b) ∧ _) at H0
  change Hid (∀ g W, Cut W g (e0 b) → Calls Tryz.prog 29 _ W fun e w' => e = .returned (.int .i64 (hdA b : Nat)) ∧ Cut w' g (e1 b) ∧ _) at H1
  change Hid (∀ g W, Cut W g (e1 b) → Calls Tryz.prog 29 _ W fun e w' => e = .returned (.int .i64 (hdB b : Nat)) ∧ Cut w' g (e2 b) ∧ _) at H2
  change Hid (∀ g W, Cut W g (e2 b) → Calls Tryz.prog 29 _ W fun e w' => e = .returned (.int .i64 (hdC b : Nat)) ∧ Cut w' g (e3 b) ∧ _) at H3
  change Hid (∀ g W, Cut W g (e3 b) → Calls Tryz.prog 62 _ W fun e w' => e = .returned (.string (hdR b)) ∧ Cut w' g (e4 b) ∧ _) at H4
  change Hid (∀ g W, Cut W g (e4 b) → Calls Tryz.prog 62 _ W fun e w' => e = .returned (.string (hdM b)) ∧ Cut w' g (cutR 32 (e4 b)) ∧ _) at H5
  have HOK := Lib.hid (show rdHead b = if (decide ((hdR b).size = 32) && decide ((hdM b).size = 32) && decide (headB (hdA b) (hdB b) (hdC b) (hdR b) (hdM b) = b)) then #[.agg (headV (hdA b) (hdB b) (hdC b) (hdR b) (hdM b)), .int .i64 0] else #[.agg zHead, .int .i64 2] from rfl)
  have hrs : (hdR b).size ≤ 1099511627776 := by omega
  have hms : (hdM b).size ≤ 1099511627776 := by omega
  generalize rdHead b = RV at *
  generalize hdA b = c at *; generalize hdB b = q at *; generalize hdC b = l at *; generalize hdR b = k at *; generalize hdM b = v at *
  generalize e0 b = s0 at *; generalize e1 b = s1 at *; generalize e2 b = s2 at *; generalize e3 b = s3 at *; generalize e4 b = s4 at *; generalize cutR 32 s4 = s5 at *
  clear z0 z1 z2 z3 z4 z5 z6
  go_enter Tryz.func12, Tryz.ntmps12
  go_wp2_with fail
  refine (cutter_any b _).mono ?_
  rintro e w1 ⟨rfl, hc1, hB1⟩
  have hR1 : Blk w1 w.heap.size 51 zHead := (Blk.new w 51 _).below hB1 (by simp)
  have hB1' : Below w.heap.size w w1 := ((Below.refl _ w).alloc (Nat.le_refl _) _).trans (hB1.mono (by simp))
  have hgw : w.heap.size < (w.alloc (.cells #[.int .i64 0, .int .i64 0, .int .i64 0, .string ⟨#[]⟩, .string ⟨#[]⟩] 51)).heap.size := by simp
  generalize (w.alloc (.cells #[.int .i64 0, .int .i64 0, .int .i64 0, .string ⟨#[]⟩, .string ⟨#[]⟩] 51)).heap.size = g at *
  clear hB1
  go_wp2_with fail
  refine (H0.out _ _ hc1).mono ?_
  rintro e w2 ⟨rfl, hc2, hg2⟩
  have hR2 := hR1.grown hg2 (by intro h; injection h; omega)
  have hB2 := hB1'.grown hg2 hB1'.size (fun j hj => by injection hj; omega)
  clear hc1 hR1 hB1' hg2
  have hS3 : RS w (w2.alloc (.cells #[.int .i64 0, .int .i64 0, .int .i64 0, .string ⟨#[]⟩, .string ⟨#[]⟩] 51)) 51 g w2.heap.size w.heap.size s0 zHead zHead :=
    ⟨Blk.alloc hc2 _, Blk.new w2 _ _, hR2.alloc _, hB2.alloc hB2.size _, by omega, hB2.size, Nat.le_refl _, fun e => by have := hc2.lt; omega, by omega, fun e => by have := hR2.lt; omega⟩
  go_wp2_with fail
  refine (H1.out _ _ hS3.cut).mono ?_
  rintro e w4 ⟨rfl, hc4, hg4⟩
  have hS4 := hS3.call hc4 hg4
  generalize w2.heap.size = rb at *
  clear hS3 hc4 hg4 hc2 hR2 hB2
  have c0 : w4.cell? ⟨rb, 0, none⟩ = some (.int .i64 0) := hS4.blk.cell 0
  have f0 := hS4.blk.frozen 0
  go_wp2_with fail
  have hS5 := hS4.store 0 (.int .i64 (c : Int))
  refine (H2.out _ _ hS5.cut).mono ?_
  rintro e w5 ⟨rfl, hc5, hg5⟩
  have hS6 := hS5.call hc5 hg5
  clear hS4 hS5 hc5 hg5 c0 f0
  have c0 : w5.cell? ⟨rb, 1, none⟩ = some (.int .i64 0) := hS6.blk.cell 1
  have f0 := hS6.blk.frozen 1
  go_wp2_with fail
  have hS7 := hS6.store 1 (.int .i64 (q : Int))
  refine (H3.out _ _ hS7.cut).mono ?_
  rintro e w6 ⟨rfl, hc5, hg5⟩
  have hS8 := hS7.call hc5 hg5
  clear hS6 hS7 hc5 hg5 c0 f0
  have c0 : w6.cell? ⟨rb, 2, none⟩ = some (.int .i64 0) := hS8.blk.cell 2
  have f0 := hS8.blk.frozen 2
  go_wp2_with fail
  have hS9 := hS8.store 2 (.int .i64 (l : Int))
  refine (H4.out _ _ hS9.cut).mono ?_
  rintro e w7 ⟨rfl, hc5, hg5⟩
  have hS10 := hS9.call hc5 hg5
  clear hS8 hS9 hc5 hg5 c0 f0
  have c0 : w7.cell? ⟨rb, 3, none⟩ = some (.string ⟨#[]⟩) := hS10.blk.cell 3
  have f0 := hS10.blk.frozen 3
  go_wp2_with fail
  have hS11 := hS10.store 3 (.string k)
  refine (H5.out _ _ hS11.cut).mono ?_
  rintro e w8 ⟨rfl, hc5, hg5⟩
  have hS12 := hS11.call hc5 hg5
  clear hS10 hS11 hc5 hg5 c0 f0
  have c0 : w8.cell? ⟨rb, 4, none⟩ = some (.string ⟨#[]⟩) := hS12.blk.cell 4
  have f0 := hS12.blk.frozen 4
  have hS13 : RS w (w8.setCell ⟨rb, 4, none⟩ (.string v)) 51 g rb w.heap.size s5 (headV c q l k v) zHead := hS12.store 4 (.string v)
  have c1 : w8.cell? ⟨rb, 0, none⟩ = some (.int .i64 c) := hS12.blk.cell 0
  have c2 : w8.cell? ⟨rb, 1, none⟩ = some (.int .i64 q) := hS12.blk.cell 1
  have c3 : w8.cell? ⟨rb, 2, none⟩ = some (.int .i64 l) := hS12.blk.cell 2
  have c4 : w8.cell? ⟨rb, 3, none⟩ = some (.string k) := hS12.blk.cell 3
  clear hS12 H0 H1 H2 H3 H4 H5
  have HS := Lib.hid hS13
  clear hS13
  have hres := HS.out.res
  have hbel := HS.out.below
  have HL := Lib.hid (show ∀ W, Below (w8.setCell ⟨rb, 4, none⟩ (.string v)).heap.size (w8.setCell ⟨rb, 4, none⟩ (.string v)) W → W.cell? ⟨rb, 0, none⟩ = some (.int .i64 c) ∧ W.cell? ⟨rb, 1, none⟩ = some (.int .i64 q) ∧ W.cell? ⟨rb, 2, none⟩ = some (.int .i64 l) ∧ W.cell? ⟨rb, 3, none⟩ = some (.string k) ∧ W.cell? ⟨rb, 4, none⟩ = some (.string v) ∧ Blk W w.heap.size 51 zHead ∧ Below w.heap.size w W from fun W hW => by
    have h := HS.out.under hW
    exact ⟨h.blk.cell 0, h.blk.cell 1, h.blk.cell 2, h.blk.cell 3, h.blk.cell 4, h.res, h.below⟩)
  clear HS
  by_cases hk : k.size = 32
  · have tk : ((k.size : Int) == 32) = true := eq32 hk
    have tk' : ((k.size : Int) != 32) = false := by rw [bne, tk]; rfl
    have HK := Lib.hid hk
    clear hk
    by_cases hv : v.size = 32
    · have tv : ((v.size : Int) == 32) = true := eq32 hv
      have tv' : ((v.size : Int) != 32) = false := by rw [bne, tv]; rfl
      have HVS := Lib.hid hv
      clear hv
      obtain ⟨X, hX⟩ : ∃ X, headB (c : Int) (q : Int) (l : Int) k v = X := ⟨_, rfl⟩
      rw [hX] at HOK H7
      clear hX
      by_cases hXb : X = b
      · subst hXb
        have HV := Lib.hid (show RV = #[.agg (headV c q l k v), .int .i64 0] by rw [HOK.out]; simp [HK.out, HVS.out])
        go_wp2_with fail
        refine (H7.out _).mono ?_
        rintro e w10 ⟨rfl, hB10⟩
        obtain ⟨r0, r1, r2, r3, r4, hres2, hbel2⟩ := HL.out _ hB10
        clear c0 c1 c2 c3 c4 f0 hres hbel HL hB10
        go_wp2_with (refine wpList_store_row rfl 51 _ _ rfl w.heap.size (headV c q l k v) rfl rfl 51 zHead hres2 (by kernel_rfl) (by kernel_rfl) (by kernel_rfl) ?_)
        refine bodyPost_ret (results_cell_tmp rfl _ _ w.heap.size 51 (headV c q l k v) _ rfl (blk_setRow hres2 _) Tryz.underlying51 rfl (by kernel_rfl)) rfl ⟨?_, below_setRow hbel2 (Nat.le_refl _) _⟩
        rw [HV.out]
        rfl
      · have hne : (X.toList == b.toList) = false := by
          rw [beq_eq_false_iff_ne, ByteArray.toList_eq, ByteArray.toList_eq]
          intro e
          exact hXb (by cases X; cases b; simp_all)
        have HV := Lib.hid (show RV = #[.agg zHead, .int .i64 2] by rw [HOK.out]; simp [hXb])
        clear hXb
        go_wp2_with fail
        refine (H7.out _).mono ?_
        rintro e w10 ⟨rfl, hB10⟩
        obtain ⟨r0, r1, r2, r3, r4, hres2, hbel2⟩ := HL.out _ hB10
        clear c0 c1 c2 c3 c4 f0 hres hbel HL hB10
        go_wp2_with (refine wpList_store_row rfl 51 _ _ rfl w.heap.size zHead rfl rfl 51 zHead hres2 (by kernel_rfl) (by kernel_rfl) (by kernel_rfl) ?_)
        refine bodyPost_ret (results_cell_tmp rfl _ _ w.heap.size 51 zHead _ rfl (blk_setRow hres2 _) Tryz.underlying51 rfl (by kernel_rfl)) rfl ⟨?_, below_setRow hbel2 (Nat.le_refl _) _⟩
        rw [HV.out]
        rfl
    · have tv : ((v.size : Int) == 32) = false := ne32 hv
      have tv' : ((v.size : Int) != 32) = true := by rw [bne, tv]; rfl
      have HV := Lib.hid (show RV = #[.agg zHead, .int .i64 2] by rw [HOK.out]; simp [hv])
      clear hv H7 HL
      go_wp2_with (refine wpList_store_row rfl 51 _ _ rfl w.heap.size zHead rfl rfl 51 zHead hres (by kernel_rfl) (by kernel_rfl) (by kernel_rfl) ?_)
      refine bodyPost_ret (results_cell_tmp rfl _ _ w.heap.size 51 zHead _ rfl (blk_setRow hres _) Tryz.underlying51 rfl (by kernel_rfl)) rfl ⟨?_, below_setRow hbel (Nat.le_refl _) _⟩
      rw [HV.out]
      rfl
  · have tk : ((k.size : Int) == 32) = false := ne32 hk
    have tk' : ((k.size : Int) != 32) = true := by rw [bne, tk]; rfl
    have HV := Lib.hid (show RV = #[.agg zHead, .int .i64 2] by rw [HOK.out]; simp [hk])
    clear hk H7 HL
    go_wp2_with (refine wpList_store_row rfl 51 _ _ rfl w.heap.size zHead rfl rfl 51 zHead hres (by kernel_rfl) (by kernel_rfl) (by kernel_rfl) ?_)
    refine bodyPost_ret (results_cell_tmp rfl _ _ w.heap.size 51 zHead _ rfl (blk_setRow hres _) Tryz.underlying51 rfl (by kernel_rfl)) rfl ⟨?_, below_setRow hbel (Nat.le_refl _) _⟩
    rw [HV.out]
    rfl
end Go.Proofs.YtakgolbgeeoioaaGreat

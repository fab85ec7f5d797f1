/-
 The reference's Least: its value.
-/
import Derived.Test.YtakgolbgeeoioaaGreatYRef3SRefD
import Derived.Test.YtakgolbgeeoioaaGreatSMadeMSEntMSRootLSRefV1
namespace Go.Proofs.YtakgolbgeeoioaaGreat
open Go.RowKit

def fP (a y : ByteArray × ByteArray) : ByteArray × ByteArray := if Op.bytesLess y.1.toList a.1.toList then y else a
/-- the pair of the least key, of the first j -/
def leastN (ps : List (ByteArray × ByteArray)) (j : Nat) : ByteArray × ByteArray := (ps.take j).foldl fP (ps.getD 0 (ByteArray.empty, ByteArray.empty))
theorem leastN_succ {ps : List (ByteArray × ByteArray)} {j : Nat} (h : j < ps.length) : leastN ps (j + 1) = fP (leastN ps j) (ps.getD j (ByteArray.empty, ByteArray.empty)) := by
 unfold leastN
 rw [List.take_succ_eq_append_getElem h, List.foldl_append, getD_pair h]
 rfl
theorem leastN_one {ps : List (ByteArray × ByteArray)} (h : 0 < ps.length) : leastN ps 1 = ps.getD 0 (ByteArray.empty, ByteArray.empty) := by
 rw [leastN_succ h]
 show fP (ps.getD 0 _) _ = _
 unfold fP
 split <;> rfl
/-- a pair's entry -/
def entP (p : ByteArray × ByteArray) : Ent := ⟨pathS p.1, p.1, p.2⟩
theorem entP_key (p : ByteArray × ByteArray) : (entP p).key = p.1 := rfl
theorem entP_val (p : ByteArray × ByteArray) : (entP p).val = p.2 := rfl
theorem entP_path (p : ByteArray × ByteArray) : (entP p).path = pathS p.1 := rfl
theorem leastE_fold : ∀ (r : List (ByteArray × ByteArray)) (p : ByteArray × ByteArray), leastE (entP p) (r.map entP) = entP (r.foldl fP p)
 | [], _ => rfl
 | y :: r, p => by
  rw [List.map_cons, leastE, List.foldl_cons, ← leastE_fold r (fP p y)]
  congr 1
  unfold fP
  rw [entP_key, entP_key]
  split <;> rfl
theorem leastN_all (p : ByteArray × ByteArray) (r : List (ByteArray × ByteArray)) : entP (leastN (p :: r) (r.length + 1)) = leastE (entP p) (r.map entP) := by
 rw [leastE_fold]
 unfold leastN
 rw [show r.length + 1 = (p :: r).length from rfl, List.take_length, List.foldl_cons]
 congr 2
 show fP p p = p
 unfold fP
 split <;> rfl
/-- what Least answers -/
def RLe (z : ByteArray × ByteArray) (w : World) (e : Ending) (w' : World) : Prop := e = .returned (.agg #[.string z.1, .string z.2]) ∧ Below w.heap.size w w'
set_option maxRecDepth 100000 in
set_option maxHeartbeats 1000000 in
theorem vleast_any (oa : Option Addr) (n cap : Nat) (ps : List (ByteArray × ByteArray)) (hn : ps.length = n) (h1 : 1 ≤ n) (hsz : n ≤ 1000) (hF : FitP ps) (w : World) (hP : Prs w oa ps) :
 Calls Tryz.prog 83 #[.slice oa n cap] w (RLe (leastN ps n) w) := by
 have HN1 : Hid (leastN ps 1 = ps.getD 0 (ByteArray.empty, ByteArray.empty)) := Lib.hid (leastN_one (by omega))
 have HNS : Hid (∀ j, j < n → leastN ps (j + 1) = fP (leastN ps j) (ps.getD j (ByteArray.empty, ByteArray.empty))) := Lib.hid fun j hj => leastN_succ (by omega)
 have HAT : Hid (∀ W i, Below w.heap.size w W → i < n → ∃ g o X Y, oa = some ⟨g, o, none⟩ ∧ W.cell? ⟨g, o + i * 2, none⟩ = some (.string X) ∧ W.cell? ⟨g, o + i * 2 + 1, none⟩ = some (.string Y) ∧ X.size ≤ 250 ∧ Y.size ≤ 250 ∧ ps.getD i (ByteArray.empty, ByteArray.empty) = (X, Y)) := Lib.hid fun W i hW hi => by
  obtain ⟨g, o, h1, h2, h3, h4⟩ := hP.at (i := i) (by omega)
  have := hF.get (i := i) (by omega)
  exact ⟨g, o, _, _, h1, (hW.cell (p := ⟨g, o + i * 2, none⟩) h2).trans h3, (hW.cell (p := ⟨g, o + i * 2 + 1, none⟩) h2).trans h4, this.1, this.2, by rw [getD_pair (by omega)]⟩
 have HRP : Hid (∀ e w', RLe (leastN ps n) w e w' = (e = .returned (.agg #[.string (leastN ps n).1, .string (leastN ps n).2]) ∧ Below w.heap.size w w')) := Lib.hid fun _ _ => rfl
 have hB0 := (Below.refl _ w).alloc (Nat.le_refl _) (.cells #[.string ⟨#[]⟩, .string ⟨#[]⟩] 123)
 obtain ⟨g, o, X0, Y0, rfl, c1, c2, hx0, hy0, hp0⟩ := HAT.out _ 0 hB0 (by omega)
 rw [hp0] at HN1
 rw [Nat.zero_mul, Nat.add_zero] at c1 c2
 have hnp : 0 < n := h1
 generalize RLe (leastN ps n) w = PO at *
 generalize leastN ps = LN at *
 clear hP hF hn hp0
 go_enter Tryz.func83, Tryz.ntmps83
 go_wp2
 obtain ⟨w1, hw1⟩ : ∃ w1, (w.alloc (.cells #[.string ⟨#[]⟩, .string ⟨#[]⟩] 123)).alloc (.cells #[.string X0, .string Y0] 123) = w1 := ⟨_, rfl⟩
 have k0 : Blk w1 w.heap.size 123 #[.string ⟨#[]⟩, .string ⟨#[]⟩] := by rw [← hw1]; exact (Blk.new _ _ _).alloc _
 have k1 : Blk w1 (w.heap.size + 1) 123 #[.string X0, .string Y0] := by rw [← hw1]; exact Blk.new_at (by simp)
 have hB1 : Below w.heap.size w w1 := by rw [← hw1]; exact hB0.alloc (by simp) _
 rw [hw1]
 clear hw1 c1 c2 hB0
 go_loopw [4] (fun i wr => ∃ (j : Nat) (X Y : ByteArray), 1 ≤ j ∧ j ≤ n ∧ i = .int .i64 j ∧ Blk wr w.heap.size 123 #[.string ⟨#[]⟩, .string ⟨#[]⟩] ∧ Blk wr (w.heap.size + 1) 123 #[.string X, .string Y] ∧ X.size ≤ 250 ∧ Y.size ≤ 250 ∧ Hid (LN j = (X, Y)) ∧ Below w.heap.size w wr) (fun i _ => n - (intOf i).toNat)
 case atStart => exact ⟨1, X0, Y0, Nat.le_refl _, h1, rfl, k0, k1, hx0, hy0, HN1, hB1⟩
 case round =>
  clear k0 k1 hB1
  obtain ⟨j, X, Y, hj1, hj, rfl, k0, k1, hx, hy, HLN, hB⟩ := hrel
  by_cases hlt : j < n
  · have hlt' : (j : Int) < (n : Int) := by omega
    obtain ⟨g', o', X1, Y1, hgo, c1, c2, hx1, hy1, hp1⟩ := HAT.out wr j hB hlt
    have HLS : Hid (LN (j + 1) = if Op.bytesLess X1.toList X.toList then (X1, Y1) else (X, Y)) := Lib.hid (by rw [HNS.out j hlt, HLN.out, hp1]; rfl)
    clear hp1 HLN HNS HN1
    have hgo' : g = g' ∧ o = o' := by simpa using hgo
    obtain ⟨rfl, rfl⟩ := hgo'
    have q0 : wr.cell? ⟨w.heap.size + 1, 0, none⟩ = some (.string X) := k1.cell 0
    have HK0 := Lib.hid k0
    have HK1 := Lib.hid k1
    have HB := Lib.hid hB
    clear k0 k1 hB hgo
    go_wp2
    go_quiet (fail)
    have c1' : (wr.drewN nq).cell? ⟨g, o + j * 2, none⟩ = some (.string X1) := c1
    have c2' : (wr.drewN nq).cell? ⟨g, o + j * 2 + 1, none⟩ = some (.string Y1) := c2
    have m0 : Blk (wr.drewN nq) w.heap.size 123 #[.string ⟨#[]⟩, .string ⟨#[]⟩] := HK0.out
    have m1 : Blk (wr.drewN nq) (w.heap.size + 1) 123 #[.string X, .string Y] := HK1.out
    have hB2 : Below w.heap.size w (wr.drewN nq) := below_drewN HB.out nq
    clear c1 c2 q0 HK0 HK1 HB
    generalize wr.drewN nq = w2 at *
    generalize Op.bytesLess X1.toList X.toList = bb at *
    cases bb
    · go_wp2
      go_roundw
      case rel => exact ⟨j + 1, X, Y, by omega, by omega, by go_num, m0, m1, hx, hy, Lib.hid (by rw [HLS.out, if_neg (by decide : ¬ (false = true))]), hB2⟩
      case measure => simp [intOf]; omega
    · have s0 : w2.cell? ⟨w.heap.size + 1, 0, none⟩ = some (.string X) := m1.cell 0
      have s1 : w2.cell? ⟨w.heap.size + 1, 1, none⟩ = some (.string Y) := m1.cell 1
      have f0 := m1.frozen 0
      have f1 := m1.frozen 1
      have HM0 := Lib.hid m0
      have HM1 := Lib.hid m1
      have HB2 := Lib.hid hB2
      clear m0 m1 hB2
      go_wp2
      have n1 := (HM1.out.set_ 0 (.string X1)).set_ 1 (.string Y1)
      have n0 := (HM0.out.far (p := ⟨w.heap.size + 1, 0, none⟩) (by show w.heap.size ≠ w.heap.size + 1; omega) (.string X1)).far (p := ⟨w.heap.size + 1, 1, none⟩) (by show w.heap.size ≠ w.heap.size + 1; omega) (.string Y1)
      have hB3 := (HB2.out.setCell (p := ⟨w.heap.size + 1, 0, none⟩) (by show w.heap.size ≤ w.heap.size + 1; omega) (.string X1)).setCell (p := ⟨w.heap.size + 1, 1, none⟩) (by show w.heap.size ≤ w.heap.size + 1; omega) (.string Y1)
      generalize (w2.setCell ⟨w.heap.size + 1, 0, none⟩ (.string X1)).setCell ⟨w.heap.size + 1, 1, none⟩ (.string Y1) = w3 at *
      clear s0 s1 f0 f1 HM0 HM1 HB2 c1' c2'
      go_roundw
      case rel => exact ⟨j + 1, X1, Y1, by omega, by omega, by go_num, n0, n1, hx1, hy1, Lib.hid (by rw [HLS.out, if_pos rfl]), hB3⟩
      case measure => simp [intOf]; omega
  · obtain rfl : j = n := by omega
    have hlt' : ¬ (j : Int) < (j : Int) := by omega
    have s0 : wr.cell? ⟨w.heap.size + 1, 0, none⟩ = some (.string X) := k1.cell 0
    have s1 : wr.cell? ⟨w.heap.size + 1, 1, none⟩ = some (.string Y) := k1.cell 1
    have t0 : wr.cell? ⟨w.heap.size, 0, none⟩ = some (.string ⟨#[]⟩) := k0.cell 0
    have t1 : wr.cell? ⟨w.heap.size, 1, none⟩ = some (.string ⟨#[]⟩) := k0.cell 1
    have f0 := k0.frozen 0
    have f1 := k0.frozen 1
    have HK0 := Lib.hid k0
    have HB := Lib.hid hB
    clear hlt k0 k1 hB
    go_wp2
    have n1 : Blk ((wr.setCell ⟨w.heap.size, 0, none⟩ (.string X)).setCell ⟨w.heap.size, 1, none⟩ (.string Y)) w.heap.size 123 #[.string X, .string Y] := (HK0.out.set_ 0 (.string X)).set_ 1 (.string Y)
    have hB3 := (HB.out.setCell (p := ⟨w.heap.size, 0, none⟩) (Nat.le_refl _) (.string X)).setCell (p := ⟨w.heap.size, 1, none⟩) (Nat.le_refl _) (.string Y)
    refine bodyPost_ret (results_cell_row rfl _ _ w.heap.size 123 #[.string X, .string Y] (0, 0) _ rfl n1 Tryz.underlying123 rfl (by kernel_rfl)) rfl ?_
    rw [HRP.out]
    rw [HLN.out]
    exact ⟨rfl, hB3⟩
end Go.Proofs.YtakgolbgeeoioaaGreat

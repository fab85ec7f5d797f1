/-
  Layer 9: where two ways meet.
-/
import Derived.Test.YtjdjndginacdnaaXRoot
namespace Go.Proofs.Ytjdjndginacdnaa
open Go.RowKit

theorem infoPr9 : (Try.prog.info? 31).map (·.size) = some 2 := by kernel_rfl
def prA (A B : ByteArray) : Array Value := #[.string A, .string B]
/-- what meet answers -/
def RM9 (ps qs : List (ByteArray × ByteArray)) (w : World) (e : Ending) (w' : World) : Prop := (∃ A B : ByteArray, ∃ f : Bool, e = .returned (.tuple #[.agg (prA A B), .bool f]) ∧
    ((f = true ∧ ∃ i, ∃ h1 : i < ps.length, ∃ h2 : i < qs.length, A = ps[i].1 ∧ B = qs[i].1 ∧ A ≠ B ∧ ps[i].2 = qs[i].2) ∨
     (f = false ∧ A = ⟨#[]⟩ ∧ B = ⟨#[]⟩ ∧ ∀ i (h1 : i < ps.length) (h2 : i < qs.length), ps[i].1 ≠ qs[i].1 → ps[i].2 ≠ qs[i].2))) ∧ Below w.heap.size w w'
set_option maxRecDepth 100000 in
set_option maxHeartbeats 2000000 in
theorem meet9_any (oa oa' : Option Addr) (n cap cap' : Nat) (ps qs : List (ByteArray × ByteArray)) (hp : ps.length = n) (hq : qs.length = n) (hn : n ≤ 1000) (w : World) (hP : Prs w oa ps) (hQ : Prs w oa' qs) :
    Calls Try.prog 45 #[.slice oa n cap, .slice oa' n cap'] w (RM9 ps qs w) := by
  have HRM : Hid (∀ e w', RM9 ps qs w e w' = ((∃ A B : ByteArray, ∃ f : Bool, e = .returned (.tuple #[.agg (prA A B), .bool f]) ∧
    ((f = true ∧ ∃ i, ∃ h1 : i < ps.length, ∃ h2 : i < qs.length, A = ps[i].1 ∧ B = qs[i].1 ∧ A ≠ B ∧ ps[i].2 = qs[i].2) ∨
     (f = false ∧ A = ⟨#[]⟩ ∧ B = ⟨#[]⟩ ∧ ∀ i (h1 : i < ps.length) (h2 : i < qs.length), ps[i].1 ≠ qs[i].1 → ps[i].2 ≠ qs[i].2))) ∧ Below w.heap.size w w')) := Lib.hid fun _ _ => rfl
  generalize RM9 ps qs w = PO at *
  obtain ⟨B, hB⟩ : ∃ B, w.heap.size = B := ⟨_, rfl⟩
  obtain ⟨w0, hw0⟩ : ∃ w0, w.alloc (.cells #[.string ⟨#[]⟩, .string ⟨#[]⟩] 31) = w0 := ⟨_, rfl⟩
  have hT : Blk w0 B 31 #[.string ⟨#[]⟩, .string ⟨#[]⟩] := by rw [← hw0, ← hB]; exact Blk.new _ _ _
  have hB0 : Below w.heap.size w w0 := by rw [← hw0]; exact (Below.refl _ w).alloc (Nat.le_refl _) _
  have HW := Lib.hid hw0
  have HP := Lib.hid (hP.below hB0)
  have HQ := Lib.hid (hQ.below hB0)
  have HNP := Lib.hid hp
  have HNQ := Lib.hid hq
  have HBw := Lib.hid hB0
  have HBs := Lib.hid hB0.size
  rw [hB] at HRM HBw HBs
  clear hw0 hP hQ hp hq hB0
  go_enter Try.func45, Try.ntmps45
  go_wp2_with (rw [HW.out])
  go_loopw [11] (fun vi wr => ∃ j : Nat, j ≤ n ∧ vi = .int .i64 j ∧ Hid (∀ i (h1 : i < ps.length) (h2 : i < qs.length), i < j → ps[i].1 ≠ qs[i].1 → ps[i].2 ≠ qs[i].2) ∧ Blk wr B 31 #[.string ⟨#[]⟩, .string ⟨#[]⟩] ∧ Below w0.heap.size w0 wr) (fun vi _ => n - (intOf vi).toNat)
  case atStart => exact ⟨0, by omega, rfl, Lib.hid fun i _ _ h => absurd h (by omega), hT, Below.refl _ _⟩
  case round =>
    obtain ⟨j, hj, rfl, HA, hTr, hBr⟩ := hrel
    by_cases hlt : j < n
    · have hlt' : (j : Int) < (n : Int) := by omega
      obtain ⟨g, o, hoa, hg, c1, c2⟩ := (HP.out.below hBr).at (i := j) (by rw [HNP.out]; exact hlt)
      obtain ⟨g', o', hoa', hg', d1, d2⟩ := (HQ.out.below hBr).at (i := j) (by rw [HNQ.out]; exact hlt)
      subst hoa hoa'
      have HST : Hid ((ps[j]'(by rw [HNP.out]; exact hlt)).1 ≠ (qs[j]'(by rw [HNQ.out]; exact hlt)).1 → (ps[j]'(by rw [HNP.out]; exact hlt)).2 = (qs[j]'(by rw [HNQ.out]; exact hlt)).2 → ∃ i, ∃ h1 : i < ps.length, ∃ h2 : i < qs.length, (ps[j]'(by rw [HNP.out]; exact hlt)).1 = ps[i].1 ∧ (qs[j]'(by rw [HNQ.out]; exact hlt)).1 = qs[i].1 ∧ (ps[j]'(by rw [HNP.out]; exact hlt)).1 ≠ (qs[j]'(by rw [HNQ.out]; exact hlt)).1 ∧ ps[i].2 = qs[i].2) := Lib.hid fun h1 h2 => ⟨j, by rw [HNP.out]; exact hlt, by rw [HNQ.out]; exact hlt, rfl, rfl, h1, h2⟩
      have HNX : Hid (((ps[j]'(by rw [HNP.out]; exact hlt)).1 ≠ (qs[j]'(by rw [HNQ.out]; exact hlt)).1 → (ps[j]'(by rw [HNP.out]; exact hlt)).2 ≠ (qs[j]'(by rw [HNQ.out]; exact hlt)).2) → ∀ i (h1 : i < ps.length) (h2 : i < qs.length), i < j + 1 → ps[i].1 ≠ qs[i].1 → ps[i].2 ≠ qs[i].2) := Lib.hid fun h i h1 h2 h3 => by
        by_cases hij : i < j
        · exact HA.out i h1 h2 hij
        · obtain rfl : i = j := by omega
          exact h
      generalize (ps[j]'(by rw [HNP.out]; exact hlt)).1 = X1 at *
      generalize (ps[j]'(by rw [HNP.out]; exact hlt)).2 = Y1 at *
      generalize (qs[j]'(by rw [HNQ.out]; exact hlt)).1 = X2 at *
      generalize (qs[j]'(by rw [HNQ.out]; exact hlt)).2 = Y2 at *
      obtain ⟨wa, hwa⟩ : ∃ wa, wr.alloc (.cells #[.string X1, .string Y1] 91) = wa := ⟨_, rfl⟩
      obtain ⟨wb, hwb⟩ : ∃ wb, wa.alloc (.cells #[.string X2, .string Y2] 91) = wb := ⟨_, rfl⟩
      obtain ⟨R, hR⟩ : ∃ R, wr.heap.size = R := ⟨_, rfl⟩
      have zA : wa.heap.size = R + 1 := by rw [← hwa, ← hR]; simp
      have ba : Below wr.heap.size wr wa := by rw [← hwa]; exact (Below.refl _ wr).alloc (Nat.le_refl _) _
      have bb : Below wr.heap.size wr wb := by rw [← hwb]; exact ba.alloc (by omega) _
      have kA : Blk wb R 91 #[.string X1, .string Y1] := by rw [← hwb, ← hwa, ← hR]; exact (Blk.new _ _ _).alloc _
      have kB : Blk wb (R + 1) 91 #[.string X2, .string Y2] := by rw [← hwb]; exact Blk.new_at zA.symm
      have e1 : wa.cell? ⟨g', o' + j * 2, none⟩ = some (.string X2) := (ba.cell (p := ⟨g', o' + j * 2, none⟩) hg').trans d1
      have e2 : wa.cell? ⟨g', o' + j * 2 + 1, none⟩ = some (.string Y2) := (ba.cell (p := ⟨g', o' + j * 2 + 1, none⟩) hg').trans d2
      have a0 : wb.cell? ⟨R, 0, none⟩ = some (.string X1) := kA.cell 0
      have a1 : wb.cell? ⟨R, 1, none⟩ = some (.string Y1) := kA.cell 1
      have b0 : wb.cell? ⟨R + 1, 0, none⟩ = some (.string X2) := kB.cell 0
      have b1 : wb.cell? ⟨R + 1, 1, none⟩ = some (.string Y2) := kB.cell 1
      have hTb := hTr.below bb hTr.lt
      have s0 : wb.cell? ⟨B, 0, none⟩ = some (.string ⟨#[]⟩) := hTb.cell 0
      have s1 : wb.cell? ⟨B, 1, none⟩ = some (.string ⟨#[]⟩) := hTb.cell 1
      have f0 := hTb.frozen 0
      have f1 := hTb.frozen 1
      have hBb := hBr.trans (bb.mono hBr.size)
      have HTB := Lib.hid hTb
      have HBB := Lib.hid hBb
      have HWA := Lib.hid hwa
      have HWB := Lib.hid hwb
      clear hwa hwb ba bb kA kB d1 d2 hTr hBr hTb hBb hT HA
      by_cases hx : X1 = X2
      · obtain ⟨x1, x2⟩ := eqT9 hx
        have HX := Lib.hid hx
        clear hx
        clear s0 s1 f0 f1
        go_wp2_with (first | rw [HWA.out] | rw [HWB.out])
        go_roundw
        case rel => exact ⟨j + 1, by omega, by go_num, Lib.hid (HNX.out (fun h => absurd HX.out h)), HTB.out, HBB.out⟩
        case measure => simp [intOf]; omega
      · obtain ⟨x1, x2⟩ := eqF9 hx
        have HX := Lib.hid hx
        clear hx
        by_cases hy : Y1 = Y2
        · obtain ⟨y1, y2⟩ := eqT9 hy
          have HY := Lib.hid hy
          clear hy
          go_wp2_with (first | rw [HWA.out] | rw [HWB.out])
          have n1 : Blk ((wb.setCell ⟨B, 0, none⟩ (.string X1)).setCell ⟨B, 1, none⟩ (.string X2)) B 31 (prA X1 X2) := (HTB.out.set_ 0 (.string X1)).set_ 1 (.string X2)
          have hBF := (((HBw.out.trans (HBB.out.mono HBs.out)).setCell (p := ⟨B, 0, none⟩) (Nat.le_refl _) (.string X1)).setCell (p := ⟨B, 1, none⟩) (Nat.le_refl _) (.string X2))
          refine bodyPost_ret (results_grw rfl _ _ B 31 (prA X1 X2) _ rfl n1 Try.underlying31 rfl infoPr9) rfl ?_
          rw [HRM.out]
          obtain ⟨i, i1, i2, i3, i4, i5, i6⟩ := HST.out HX.out HY.out
          exact ⟨⟨X1, X2, true, rfl, .inl ⟨rfl, i, i1, i2, i3, i4, i5, i6⟩⟩, hBF⟩
        · obtain ⟨y1, y2⟩ := eqF9 hy
          have HY := Lib.hid hy
          clear hy
          clear s0 s1 f0 f1
          go_wp2_with (first | rw [HWA.out] | rw [HWB.out])
          go_roundw
          case rel => exact ⟨j + 1, by omega, by go_num, Lib.hid (HNX.out (fun _ => HY.out)), HTB.out, HBB.out⟩
          case measure => simp [intOf]; omega
    · obtain rfl : j = n := by omega
      have hlt' : ¬ (j : Int) < (j : Int) := by omega
      have s0 : wr.cell? ⟨B, 0, none⟩ = some (.string ⟨#[]⟩) := hTr.cell 0
      have s1 : wr.cell? ⟨B, 1, none⟩ = some (.string ⟨#[]⟩) := hTr.cell 1
      have f0 := hTr.frozen 0
      have f1 := hTr.frozen 1
      have HTR := Lib.hid hTr
      have HBR := Lib.hid hBr
      clear hlt hTr hBr hT
      go_wp2
      have n1 : Blk ((wr.setCell ⟨B, 0, none⟩ (.string ⟨#[]⟩)).setCell ⟨B, 1, none⟩ (.string ⟨#[]⟩)) B 31 (prA ⟨#[]⟩ ⟨#[]⟩) := (HTR.out.set_ 0 (.string ⟨#[]⟩)).set_ 1 (.string ⟨#[]⟩)
      have hBF := (((HBw.out.trans (HBR.out.mono HBs.out)).setCell (p := ⟨B, 0, none⟩) (Nat.le_refl _) (.string ⟨#[]⟩)).setCell (p := ⟨B, 1, none⟩) (Nat.le_refl _) (.string ⟨#[]⟩))
      refine bodyPost_ret (results_grw rfl _ _ B 31 (prA ⟨#[]⟩ ⟨#[]⟩) _ rfl n1 Try.underlying31 rfl infoPr9) rfl ?_
      rw [HRM.out]
      exact ⟨⟨⟨#[]⟩, ⟨#[]⟩, false, rfl, .inr ⟨rfl, rfl, rfl, fun i h1 h2 => HA.out i h1 h2 (by have := HNP.out; omega)⟩⟩, hBF⟩
end Go.Proofs.Ytjdjndginacdnaa

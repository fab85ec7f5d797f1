/-
  Whether a range is right: the program's.
-/
import Derived.Test.YtmokkahkfmmnmaaRHash
namespace Go.Proofs.Ytmokkahkfmmnmaa
open Go.RowKit

def rightM (z : Int) (ss : List ByteArray) : Bool := decide (0 ≤ z ∧ z ≤ 1073741824 ∧ ss.length = (strL z.toNat).length) && allH ss
set_option maxRecDepth 100000 in
set_option maxHeartbeats 2000000 in
theorem right_any (z : Int) (hz : -9223372036854775808 ≤ z ∧ z ≤ 9223372036854775807) (oa : Option Addr) (n cap : Nat) (ss : List ByteArray) (hn : ss.length = n) (hm : n ≤ 4611686018427387904) (hsz : ∀ s ∈ ss, s.size ≤ 9223372036854775807) (w : World) (hc : Strs w oa ss) :
    Calls Try.prog 15 #[.agg #[.int .i64 z, .slice oa n cap]] w fun e w' => e = .returned (.bool (rightM z ss)) ∧ Below w.heap.size w w' := by
  have HST := Lib.hid (fun W => stretches_any (Lib.hid lenOf) z hz.2 W)
  have HCF := Lib.hid (fun W hW => containsFunc_any oa n cap ss hn (by omega) hsz W hW)
  have HRM := Lib.hid (show rightM z ss = (decide (0 ≤ z ∧ z ≤ 1073741824 ∧ n = (strL z.toNat).length) && allH ss) by unfold rightM; rw [hn])
  have HLL := Lib.hid (show (strL z.toNat).length ≤ 64 by
    have := strL_len 63 z.toNat (by have : (2 : Nat) ^ 63 = 9223372036854775808 := by decide
                                    omega)
    omega)
  obtain ⟨R, hR⟩ : ∃ R, rightM z ss = R := ⟨_, rfl⟩
  rw [hR]
  have HR := Lib.hid hR
  generalize allH ss = A at *
  generalize strL z.toNat = L at *
  obtain ⟨B, hB⟩ : ∃ B, w.heap.size = B := ⟨_, rfl⟩
  obtain ⟨w0, hw0⟩ : ∃ w0, w.alloc (.cells #[.int .i64 z, .slice oa n cap] 33) = w0 := ⟨_, rfl⟩
  have hK : Blk w0 B 33 #[.int .i64 z, .slice oa n cap] := by rw [← hw0, ← hB]; exact Blk.new _ _ _
  have hB0 : Below w.heap.size w w0 := by rw [← hw0]; exact (Below.refl _ w).alloc (Nat.le_refl _) _
  have hB0' : Below B w w0 := by rw [← hB]; exact hB0
  have hc0 := hc.below hB0
  have HW0 := Lib.hid hw0
  have HB := Lib.hid hB
  have k0 : w0.cell? ⟨B, 0, none⟩ = some (.int .i64 z) := hK.cell 0
  have k1 : w0.cell? ⟨B, 1, none⟩ = some (.slice oa n cap) := hK.cell 1
  clear hw0 hc hR hn hsz
  go_enter Try.func15, Try.ntmps15
  go_wp2_with (rw [HW0.out])
  by_cases h1 : z < 0
  · have HE : Hid (R = false) := Lib.hid (by rw [← HR.out, HRM.out, decide_eq_false (fun h => absurd h.1 (by omega))]; rfl)
    clear HST HCF HRM HLL HR
    go_quiet (fail)
    go_wp2
    go_ret
    exact ⟨boolEq HE.out.symm, by first | exact below_drewN hB0 _ | exact below_drewN hB0' _⟩
  by_cases h2 : 1073741824 < z
  · have HE : Hid (R = false) := Lib.hid (by rw [← HR.out, HRM.out, decide_eq_false (fun h => absurd h.2.1 (by omega))]; rfl)
    clear HST HCF HRM HLL HR
    go_quiet (fail)
    go_wp2
    go_ret
    exact ⟨boolEq HE.out.symm, by first | exact below_drewN hB0 _ | exact below_drewN hB0' _⟩
  have HKP := Lib.hid (show ∀ W, Below w0.heap.size w0 W → (W.cell? ⟨B, 0, none⟩ = some (.int .i64 z) ∧ W.cell? ⟨B, 1, none⟩ = some (.slice oa n cap)) ∧ Below w0.heap.size w0 W from fun W hW => ⟨⟨(hK.below hW hK.lt).cell 0, (hK.below hW hK.lt).cell 1⟩, hW⟩)
  refine wp_region_held_drew (S := fun W => (W.cell? ⟨B, 0, none⟩ = some (.int .i64 z) ∧ W.cell? ⟨B, 1, none⟩ = some (.slice oa n cap)) ∧ Below w0.heap.size w0 W) (by kernel_rfl) ?_ (fun hHeld0 => ?_)
  · (refine HKP.out _ ?_; first | exact hb1 | exact (Below.refl _ _).drew | exact Below.refl _ _)
  apply takeH (i := 0) rfl (by kernel_rfl) (by kernel_rfl) (by kernel_rfl) (fun _ _ _ h => h) (by rfl)
  case hy => (intro w hSw; (try dsimp only at hSw); go_simp; try with_reducible rfl)
  case hS => assumption
  (try simp only [Act.put, List.setIfInBounds_toArray, List.set_cons_zero, List.set_cons_succ])
  apply takeH (i := 1) rfl (by kernel_rfl) (by kernel_rfl) (by kernel_rfl) (fun _ _ _ h => h) (by rfl)
  case hy => (intro w hSw; (try dsimp only at hSw); go_simp; try with_reducible rfl)
  case hS => assumption
  (try simp only [Act.put, List.setIfInBounds_toArray, List.set_cons_zero, List.set_cons_succ])
  apply takeH (i := 2) rfl (by kernel_rfl) (by kernel_rfl) (by kernel_rfl) (fun _ _ _ h => h) (by rfl)
  case hy => (intro w hSw; (try dsimp only at hSw); go_simp; try with_reducible rfl)
  case hS => assumption
  (try simp only [Act.put, List.setIfInBounds_toArray, List.set_cons_zero, List.set_cons_succ])
  apply takeH (i := 3) rfl (by kernel_rfl) (by kernel_rfl) (by kernel_rfl) (fun _ _ _ h => h) (by rfl)
  case hy => (intro w hSw; (try dsimp only at hSw); go_simp; try with_reducible rfl)
  case hS => assumption
  (try simp only [Act.put, List.setIfInBounds_toArray, List.set_cons_zero, List.set_cons_succ])
  apply takeH (i := 4) rfl (by kernel_rfl) (by kernel_rfl) (by kernel_rfl) (fun _ _ _ h => h) (by rfl)
  case hy => (intro w hSw; (try dsimp only at hSw); go_simp; try with_reducible rfl)
  case hS => assumption
  (try simp only [Act.put, List.setIfInBounds_toArray, List.set_cons_zero, List.set_cons_succ])
  apply takeH (i := 5) rfl (by kernel_rfl) (by kernel_rfl) (by kernel_rfl) (fun _ _ _ h => h) (by rfl)
  case hy => (intro w hSw; (try dsimp only at hSw); go_simp; try with_reducible rfl)
  case hS => assumption
  (try simp only [Act.put, List.setIfInBounds_toArray, List.set_cons_zero, List.set_cons_succ])
  apply takeH (i := 6) rfl (by kernel_rfl) (by kernel_rfl) (by kernel_rfl) (fun _ _ _ h => h) (by rfl)
  case hy => (intro w hSw; (try dsimp only at hSw); go_simp; try with_reducible rfl)
  case hS => assumption
  (try simp only [Act.put, List.setIfInBounds_toArray, List.set_cons_zero, List.set_cons_succ])
  apply takeH (i := 7) rfl (by kernel_rfl) (by kernel_rfl) (by kernel_rfl) (fun _ _ _ h => h) (by rfl)
  case hy => (intro w hSw; (try dsimp only at hSw); go_simp; try with_reducible rfl)
  case hS => assumption
  (try simp only [Act.put, List.setIfInBounds_toArray, List.set_cons_zero, List.set_cons_succ])
  apply takeH (i := 8) rfl (by kernel_rfl) (by kernel_rfl) (by kernel_rfl) (fun _ _ _ h => h) (by rfl)
  case hy => (intro w hSw; (try dsimp only at hSw); go_simp; try with_reducible rfl)
  case hS => assumption
  (try simp only [Act.put, List.setIfInBounds_toArray, List.set_cons_zero, List.set_cons_succ])
  apply takeH (i := 9) rfl (by kernel_rfl) (by kernel_rfl) (by kernel_rfl) (fun _ _ _ h => h) (by rfl)
  case hy => (intro w hSw; (try dsimp only at hSw); go_simp; try with_reducible rfl)
  case hS => assumption
  (try simp only [Act.put, List.setIfInBounds_toArray, List.set_cons_zero, List.set_cons_succ])
  apply takeH (i := 10) rfl (by kernel_rfl) (by kernel_rfl) (by kernel_rfl) (fun _ _ _ h => h) (by rfl)
  case hy => (intro w hSw; (try dsimp only at hSw); go_simp; try with_reducible rfl)
  case hS => assumption
  (try simp only [Act.put, List.setIfInBounds_toArray, List.set_cons_zero, List.set_cons_succ])
  apply takeH (i := 11) rfl (by kernel_rfl) (by kernel_rfl) (by kernel_rfl) (fun _ _ _ h => h) (by rfl)
  case hy => (intro w hSw; (try dsimp only at hSw); go_simp; try with_reducible rfl)
  case hS => assumption
  (try simp only [Act.put, List.setIfInBounds_toArray, List.set_cons_zero, List.set_cons_succ])
  apply takeH (i := 12) rfl (by kernel_rfl) (by kernel_rfl) (by kernel_rfl) (fun _ _ _ h => h) (by rfl)
  case hy => (intro w hSw; (try dsimp only at hSw); go_simp; try with_reducible rfl)
  case hS => assumption
  (try simp only [Act.put, List.setIfInBounds_toArray, List.set_cons_zero, List.set_cons_succ])
  apply takeH (i := 13) rfl (by kernel_rfl) (by kernel_rfl) (by kernel_rfl) (fun _ _ _ h => h) (by rfl)
  case hy => (intro w hSw; (try dsimp only at hSw); go_simp; try with_reducible rfl)
  case hS => assumption
  (try simp only [Act.put, List.setIfInBounds_toArray, List.set_cons_zero, List.set_cons_succ])
  refine doH (i := 14) rfl (by kernel_rfl) (by rfl) (fun K hK => ?_)
  go_simp
  refine (HST.out _).mono ?_
  rintro e w1 ⟨v, rfl, hv, hb1'⟩
  obtain ⟨ov, capv, rfl, _, _⟩ := hv.formc
  have hb1 : Below w0.heap.size w0 w1 := hHeld0.2.trans (hb1'.mono hHeld0.2.size)
  go_wp2_with fail
  refine hK.out _ _ ?_ (fun hHeld14 => ?_)
  · (refine HKP.out _ ?_; first | exact hb1 | exact (Below.refl _ _).drew | exact Below.refl _ _)
  clear hK K hHeld0
  (try simp only [Act.put, List.setIfInBounds_toArray, List.set_cons_zero, List.set_cons_succ])
  apply takeH (i := 15) rfl (by kernel_rfl) (by kernel_rfl) (by kernel_rfl) (fun _ _ _ h => h) (by rfl)
  case hy => (intro w hSw; (try dsimp only at hSw); go_simp; try with_reducible rfl)
  case hS => assumption
  (try simp only [Act.put, List.setIfInBounds_toArray, List.set_cons_zero, List.set_cons_succ])
  apply takeH (i := 16) rfl (by kernel_rfl) (by kernel_rfl) (by kernel_rfl) (fun _ _ _ h => h) (by rfl)
  case hy => (intro w hSw; (try dsimp only at hSw); go_simp; try with_reducible rfl)
  case hS => assumption
  (try simp only [Act.put, List.setIfInBounds_toArray, List.set_cons_zero, List.set_cons_succ])
  apply takeH (i := 17) rfl (by kernel_rfl) (by kernel_rfl) (by kernel_rfl) (fun _ _ _ h => h) (by rfl)
  case hy => (intro w hSw; (try dsimp only at hSw); go_simp; try with_reducible rfl)
  case hS => assumption
  (try simp only [Act.put, List.setIfInBounds_toArray, List.set_cons_zero, List.set_cons_succ])
  refine wpAnyH_done (by kernel_rfl) ?_ _
  have hb := hHeld14.2
  clear hHeld14 HST HKP k0
  obtain ⟨m, hm2⟩ : ∃ m, L.length = m := ⟨_, rfl⟩
  rw [hm2] at HRM HLL ⊢
  have k1' : w1.cell? ⟨B, 1, none⟩ = some (.slice oa n cap) := (hK.below hb hK.lt).cell 1
  have hcw := hc0.below hb
  have hBw := hB0.trans (hb.mono hB0.size)
  have hBw' : Below B w w1 := by rw [← hB]; exact hBw
  clear hm2 k1 hc0 hK hb hB0 hB0'
  by_cases he : n = m
  · have he' : ((n : Int) != (m : Int)) = false := by rw [he]; simp
    have HE : Hid (R = A) := Lib.hid (by rw [← HR.out, HRM.out, decide_eq_true ⟨by omega, by omega, he⟩]; rfl)
    simp only [he']
    clear HRM HR he he'
    go_wp2_with fail
    refine (HCF.out _ hcw).mono ?_
    rintro e w2 ⟨rfl, rfl⟩
    go_wp2
    go_ret
    exact ⟨boolEq HE.out.symm, by first | exact hBw | exact hBw'⟩
  · have he' : ((n : Int) != (m : Int)) = true := by rw [bne_iff_ne]; omega
    have HE : Hid (R = false) := Lib.hid (by rw [← HR.out, HRM.out, decide_eq_false (fun h => he h.2.2)]; rfl)
    simp only [he']
    clear HRM HR he he'
    go_wp2
    go_ret
    exact ⟨boolEq HE.out.symm, by first | exact hBw | exact hBw'⟩
end Go.Proofs.Ytmokkahkfmmnmaa

/-
  A text of one byte, made of a slice. A key's own root; plant.
-/
import Derived.Test.YtjmjkcgldencoaaGreatBaseTxt
import Derived.Test.YtjmjkcgldencoaaGreatHStepSTree
namespace Go.Proofs.YtjmjkcgldencoaaGreat
open Go.RowKit

theorem conv_one (w : World) (n : Nat) (_ : n < 256) : (convert 123 9 (.slice (some ⟨w.heap.size, 0, none⟩) 1 1)).run Tryz.prog (w.alloc (.cells #[.int .u8 (n : Int)] 5)) = .ok (.string (strN [n])) (w.alloc (.cells #[.int .u8 (n : Int)] 5)) := by
  refine conv_cells _ 123 5 9 Tryz.underlying123 Tryz.underlying5 Tryz.underlying9 w.heap.size 1 [n] (fun i hi => ?_)
  have hi0 : i = 0 := by simpa using hi
  subst hi0
  rw [(Blk.new w 5 #[.int .u8 (n : Int)]).cell]
  rfl
end Go.Proofs.YtjmjkcgldencoaaGreat
namespace Go.Proofs.YtjmjkcgldencoaaGreat
open Go.RowKit

section
attribute [-go_sem] loadVar
set_option maxRecDepth 100000 in
set_option maxHeartbeats 1000000 in
theorem tvalue_any (g : Nat) (k v : ByteArray) (hk : k.size ≤ 1073741824) (hv : v.size ≤ 1073741824) (w : World) (_ : g < w.heap.size) (hT : ∀ W, Below w.heap.size w W → (loadVar 47 ⟨g, 0, none⟩).run Tryz.prog W = .ok (.agg tabV) W) :
    Calls Tryz.prog 74 #[.pointer (some ⟨g, 0, none⟩), .string k, .string v] w fun e w' => e = .returned (.string (ownS k v)) ∧ Below w.heap.size w w' := by
  have z0 : (⟨#[86]⟩ : ByteArray).size = 1 := rfl
  have zl : (lenB k).size = 1 := by unfold lenB; rw [strN_size]; rfl
  have hc := conv_one w (k.size % 256) (Nat.mod_lt _ (by decide))
  have hB0 := (Below.refl _ w).alloc (Nat.le_refl _) (.cells #[.int .u8 ((k.size % 256 : Nat) : Int)] 5)
  have hT0 := hT _ hB0
  change (convert 123 9 (.slice (some ⟨w.heap.size, 0, none⟩) 1 1)).run Tryz.prog _ = .ok (.string (lenB k)) _ at hc
  have a1 : ¬ (⟨#[86]⟩ : ByteArray).size + (lenB k).size > 9223372036854775807 := by omega
  have a2 : ¬ ((⟨#[86]⟩ : ByteArray) ++ lenB k).size + k.size > 9223372036854775807 := by simp only [ByteArray.size_append]; omega
  have a3 : ¬ ((⟨#[86]⟩ : ByteArray) ++ lenB k ++ k).size + v.size > 9223372036854775807 := by simp only [ByteArray.size_append]; omega
  have HS := Lib.hid (fun W => hsum_any (⟨#[86]⟩ ++ lenB k ++ k ++ v) (by simp only [ByteArray.size_append]; omega) W)
  change Hid (∀ W, Calls Tryz.prog 49 _ W fun e w' => e = .returned (.string (ownS k v)) ∧ Below W.heap.size W w') at HS
  generalize ownS k v = R at *
  generalize lenB k = L at *
  have hm : IntKind.u8.wrap (k.size : Int) = ((k.size % 256 : Nat) : Int) := by rw [IntKind.wrap_u8']; omega
  generalize k.size % 256 = M at *
  clear z0 zl hT
  go_enter Tryz.func74, Tryz.ntmps74
  go_wp2_with fail
  refine (HS.out _).mono ?_
  rintro e w' ⟨rfl, hB⟩
  have hB2 := hB0.trans (hB.mono hB0.size)
  go_wp2
  go_ret
  exact ⟨rfl, hB2⟩

/-- the empty roots from the depth k on -/
def empU (k d : Nat) : ByteArray := if k ≤ d then emp d else ⟨#[]⟩
set_option maxRecDepth 100000 in
set_option maxHeartbeats 1000000 in
theorem plant_any (w : World) :
    Calls Tryz.prog 58 #[.agg tabV] w fun e w' => e = .returned (.pointer (some ⟨w.heap.size + 1, 0, none⟩)) ∧ Tre w' (w.heap.size + 1) ∧ Below w.heap.size w w' := by
  have HS0 := Lib.hid (fun W => hsum_any ⟨#[69]⟩ (by decide) W)
  rw [← emp_last] at HS0
  have HJ := Lib.hid (fun k (hk : k < 256) W hT => emp_step k hk ▸ tjoin_any (w.heap.size + 1) (emp (k + 1)) (emp (k + 1)) (by rw [emp_size]; decide) (by rw [emp_size]; decide) W hT)
  obtain ⟨g, hg⟩ : ∃ g, w.heap.size + 1 = g := ⟨_, rfl⟩
  rw [hg] at HJ ⊢
  have b0 : Blk (w.alloc (.cells tabV 47)) w.heap.size 47 tabV := Blk.new _ _ _
  have hB0 := (Below.refl _ w).alloc (Nat.le_refl _) (.cells tabV 47)
  have hT0 := tab_run b0
  have hz0 : (w.alloc (.cells tabV 47)).heap.size = w.heap.size + 1 := by simp
  go_enter Tryz.func58, Tryz.ntmps58
  go_wp2_with (refine wpList_build_as rfl 131 _ rfl (treC fun _ => ⟨#[]⟩) (by kernel_rfl) ?_)
  obtain ⟨w1, hw1⟩ : ∃ w1, (w.alloc (.cells tabV 47)).alloc (.cells (treC fun _ => ⟨#[]⟩) 131) = w1 := ⟨_, rfl⟩
  have hk1 : Blk w1 g 131 (treC fun _ => ⟨#[]⟩) := by rw [← hw1]; exact Blk.new_at (by rw [hz0, hg])
  have hb1 : Blk w1 w.heap.size 47 tabV := by rw [← hw1]; exact b0.alloc _
  have hB1 : Below w.heap.size w w1 := by rw [← hw1]; exact hB0.alloc (by omega) _
  rw [hw1]
  clear hw1 b0 hB0 hT0 hz0
  have HK1 := Lib.hid hk1
  have HB1 := Lib.hid hB1
  have hl0 : (loadVar 47 ⟨w.heap.size, 0, none⟩).run Tryz.prog w1 = .ok (.agg tabV) w1 := tab_run hb1
  have hl1 : (loadVar 47 ⟨w.heap.size, 0, none⟩).run Tryz.prog w1.drew = .ok (.agg tabV) w1.drew := tab_run hb1
  clear hk1 hB1 hb1
  obtain ⟨E, hE⟩ : ∃ E, emp 256 = E := ⟨_, rfl⟩
  rw [hE] at HS0
  have HE := Lib.hid hE
  clear hE
  go_region_law (first
    | (go_simp; go_at_call 49; refine (HS0.out _).mono ?_; rintro e w2 ⟨rfl, hb2⟩; have hb2' : Below w1.heap.size w1 w2 := (Below.refl _ _).drew.trans hb2; have hk2 := HK1.out.below hb2' HK1.out.lt; have hc2 := tre_cell hk2 (d := 256) (by decide); have hf2 := hk2.frozen 328))
  all_goals
    have hk3 := hk2.set_ 328 (.string E)
    rw [show (328 : Nat) = 72 + 256 from rfl, treC_set (fun _ => ⟨#[]⟩) (empU 256) (d := 256) (by decide) E (by unfold empU; rw [if_pos (by decide)]; exact HE.out) (fun i hi hne => by unfold empU; rw [if_neg (by omega)])] at hk3
    have hB3 := (HB1.out.trans (hb2'.mono HB1.out.size)).setCell (p := ⟨g, 328, none⟩) (by show w.heap.size ≤ g; omega) (.string E)
    rw [show (72 + 256 : Nat) = 328 from rfl] at hk3
    generalize w2.setCell ⟨g, 328, none⟩ (.string E) = w3 at *
    clear hk2 hc2 hf2 hb2 hb2' HB1 HK1 hl0 hl1 HS0 HE
    go_wp2
    go_loopw [4] (fun v wr => ∃ k : Nat, k ≤ 256 ∧ v = .int .i64 ((k : Int) - 1) ∧ Blk wr g 131 (treC (empU k)) ∧ Below w.heap.size w wr) (fun v _ => ((intOf v) + 1).toNat)
    case atStart => exact ⟨256, Nat.le_refl _, rfl, hk3, hB3⟩
    case round =>
      clear hk3 hB3
      obtain ⟨k, hk, rfl, hkr, hBr⟩ := hrel
      rcases k with _ | j
      · rw [show (((0 : Nat) : Int) - 1) = -1 from rfl]
        go_wp2
        go_ret
        refine ⟨rfl, ?_, hBr⟩
        unfold Tre
        have : empU 0 = emp := by funext d; unfold empU; rw [if_pos (Nat.zero_le _)]
        rw [← this]
        exact hkr
      · rw [show (((j + 1 : Nat) : Int) - 1) = (j : Int) by omega]
        have hT := tre_tab hkr
        have hcb := tre_cell hkr (d := j + 1) (by omega)
        have HJ1 := Lib.hid (HJ.out j (by omega))
        have HE := Lib.hid (show empU (j + 1) (j + 1) = emp (j + 1) by unfold empU; rw [if_pos (Nat.le_refl _)])
        rw [HE.out] at hcb
        have hl := txt_load hcb
        generalize emp (j + 1) = X at *
        have HK := Lib.hid hkr
        have HB := Lib.hid hBr
        clear hkr hBr HE hcb
        go_wp2
        obtain ⟨Y, hY⟩ : ∃ Y, emp j = Y := ⟨_, rfl⟩
        rw [hY] at HJ1
        have HY := Lib.hid hY
        have HT := Lib.hid (tre_tab HK.out.drew)
        have hj7 : (j : Int) < 257 := by omega
        clear hY hl hT HJ
        go_region_law (first
          | (go_simp; go_at_call 73; refine (HJ1.out _ HT.out).mono ?_; rintro e w2 ⟨rfl, hb2⟩; have hb2' : Below wr.heap.size wr w2 := (Below.refl _ _).drew.trans hb2; have hk2 := HK.out.below hb2' HK.out.lt; have hc2 := tre_cell hk2 (d := j) (by omega); have hf2 := hk2.frozen (72 + j)))
        all_goals
          have hk3 := hk2.set_ (72 + j) (.string Y)
          rw [treC_set (empU (j + 1)) (empU j) (d := j) (by omega) Y (by unfold empU; rw [if_pos (Nat.le_refl _)]; exact HY.out) (fun i hi hne => by unfold empU; by_cases h : j ≤ i <;> simp [h] <;> omega)] at hk3
          have hB3 := (HB.out.trans (hb2'.mono HB.out.size)).setCell (p := ⟨g, 72 + j, none⟩) (by show w.heap.size ≤ g; omega) (.string Y)
          generalize w2.setCell ⟨g, 72 + j, none⟩ (.string Y) = w4 at *
          clear hk2 hc2 hf2 hb2 hb2' HB HK HT HY HJ1
          go_wp2
          go_roundw
          case rel => exact ⟨j, by omega, by go_num, hk3, hB3⟩
          case measure => simp [intOf]
end
end Go.Proofs.YtjmjkcgldencoaaGreat

/-
  The tree of the empty roots: joins, a key's own root, its path, and plant. A text of one byte, made of a slice. A key's own root; plant. Bits of strings: the program's closure, and the reference's Bit. The reference of layer 5: Own, Empty. Pairs of a size that is looked at.
-/
import Derived.Test.YtakgolbgeeoioaaGreatMRefLSRefAHSBitMSPairSRefAMHStep
import Derived.Test.YtakgolbgeeoioaaGreatRefSumHSumMLen
import Derived.Deep.MidRow
import Derived.Test.YtakgolbgeeoioaaGreatTxtGRow
namespace Go.Proofs.YtakgolbgeeoioaaGreat
open Go.RowKit

def nodS (l r : ByteArray) : ByteArray := hB (⟨#[78]⟩ ++ l ++ r)
theorem nodS_size (l r : ByteArray) : (nodS l r).size = 32 := hB_size _
/-- the empty root, so many depths above the last -/
def empK : Nat → ByteArray
 | 0 => hB ⟨#[69]⟩
 | k + 1 => nodS (empK k) (empK k)
def emp (d : Nat) : ByteArray := empK (256 - d)
theorem empK_size (k : Nat) : (empK k).size = 32 := by
 cases k with
 | zero => exact hB_size _
 | succ k => exact nodS_size _ _
theorem emp_size (d : Nat) : (emp d).size = 32 := empK_size _
theorem emp_last : emp 256 = hB ⟨#[69]⟩ := by
 show empK 0 = _
 rw [empK]
theorem emp_step (d : Nat) (h : d < 256) : emp d = nodS (emp (d + 1)) (emp (d + 1)) := by
 unfold emp
 rw [show 256 - d = (256 - (d + 1)) + 1 by omega, empK]
/-- a key's own root -/
def lenB (k : ByteArray) : ByteArray := strN [k.size % 256]
def ownS (k v : ByteArray) : ByteArray := hB (⟨#[86]⟩ ++ lenB k ++ k ++ v)
theorem ownS_size (k v : ByteArray) : (ownS k v).size = 32 := hB_size _
def pathS (k : ByteArray) : ByteArray := hB (⟨#[75]⟩ ++ k)
theorem pathS_size (k : ByteArray) : (pathS k).size = 32 := hB_size _

/-- the tree's cells -/
def treC (f : Nat → ByteArray) : Array Value := tabV ++ ((List.range 257).map fun d => Value.string (f d)).toArray
theorem treC_size (f : Nat → ByteArray) : (treC f).size = 329 := by
 unfold treC
 rw [Array.size_append, tabV_size]
 simp
theorem treC_at (f : Nat → ByteArray) {d : Nat} (h : d < 257) : (treC f)[72 + d]? = some (.string (f d)) := by
 unfold treC
 rw [Array.getElem?_append_right (by rw [tabV_size]; omega), tabV_size, show 72 + d - 72 = d by omega]
 simp [h]
theorem treC_tab (f : Nat → ByteArray) {w : World} {g : Nat} {t : TypeId} (h : Blk w g t (treC f)) : w.rangeAt g 0 tabV.toList := by
 intro j v hv
 rw [Nat.zero_add, h.cell]
 have hj : j < tabV.size := by
  have := (List.getElem?_eq_some_iff.1 hv).1
  simpa using this
 unfold treC
 rw [Array.getElem?_append_left hj, ← hv]
 simp
theorem treC_set (f f' : Nat → ByteArray) {d : Nat} (h : d < 257) (x : ByteArray) (hx : f' d = x) (ho : ∀ i, i < 257 → i ≠ d → f' i = f i) : (treC f).setIfInBounds (72 + d) (.string x) = treC f' := by
 apply Array.ext
 · rw [Array.size_setIfInBounds, treC_size, treC_size]
 · intro i h1 h2
   rw [treC_size] at h2
   rw [Array.getElem_setIfInBounds]
   split
   · next he =>
     subst he
     have := treC_at f' h
     rw [Array.getElem?_eq_getElem (by rw [treC_size]; omega), hx] at this
     exact (Option.some.inj this).symm
   · next he =>
     by_cases hi : i < 72
     · simp only [treC]
       rw [Array.getElem_append_left (by rw [tabV_size]; exact hi), Array.getElem_append_left (by rw [tabV_size]; exact hi)]
     · have e1 := treC_at f (d := i - 72) (by omega)
       have e2 := treC_at f' (d := i - 72) (by omega)
       rw [show 72 + (i - 72) = i by omega, Array.getElem?_eq_getElem (by rw [treC_size]; omega)] at e1 e2
       rw [Option.some.inj e1, Option.some.inj e2, ho (i - 72) (by omega) (by omega)]
   · rw [treC_size]; exact h2
/-- block g is the tree -/
def Tre (w : World) (g : Nat) : Prop := Blk w g 160 (treC emp)
theorem tre_tab {w : World} {g : Nat} {t : TypeId} {f : Nat → ByteArray} (h : Blk w g t (treC f)) : (loadVar 29 ⟨g, 0, none⟩).run Tryz.prog w = .ok (.agg tabV) w := by
 have := run_loadVar_mid (P := Tryz.prog) w g 0 29 tabV.toList _ (treC_tab f h) Tryz.underlying29 rfl (by rw [Array.length_toList, tabV_size]; exact infoTable)
 rwa [Array.toArray_toList] at this
theorem tre_cell {w : World} {g : Nat} {t : TypeId} {f : Nat → ByteArray} (h : Blk w g t (treC f)) {d : Nat} (hd : d < 257) : w.cell? ⟨g, 72 + d, none⟩ = some (.string (f d)) := (h.cell _).trans (treC_at f hd)

section
attribute [-go_sem] loadVar
set_option maxRecDepth 100000 in
set_option maxHeartbeats 1000000 in
theorem tjoin_any (g : Nat) (l r : ByteArray) (hl : l.size ≤ 1073741824) (hr : r.size ≤ 1073741824) (w : World) (hT : (loadVar 29 ⟨g, 0, none⟩).run Tryz.prog w = .ok (.agg tabV) w) :
 Calls Tryz.prog 99 #[.pointer (some ⟨g, 0, none⟩), .string l, .string r] w fun e w' => e = .returned (.string (nodS l r)) ∧ Below w.heap.size w w' := by
 have z0 : (⟨#[78]⟩ : ByteArray).size = 1 := rfl
 have a1 : ¬ (⟨#[78]⟩ : ByteArray).size + l.size > 9223372036854775807 := by omega
 have a2 : ¬ ((⟨#[78]⟩ : ByteArray) ++ l).size + r.size > 9223372036854775807 := by simp only [ByteArray.size_append]; omega
 have HS := Lib.hid (fun W => hsum_any (⟨#[78]⟩ ++ l ++ r) (by simp only [ByteArray.size_append]; omega) W)
 change Hid (∀ W, Calls Tryz.prog 73 _ W fun e w' => e = .returned (.string (nodS l r)) ∧ Below W.heap.size W w') at HS
 generalize nodS l r = R at *
 clear z0
 go_enter Tryz.func99, Tryz.ntmps99
 go_wp2_with fail
 refine (HS.out _).mono ?_
 rintro e w' ⟨rfl, hB⟩
 go_wp2
 go_ret
 exact ⟨rfl, hB⟩
set_option maxRecDepth 100000 in
set_option maxHeartbeats 1000000 in
theorem pathOf_any (k : ByteArray) (hk : k.size ≤ 1073741824) (w : World) :
 Calls Tryz.prog 91 #[.agg tabV, .string k] w fun e w' => e = .returned (.string (pathS k)) ∧ Below w.heap.size w w' := by
 have z0 : (⟨#[75]⟩ : ByteArray).size = 1 := rfl
 have a1 : ¬ (⟨#[75]⟩ : ByteArray).size + k.size > 9223372036854775807 := by omega
 have HS := Lib.hid (fun W => hsum_any (⟨#[75]⟩ ++ k) (by simp only [ByteArray.size_append]; omega) W)
 change Hid (∀ W, Calls Tryz.prog 73 _ W fun e w' => e = .returned (.string (pathS k)) ∧ Below W.heap.size W w') at HS
 generalize pathS k = R at *
 have hB0 := (Below.refl _ w).alloc (Nat.le_refl _) (.cells tabV 29)
 have hT := tab_run (Blk.new w 29 tabV)
 clear z0
 go_enter Tryz.func91, Tryz.ntmps91
 go_wp2_with fail
 refine (HS.out _).mono ?_
 rintro e w' ⟨rfl, hB⟩
 have hB2 := hB0.trans (hB.mono hB0.size)
 go_wp2
 go_ret
 exact ⟨rfl, hB2⟩
end
end Go.Proofs.YtakgolbgeeoioaaGreat
namespace Go.Proofs.YtakgolbgeeoioaaGreat
open Go.RowKit

theorem conv_one (w : World) (n : Nat) (_ : n < 256) : (convert 119 9 (.slice (some ⟨w.heap.size, 0, none⟩) 1 1)).run Tryz.prog (w.alloc (.cells #[.int .u8 (n : Int)] 5)) = .ok (.string (strN [n])) (w.alloc (.cells #[.int .u8 (n : Int)] 5)) := by
 refine conv_cells _ 119 5 9 Tryz.underlying119 Tryz.underlying5 Tryz.underlying9 w.heap.size 1 [n] (fun i hi => ?_)
 have hi0 : i = 0 := by simpa using hi
 subst hi0
 rw [(Blk.new w 5 #[.int .u8 (n : Int)]).cell]
 rfl
end Go.Proofs.YtakgolbgeeoioaaGreat
namespace Go.Proofs.YtakgolbgeeoioaaGreat
open Go.RowKit

section
attribute [-go_sem] loadVar
set_option maxRecDepth 100000 in
set_option maxHeartbeats 1000000 in
theorem tvalue_any (g : Nat) (k v : ByteArray) (hk : k.size ≤ 1073741824) (hv : v.size ≤ 1073741824) (w : World) (_ : g < w.heap.size) (hT : ∀ W, Below w.heap.size w W → (loadVar 29 ⟨g, 0, none⟩).run Tryz.prog W = .ok (.agg tabV) W) :
 Calls Tryz.prog 100 #[.pointer (some ⟨g, 0, none⟩), .string k, .string v] w fun e w' => e = .returned (.string (ownS k v)) ∧ Below w.heap.size w w' := by
 have z0 : (⟨#[86]⟩ : ByteArray).size = 1 := rfl
 have zl : (lenB k).size = 1 := by unfold lenB; rw [strN_size]; rfl
 have hc := conv_one w (k.size % 256) (Nat.mod_lt _ (by decide))
 have hB0 := (Below.refl _ w).alloc (Nat.le_refl _) (.cells #[.int .u8 ((k.size % 256 : Nat) : Int)] 5)
 have hT0 := hT _ hB0
 change (convert 119 9 (.slice (some ⟨w.heap.size, 0, none⟩) 1 1)).run Tryz.prog _ = .ok (.string (lenB k)) _ at hc
 have a1 : ¬ (⟨#[86]⟩ : ByteArray).size + (lenB k).size > 9223372036854775807 := by omega
 have a2 : ¬ ((⟨#[86]⟩ : ByteArray) ++ lenB k).size + k.size > 9223372036854775807 := by simp only [ByteArray.size_append]; omega
 have a3 : ¬ ((⟨#[86]⟩ : ByteArray) ++ lenB k ++ k).size + v.size > 9223372036854775807 := by simp only [ByteArray.size_append]; omega
 have HS := Lib.hid (fun W => hsum_any (⟨#[86]⟩ ++ lenB k ++ k ++ v) (by simp only [ByteArray.size_append]; omega) W)
 change Hid (∀ W, Calls Tryz.prog 73 _ W fun e w' => e = .returned (.string (ownS k v)) ∧ Below W.heap.size W w') at HS
 generalize ownS k v = R at *
 generalize lenB k = L at *
 have hm : IntKind.u8.wrap (k.size : Int) = ((k.size % 256 : Nat) : Int) := by rw [IntKind.wrap_u8']; omega
 generalize k.size % 256 = M at *
 clear z0 zl hT
 go_enter Tryz.func100, Tryz.ntmps100
 go_wp2_with fail
 refine (HS.out _).mono ?_
 rintro e w' ⟨rfl, hB⟩
 have hB2 := hB0.trans (hB.mono hB0.size)
 go_wp2
 go_ret
 exact ⟨rfl, hB2⟩

/-- the empty roots from the depth k on -/
def empU (k d : Nat) : ByteArray := if k ≤ d then emp d else ⟨#[]⟩
set_option maxRecDepth 100000 in
set_option maxHeartbeats 1000000 in
theorem plant_any (w : World) :
 Calls Tryz.prog 78 #[.agg tabV] w fun e w' => e = .returned (.pointer (some ⟨w.heap.size + 1, 0, none⟩)) ∧ Tre w' (w.heap.size + 1) ∧ Below w.heap.size w w' := by
 have HS0 := Lib.hid (fun W => hsum_any ⟨#[69]⟩ (by decide) W)
 rw [← emp_last] at HS0
 have HJ := Lib.hid (fun k (hk : k < 256) W hT => emp_step k hk ▸ tjoin_any (w.heap.size + 1) (emp (k + 1)) (emp (k + 1)) (by rw [emp_size]; decide) (by rw [emp_size]; decide) W hT)
 obtain ⟨g, hg⟩ : ∃ g, w.heap.size + 1 = g := ⟨_, rfl⟩
 rw [hg] at HJ ⊢
 have b0 : Blk (w.alloc (.cells tabV 29)) w.heap.size 29 tabV := Blk.new _ _ _
 have hB0 := (Below.refl _ w).alloc (Nat.le_refl _) (.cells tabV 29)
 have hT0 := tab_run b0
 have hz0 : (w.alloc (.cells tabV 29)).heap.size = w.heap.size + 1 := by simp
 go_enter Tryz.func78, Tryz.ntmps78
 go_wp2_with (refine wpList_build_as rfl 160 _ rfl (treC fun _ => ⟨#[]⟩) (by kernel_rfl) ?_)
 obtain ⟨w1, hw1⟩ : ∃ w1, (w.alloc (.cells tabV 29)).alloc (.cells (treC fun _ => ⟨#[]⟩) 160) = w1 := ⟨_, rfl⟩
 have hk1 : Blk w1 g 160 (treC fun _ => ⟨#[]⟩) := by rw [← hw1]; exact Blk.new_at (by rw [hz0, hg])
 have hb1 : Blk w1 w.heap.size 29 tabV := by rw [← hw1]; exact b0.alloc _
 have hB1 : Below w.heap.size w w1 := by rw [← hw1]; exact hB0.alloc (by omega) _
 rw [hw1]
 clear hw1 b0 hB0 hT0 hz0
 have HK1 := Lib.hid hk1
 have HB1 := Lib.hid hB1
 have hl0 : (loadVar 29 ⟨w.heap.size, 0, none⟩).run Tryz.prog w1 = .ok (.agg tabV) w1 := tab_run hb1
 have hl1 : (loadVar 29 ⟨w.heap.size, 0, none⟩).run Tryz.prog w1.drew = .ok (.agg tabV) w1.drew := tab_run hb1
 clear hk1 hB1 hb1
 obtain ⟨E, hE⟩ : ∃ E, emp 256 = E := ⟨_, rfl⟩
 rw [hE] at HS0
 have HE := Lib.hid hE
 clear hE
 go_region_law (first
  | (go_simp; go_at_call 73; refine (HS0.out _).mono ?_; rintro e w2 ⟨rfl, hb2⟩; have hb2' : Below w1.heap.size w1 w2 := (Below.refl _ _).drew.trans hb2; have hk2 := HK1.out.below hb2' HK1.out.lt; have hc2 := tre_cell hk2 (d := 256) (by decide); have hf2 := hk2.frozen 328))
 all_goals
  have hk3 := hk2.set_ 328 (.string E)
  rw [show (328 : Nat) = 72 + 256 from rfl, treC_set (fun _ => ⟨#[]⟩) (empU 256) (d := 256) (by decide) E (by unfold empU; rw [if_pos (by decide)]; exact HE.out) (fun i hi hne => by unfold empU; rw [if_neg (by omega)])] at hk3
  have hB3 := (HB1.out.trans (hb2'.mono HB1.out.size)).setCell (p := ⟨g, 328, none⟩) (by show w.heap.size ≤ g; omega) (.string E)
  rw [show (72 + 256 : Nat) = 328 from rfl] at hk3
  generalize w2.setCell ⟨g, 328, none⟩ (.string E) = w3 at *
  clear hk2 hc2 hf2 hb2 hb2' HB1 HK1 hl0 hl1 HS0 HE
  go_wp2
  go_loopw [4] (fun v wr => ∃ k : Nat, k ≤ 256 ∧ v = .int .i64 ((k : Int) - 1) ∧ Blk wr g 160 (treC (empU k)) ∧ Below w.heap.size w wr) (fun v _ => ((intOf v) + 1).toNat)
  case atStart => exact ⟨256, Nat.le_refl _, rfl, hk3, hB3⟩
  case round =>
   clear hk3 hB3
   obtain ⟨k, hk, rfl, hkr, hBr⟩ := hrel
   rcases k with _ | j
   · rw [show (((0 : Nat) : Int) - 1) = -1 from rfl]
     go_wp2
     go_ret
     refine ⟨rfl, ?_, hBr⟩
     unfold Tre
     have : empU 0 = emp := by funext d; unfold empU; rw [if_pos (Nat.zero_le _)]
     rw [← this]
     exact hkr
   · rw [show (((j + 1 : Nat) : Int) - 1) = (j : Int) by omega]
     have hT := tre_tab hkr
     have hcb := tre_cell hkr (d := j + 1) (by omega)
     have HJ1 := Lib.hid (HJ.out j (by omega))
     have HE := Lib.hid (show empU (j + 1) (j + 1) = emp (j + 1) by unfold empU; rw [if_pos (Nat.le_refl _)])
     rw [HE.out] at hcb
     have hl := txt_load hcb
     generalize emp (j + 1) = X at *
     have HK := Lib.hid hkr
     have HB := Lib.hid hBr
     clear hkr hBr HE hcb
     go_wp2
     obtain ⟨Y, hY⟩ : ∃ Y, emp j = Y := ⟨_, rfl⟩
     rw [hY] at HJ1
     have HY := Lib.hid hY
     have HT := Lib.hid (tre_tab HK.out.drew)
     have hj7 : (j : Int) < 257 := by omega
     clear hY hl hT HJ
     go_region_law (first
      | (go_simp; go_at_call 99; refine (HJ1.out _ HT.out).mono ?_; rintro e w2 ⟨rfl, hb2⟩; have hb2' : Below wr.heap.size wr w2 := (Below.refl _ _).drew.trans hb2; have hk2 := HK.out.below hb2' HK.out.lt; have hc2 := tre_cell hk2 (d := j) (by omega); have hf2 := hk2.frozen (72 + j)))
     all_goals
      have hk3 := hk2.set_ (72 + j) (.string Y)
      rw [treC_set (empU (j + 1)) (empU j) (d := j) (by omega) Y (by unfold empU; rw [if_pos (Nat.le_refl _)]; exact HY.out) (fun i hi hne => by unfold empU; by_cases h : j ≤ i <;> simp [h] <;> omega)] at hk3
      have hB3 := (HB.out.trans (hb2'.mono HB.out.size)).setCell (p := ⟨g, 72 + j, none⟩) (by show w.heap.size ≤ g; omega) (.string Y)
      generalize w2.setCell ⟨g, 72 + j, none⟩ (.string Y) = w4 at *
      clear hk2 hc2 hf2 hb2 hb2' HB HK HT HY HJ1
      go_wp2
      go_roundw
      case rel => exact ⟨j, by omega, by go_num, hk3, hB3⟩
      case measure => simp [intOf]
end
end Go.Proofs.YtakgolbgeeoioaaGreat
namespace Go.Proofs.YtakgolbgeeoioaaGreat
open Go.RowKit

set_option maxRecDepth 100000 in
theorem mask_any (i : Nat) (hi : i < 256) (w : World) : Calls Tryz.prog 107 #[.int .i64 i] w fun e w' => e = .returned (.int .u8 (2 ^ (7 - i % 8) : Nat)) ∧ w = w' := by
 have hm : i % 8 < 8 := Nat.mod_lt _ (by decide)
 have he : ((i : Int) % 8) = ((i % 8 : Nat) : Int) := by omega
 generalize i % 8 = m at *
 have HE := Lib.hid (show (128 : Int) / 2 ^ m = ((2 ^ (7 - m) : Nat) : Int) by
  have : ∀ m : Fin 8, (128 : Int) / 2 ^ m.val = ((2 ^ (7 - m.val) : Nat) : Int) := by decide +kernel
  exact this ⟨m, hm⟩)
 go_enter Tryz.func107, Tryz.ntmps107
 go_wp2
 go_ret
 refine ⟨?_, rfl⟩
 rw [← HE.out]
 rfl
set_option maxRecDepth 100000 in
set_option maxHeartbeats 400000 in
theorem bitf_any (c i : Nat) (hi : i < 256) (s : ByteArray) (hs : s.size = 32) (w : World) (hc : w.cell? ⟨c, 0, none⟩ = some (.int .i64 i)) :
 Calls Tryz.prog 116 #[.string s, .pointer (some ⟨c, 0, none⟩)] w fun e w' => e = .returned (.bool (bitS s i)) ∧ ∃ q, w' = w.drewN q := by
 have HM := Lib.hid (fun W => mask_any i hi W)
 obtain ⟨j, hj⟩ : ∃ j, i / 8 = j := ⟨_, rfl⟩
 have he : ((i : Int) / 8) = (j : Int) := by omega
 have hlt : j < s.size := by omega
 have hw : IntKind.i64.wrap (j : Int) = j := i64_small (by omega)
 have hx := str_idx s j hlt
 have HB := Lib.hid (show bitS s i = (((nums s).getD j 0 &&& 2 ^ (7 - i % 8)) != 0) by
  unfold bitS
  rw [hj]
  exact (and_mask _ _).symm)
 rw [HB.out]
 have hm : 2 ^ (7 - i % 8) < 256 := by
  have : 2 ^ (7 - i % 8) ≤ 2 ^ 7 := Nat.pow_le_pow_right (by decide) (by omega)
  omega
 generalize 2 ^ (7 - i % 8) = M at *
 have hX : (nums s).getD j 0 < 256 := by rw [nums_at s hlt]; exact UInt8.toNat_lt _
 generalize (nums s).getD j 0 = X at *
 have HA := Lib.hid (u8_and_nat X M hX hm)
 clear hj HB
 go_enter Tryz.func116, Tryz.ntmps116
 go_wp2
 go_quiet ((go_at_call 107; exact quiet_left (HM.out _)))
 rw [HA.out]
 go_wp2
 go_ret
 refine ⟨boolEq ?_, nq, rfl⟩
 rw [Bool.eq_iff_iff]
 simp
end Go.Proofs.YtakgolbgeeoioaaGreat
namespace Go.Proofs.YtakgolbgeeoioaaGreat
open Go.RowKit

set_option maxRecDepth 100000 in
set_option maxHeartbeats 1000000 in
theorem rown_any (k v : ByteArray) (hk : k.size ≤ 1073741824) (hv : v.size ≤ 1073741824) (w : World) :
 Calls Tryz.prog 82 #[.agg #[.string k, .string v]] w fun e w' => e = .returned (.string (ownS k v)) ∧ Below w.heap.size w w' := by
 have z0 : (⟨#[86]⟩ : ByteArray).size = 1 := rfl
 have zl : (lenB k).size = 1 := by unfold lenB; rw [strN_size]; rfl
 obtain ⟨w0, hw0⟩ : ∃ w0, w.alloc (.cells #[.string k, .string v] 123) = w0 := ⟨_, rfl⟩
 have b0 : Blk w0 w.heap.size 123 #[.string k, .string v] := by rw [← hw0]; exact Blk.new _ _ _
 have hB00 : Below w.heap.size w w0 := by rw [← hw0]; exact (Below.refl _ w).alloc (Nat.le_refl _) _
 have hc := conv_one w0 (k.size % 256) (Nat.mod_lt _ (by decide))
 have hB0 := hB00.alloc hB00.size (.cells #[.int .u8 ((k.size % 256 : Nat) : Int)] 5)
 have b1 := b0.alloc (.cells #[.int .u8 ((k.size % 256 : Nat) : Int)] 5)
 have q0 : w0.cell? ⟨w.heap.size, 0, none⟩ = some (.string k) := b0.cell 0
 have q1 : (w0.alloc (.cells #[.int .u8 ((k.size % 256 : Nat) : Int)] 5)).cell? ⟨w.heap.size, 0, none⟩ = some (.string k) := b1.cell 0
 have q2 : (w0.alloc (.cells #[.int .u8 ((k.size % 256 : Nat) : Int)] 5)).cell? ⟨w.heap.size, 1, none⟩ = some (.string v) := b1.cell 1
 change (convert 119 9 (.slice (some ⟨w0.heap.size, 0, none⟩) 1 1)).run Tryz.prog _ = .ok (.string (lenB k)) _ at hc
 have a1 : ¬ (⟨#[86]⟩ : ByteArray).size + (lenB k).size > 9223372036854775807 := by omega
 have a2 : ¬ ((⟨#[86]⟩ : ByteArray) ++ lenB k).size + k.size > 9223372036854775807 := by simp only [ByteArray.size_append]; omega
 have a3 : ¬ ((⟨#[86]⟩ : ByteArray) ++ lenB k ++ k).size + v.size > 9223372036854775807 := by simp only [ByteArray.size_append]; omega
 have HS := Lib.hid (fun W => rh5_any (⟨#[86]⟩ ++ lenB k ++ k ++ v) (by simp only [ByteArray.size_append]; omega) W)
 change Hid (∀ W, Calls Tryz.prog 41 _ W fun e w' => e = .returned (.string (ownS k v)) ∧ Below W.heap.size W w') at HS
 generalize ownS k v = R at *
 generalize lenB k = L at *
 have hm : IntKind.u8.wrap (k.size : Int) = ((k.size % 256 : Nat) : Int) := by rw [IntKind.wrap_u8']; omega
 generalize k.size % 256 = M at *
 have HW := Lib.hid hw0
 clear z0 zl b0 b1 hB00 hw0
 go_enter Tryz.func82, Tryz.ntmps82
 go_wp2_with (rw [HW.out])
 refine (HS.out _).mono ?_
 rintro e w' ⟨rfl, hB⟩
 have hB2 := hB0.trans (hB.mono hB0.size)
 go_wp2
 go_ret
 exact ⟨rfl, hB2⟩

section
attribute [-go_sem] loadVar
set_option maxRecDepth 100000 in
set_option maxHeartbeats 1000000 in
theorem rempty_any (w : World) : Calls Tryz.prog 14 #[] w fun e w' => e = .returned (.agg (emC emp)) ∧ Below w.heap.size w w' := by
 have HS0 := Lib.hid (fun W => rh5_any ⟨#[69]⟩ (by decide) W)
 rw [← emp_last] at HS0
 have HJ := Lib.hid (show ∀ k (_ : k < 256) W, Calls Tryz.prog 41 #[.string (⟨#[78]⟩ ++ emp (k + 1) ++ emp (k + 1))] W fun e w' => e = .returned (.string (emp k)) ∧ Below W.heap.size W w' from fun k hk W => by
  have := rh5_any (⟨#[78]⟩ ++ emp (k + 1) ++ emp (k + 1)) (by simp only [ByteArray.size_append, emp_size]; decide) W
  rw [emp_step k hk]
  exact this)
 have hz : Tryz.zeroCells55 = emC fun _ => ⟨#[]⟩ := by kernel_rfl
 obtain ⟨B, hBB⟩ : ∃ B, w.heap.size = B := ⟨_, rfl⟩
 have HZ := Lib.hid hz
 clear hz
 go_enter Tryz.func14, Tryz.ntmps14
 go_wp2_with fail
 rw [HZ.out]
 obtain ⟨w1, hw1⟩ : ∃ w1, (w.alloc (.cells (emC fun _ => ⟨#[]⟩) 55)).alloc (.cells (emC fun _ => ⟨#[]⟩) 55) = w1 := ⟨_, rfl⟩
 have hk0 : Blk w1 B 55 (emC fun _ => ⟨#[]⟩) := by rw [← hw1, ← hBB]; exact (Blk.new _ _ _).alloc _
 have hk1 : Blk w1 (B + 1) 55 (emC fun _ => ⟨#[]⟩) := by rw [← hw1]; exact Blk.new_at (by simp [hBB])
 have hB1 : Below B w w1 := by rw [← hw1, ← hBB]; exact ((Below.refl _ w).alloc (Nat.le_refl _) _).alloc (by simp) _
 rw [hw1]
 clear hw1
 obtain ⟨E, hE⟩ : ∃ E, emp 256 = E := ⟨_, rfl⟩
 rw [hE] at HS0
 refine (HS0.out _).mono ?_
 rintro e w2 ⟨rfl, hb2⟩
 have hm0 := hk0.below hb2 hk0.lt
 have hm1 := hk1.below hb2 hk1.lt
 have hc2 := (hm1.cell 256).trans (emC_at _ (by decide))
 have hf2 := hm1.frozen 256
 have hB2 := hB1.trans (hb2.mono (Nat.le_of_lt hk0.lt))
 have HM0 := Lib.hid hm0
 have HM1 := Lib.hid hm1
 have HE := Lib.hid hE
 have HB2 := Lib.hid hB2
 have HBB := Lib.hid hBB
 clear hk0 hk1 hB1 hb2 hm0 hm1 hB2 hE
 go_wp2
 have hk3 := HM1.out.set_ 256 (.string E)
 rw [emC_set (fun _ => ⟨#[]⟩) (empU 256) (d := 256) E (by unfold empU; rw [if_pos (by decide)]; exact HE.out) (fun i hi hne => by unfold empU; rw [if_neg (by omega)])] at hk3
 have hn3 := HM0.out.far (p := ⟨B + 1, 256, none⟩) (by show B ≠ B + 1; omega) (.string E)
 have hB3 := HB2.out.setCell (p := ⟨B + 1, 256, none⟩) (by show B ≤ B + 1; omega) (.string E)
 generalize w2.setCell ⟨B + 1, 256, none⟩ (.string E) = w3 at *
 clear hc2 hf2 HM0 HM1 HB2 HS0 HE HZ
 go_loopw [2] (fun v wr => ∃ k : Nat, k ≤ 256 ∧ v = .int .i64 ((k : Int) - 1) ∧ Blk wr B 55 (emC fun _ => ⟨#[]⟩) ∧ Blk wr (B + 1) 55 (emC (empU k)) ∧ Below B w wr) (fun v _ => ((intOf v) + 1).toNat)
 case atStart => exact ⟨256, Nat.le_refl _, rfl, hn3, hk3, hB3⟩
 case round =>
  clear hk3 hB3 hn3
  obtain ⟨k, hk, rfl, hnr, hkr, hBr⟩ := hrel
  rcases k with _ | j
  · rw [show (((0 : Nat) : Int) - 1) = -1 from rfl]
    rw [show empU 0 = emp from by funext d; unfold empU; rw [if_pos (Nat.zero_le _)]] at hkr
    have HS1 := Lib.hid (emC_size emp)
    have HO1 := Lib.hid (emC_one emp)
    have HZ1 := Lib.hid (show (emC fun _ => (⟨#[]⟩ : ByteArray)).size = (emC emp).size by rw [emC_size, emC_size])
    have HI := Lib.hid (show (Tryz.prog.info? 55).map (·.size) = some (emC emp).size by rw [emC_size]; exact infoEm)
    obtain ⟨EE, hEE⟩ : ∃ EE, emC emp = EE := ⟨_, rfl⟩
    rw [hEE] at HS1 HO1 HZ1 HI hkr
    have HEE := Lib.hid hEE
    clear hEE
    go_wp2_with (first
     | (refine wpList_load_row rfl 55 _ rfl (B + 1) rfl 55 EE (0, 0) _ hkr Tryz.underlying55 rfl HI.out ?_)
     | (refine wpList_store_row rfl 55 _ _ rfl B EE rfl rfl 55 (emC fun _ => ⟨#[]⟩) hnr HI.out HZ1.out HO1.out ?_))
    have hn4 := blk_setRow hnr EE
    have hB4 := below_setRow hBr (Nat.le_refl B) EE
    exact bodyPost_ret (results_cell_row rfl _ _ B 55 EE (0, 0) _ rfl hn4 Tryz.underlying55 rfl HI.out) rfl ⟨by rw [HEE.out], by rw [HBB.out]; exact hB4⟩
  · rw [show (((j + 1 : Nat) : Int) - 1) = (j : Int) by omega]
    have hcb := (hkr.cell (j + 1)).trans (emC_at _ (by omega))
    have HJ1 := Lib.hid (HJ.out j (by omega))
    have HE := Lib.hid (show empU (j + 1) (j + 1) = emp (j + 1) by unfold empU; rw [if_pos (Nat.le_refl _)])
    rw [HE.out] at hcb
    have hXs := emp_size (j + 1)
    generalize emp (j + 1) = X at *
    have hl : (loadVar 9 ⟨B + 1, j + 1, none⟩).run Tryz.prog wr.drew = .ok (.string X) wr.drew := txt_load hcb
    have z0 : (⟨#[78]⟩ : ByteArray).size = 1 := rfl
    have ad1 := addRun (a := ⟨#[78]⟩) (b := X) (by omega)
    have ad2 := addRun (a := ⟨#[78]⟩ ++ X) (b := X) (by simp only [ByteArray.size_append]; omega)
    have HK := Lib.hid hkr
    have HN := Lib.hid hnr
    have HB := Lib.hid hBr
    have hj7 : (j : Int) < 257 := by omega
    have hj8 : (j : Int) + 1 < 257 := by omega
    have hj6 : (0 : Int) ≤ (j : Int) + 1 := by omega
    have hj9 : IntKind.i64.wrap ((j : Int) + 1) = (j : Int) + 1 := by have := i64_small (n := j + 1) (by omega); simpa using this
    obtain ⟨Y, hY⟩ : ∃ Y, emp j = Y := ⟨_, rfl⟩
    rw [hY] at HJ1
    have HY := Lib.hid hY
    clear hkr hnr hBr HE hcb hY hXs HJ z0
    go_wp2
    go_region_law (first
     | (go_simp; go_at_call 41; refine (HJ1.out _).mono ?_; rintro e w2 ⟨rfl, hb2⟩; have hb2' : Below wr.heap.size wr w2 := (Below.refl _ _).drew.trans hb2; have hk2 := HK.out.below hb2' HK.out.lt; have hc2 := (hk2.cell j).trans (emC_at _ (by omega)); have hf2 := hk2.frozen j))
    all_goals
     have hk3 := hk2.set_ j (.string Y)
     rw [emC_set (empU (j + 1)) (empU j) (d := j) Y (by unfold empU; rw [if_pos (Nat.le_refl _)]; exact HY.out) (fun i hi hne => by unfold empU; by_cases h : j ≤ i <;> simp [h] <;> omega)] at hk3
     have hn3 := (HN.out.below hb2' HN.out.lt).far (p := ⟨B + 1, j, none⟩) (by show B ≠ B + 1; omega) (.string Y)
     have hB3 := (HB.out.trans (hb2'.mono (Nat.le_of_lt HN.out.lt))).setCell (p := ⟨B + 1, j, none⟩) (by show B ≤ B + 1; omega) (.string Y)
     generalize w2.setCell ⟨B + 1, j, none⟩ (.string Y) = w4 at *
     clear hk2 hc2 hf2 hb2 hb2' HB HK HN HY HJ1 hl ad1 ad2 hj9
     go_wp2
     go_roundw
     case rel => exact ⟨j, by omega, by go_num, hn3, hk3, hB3⟩
     case measure => simp [intOf]
end
end Go.Proofs.YtakgolbgeeoioaaGreat
namespace Go.Proofs.YtakgolbgeeoioaaGreat
open Go.RowKit


/-- keys and values of a size that is looked at -/
def FitP (ps : List (ByteArray × ByteArray)) : Prop := ∀ x ∈ ps, x.1.size ≤ 250 ∧ x.2.size ≤ 250
theorem FitP.get {ps : List (ByteArray × ByteArray)} (h : FitP ps) {i : Nat} (hi : i < ps.length) : ps[i].1.size ≤ 250 ∧ ps[i].2.size ≤ 250 := h _ (List.getElem_mem hi)
theorem FitP.snoc {ps : List (ByteArray × ByteArray)} (h : FitP ps) {y : ByteArray × ByteArray} (hy : y.1.size ≤ 250 ∧ y.2.size ≤ 250) : FitP (ps ++ [y]) := fun x hx => by
 rcases List.mem_append.1 hx with hx | hx
 · exact h x hx
 · rw [List.mem_singleton.1 hx]; exact hy
end Go.Proofs.YtakgolbgeeoioaaGreat

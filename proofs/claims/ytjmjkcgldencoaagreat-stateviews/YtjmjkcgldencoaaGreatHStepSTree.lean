/-
  The tree of the empty roots: joins, a key's own root, its path, and plant.
-/
import Derived.Test.YtjmjkcgldencoaaGreatHStep
import Derived.Test.YtjmjkcgldencoaaGreatRefSumHSum
import Derived.Deep.MidRow
namespace Go.Proofs.YtjmjkcgldencoaaGreat
open Go.RowKit

def nodS (l r : ByteArray) : ByteArray := hB (⟨#[78]⟩ ++ l ++ r)
theorem nodS_size (l r : ByteArray) : (nodS l r).size = 32 := hB_size _
/-- the empty root, so many depths above the last -/
def empK : Nat → ByteArray
  | 0 => hB ⟨#[69]⟩
  | k + 1 => nodS (empK k) (empK k)
def emp (d : Nat) : ByteArray := empK (256 - d)
theorem empK_size (k : Nat) : (empK k).size = 32 := by
  cases k with
  | zero => exact hB_size _
  | succ k => exact nodS_size _ _
theorem emp_size (d : Nat) : (emp d).size = 32 := empK_size _
theorem emp_last : emp 256 = hB ⟨#[69]⟩ := by
  show empK 0 = _
  rw [empK]
theorem emp_step (d : Nat) (h : d < 256) : emp d = nodS (emp (d + 1)) (emp (d + 1)) := by
  unfold emp
  rw [show 256 - d = (256 - (d + 1)) + 1 by omega, empK]
/-- a key's own root -/
def lenB (k : ByteArray) : ByteArray := strN [k.size % 256]
def ownS (k v : ByteArray) : ByteArray := hB (⟨#[86]⟩ ++ lenB k ++ k ++ v)
theorem ownS_size (k v : ByteArray) : (ownS k v).size = 32 := hB_size _
def pathS (k : ByteArray) : ByteArray := hB (⟨#[75]⟩ ++ k)
theorem pathS_size (k : ByteArray) : (pathS k).size = 32 := hB_size _

/-- the tree's cells -/
def treC (f : Nat → ByteArray) : Array Value := tabV ++ ((List.range 257).map fun d => Value.string (f d)).toArray
theorem treC_size (f : Nat → ByteArray) : (treC f).size = 329 := by
  unfold treC
  rw [Array.size_append, tabV_size]
  simp
theorem treC_at (f : Nat → ByteArray) {d : Nat} (h : d < 257) : (treC f)[72 + d]? = some (.string (f d)) := by
  unfold treC
  rw [Array.getElem?_append_right (by rw [tabV_size]; omega), tabV_size, show 72 + d - 72 = d by omega]
  simp [h]
theorem treC_tab (f : Nat → ByteArray) {w : World} {g : Nat} {t : TypeId} (h : Blk w g t (treC f)) : w.rangeAt g 0 tabV.toList := by
  intro j v hv
  rw [Nat.zero_add, h.cell]
  have hj : j < tabV.size := by
    have := (List.getElem?_eq_some_iff.1 hv).1
    simpa using this
  unfold treC
  rw [Array.getElem?_append_left hj, ← hv]
  simp
theorem treC_set (f f' : Nat → ByteArray) {d : Nat} (h : d < 257) (x : ByteArray) (hx : f' d = x) (ho : ∀ i, i < 257 → i ≠ d → f' i = f i) : (treC f).setIfInBounds (72 + d) (.string x) = treC f' := by
  apply Array.ext
  · rw [Array.size_setIfInBounds, treC_size, treC_size]
  · intro i h1 h2
    rw [treC_size] at h2
    rw [Array.getElem_setIfInBounds]
    split
    · next he =>
      subst he
      have := treC_at f' h
      rw [Array.getElem?_eq_getElem (by rw [treC_size]; omega), hx] at this
      exact (Option.some.inj this).symm
    · next he =>
      by_cases hi : i < 72
      · simp only [treC]
        rw [Array.getElem_append_left (by rw [tabV_size]; exact hi), Array.getElem_append_left (by rw [tabV_size]; exact hi)]
      · have e1 := treC_at f (d := i - 72) (by omega)
        have e2 := treC_at f' (d := i - 72) (by omega)
        rw [show 72 + (i - 72) = i by omega, Array.getElem?_eq_getElem (by rw [treC_size]; omega)] at e1 e2
        rw [Option.some.inj e1, Option.some.inj e2, ho (i - 72) (by omega) (by omega)]
    · rw [treC_size]; exact h2
/-- block g is the tree -/
def Tre (w : World) (g : Nat) : Prop := Blk w g 131 (treC emp)
theorem tre_tab {w : World} {g : Nat} {t : TypeId} {f : Nat → ByteArray} (h : Blk w g t (treC f)) : (loadVar 47 ⟨g, 0, none⟩).run Tryz.prog w = .ok (.agg tabV) w := by
  have := run_loadVar_mid (P := Tryz.prog) w g 0 47 tabV.toList _ (treC_tab f h) Tryz.underlying47 rfl (by rw [Array.length_toList, tabV_size]; exact infoTable)
  rwa [Array.toArray_toList] at this
theorem tre_cell {w : World} {g : Nat} {t : TypeId} {f : Nat → ByteArray} (h : Blk w g t (treC f)) {d : Nat} (hd : d < 257) : w.cell? ⟨g, 72 + d, none⟩ = some (.string (f d)) := (h.cell _).trans (treC_at f hd)

section
attribute [-go_sem] loadVar
set_option maxRecDepth 100000 in
set_option maxHeartbeats 1000000 in
theorem tjoin_any (g : Nat) (l r : ByteArray) (hl : l.size ≤ 1073741824) (hr : r.size ≤ 1073741824) (w : World) (hT : (loadVar 47 ⟨g, 0, none⟩).run Tryz.prog w = .ok (.agg tabV) w) :
    Calls Tryz.prog 73 #[.pointer (some ⟨g, 0, none⟩), .string l, .string r] w fun e w' => e = .returned (.string (nodS l r)) ∧ Below w.heap.size w w' := by
  have z0 : (⟨#[78]⟩ : ByteArray).size = 1 := rfl
  have a1 : ¬ (⟨#[78]⟩ : ByteArray).size + l.size > 9223372036854775807 := by omega
  have a2 : ¬ ((⟨#[78]⟩ : ByteArray) ++ l).size + r.size > 9223372036854775807 := by simp only [ByteArray.size_append]; omega
  have HS := Lib.hid (fun W => hsum_any (⟨#[78]⟩ ++ l ++ r) (by simp only [ByteArray.size_append]; omega) W)
  change Hid (∀ W, Calls Tryz.prog 49 _ W fun e w' => e = .returned (.string (nodS l r)) ∧ Below W.heap.size W w') at HS
  generalize nodS l r = R at *
  clear z0
  go_enter Tryz.func73, Tryz.ntmps73
  go_wp2_with fail
  refine (HS.out _).mono ?_
  rintro e w' ⟨rfl, hB⟩
  go_wp2
  go_ret
  exact ⟨rfl, hB⟩
set_option maxRecDepth 100000 in
set_option maxHeartbeats 1000000 in
theorem pathOf_any (k : ByteArray) (hk : k.size ≤ 1073741824) (w : World) :
    Calls Tryz.prog 77 #[.agg tabV, .string k] w fun e w' => e = .returned (.string (pathS k)) ∧ Below w.heap.size w w' := by
  have z0 : (⟨#[75]⟩ : ByteArray).size = 1 := rfl
  have a1 : ¬ (⟨#[75]⟩ : ByteArray).size + k.size > 9223372036854775807 := by omega
  have HS := Lib.hid (fun W => hsum_any (⟨#[75]⟩ ++ k) (by simp only [ByteArray.size_append]; omega) W)
  change Hid (∀ W, Calls Tryz.prog 49 _ W fun e w' => e = .returned (.string (pathS k)) ∧ Below W.heap.size W w') at HS
  generalize pathS k = R at *
  have hB0 := (Below.refl _ w).alloc (Nat.le_refl _) (.cells tabV 47)
  have hT := tab_run (Blk.new w 47 tabV)
  clear z0
  go_enter Tryz.func77, Tryz.ntmps77
  go_wp2_with fail
  refine (HS.out _).mono ?_
  rintro e w' ⟨rfl, hB⟩
  have hB2 := hB0.trans (hB.mono hB0.size)
  go_wp2
  go_ret
  exact ⟨rfl, hB2⟩
end
end Go.Proofs.YtjmjkcgldencoaaGreat

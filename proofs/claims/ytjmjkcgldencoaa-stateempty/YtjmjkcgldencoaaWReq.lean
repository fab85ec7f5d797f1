/-
  Requests: whether one is right.
-/
import Derived.Test.YtjmjkcgldencoaaTxt
import Derived.Deep.RegionHeld3
namespace Go.Proofs.Ytjmjkcgldencoaa
open Go.RowKit

/-- whether a request is right -/
def rightB (c q : Int) (l k v : ByteArray) : Bool := decide (0 ≤ c ∧ c ≤ 3 ∧ 1 ≤ q ∧ q ≤ 2147483647 ∧ 1 ≤ l.size ∧ l.size ≤ 200 ∧ k.size ≤ 50 ∧ v.size ≤ 100 ∧ (k.size ≠ 0 ∨ v.size = 0))
/-- a request's value -/
def reqV (c q : Int) (l k v : ByteArray) : Array Value := #[.int .i64 c, .int .i64 q, .string l, .string k, .string v]
theorem cells5 {w : World} {g : Nat} {t : TypeId} {a b c d e : Value} (h : Blk w g t #[a, b, c, d, e]) :
    w.cell? ⟨g, 0, none⟩ = some a ∧ w.cell? ⟨g, 1, none⟩ = some b ∧ w.cell? ⟨g, 2, none⟩ = some c ∧ w.cell? ⟨g, 3, none⟩ = some d ∧ w.cell? ⟨g, 4, none⟩ = some e :=
  ⟨h.cell 0, h.cell 1, h.cell 2, h.cell 3, h.cell 4⟩

set_option maxRecDepth 100000 in
set_option maxHeartbeats 1000000 in
theorem right_any (c q : Int) (l k v : ByteArray) (hl : l.size ≤ 9223372036854775807) (hk : k.size ≤ 9223372036854775807) (hv : v.size ≤ 9223372036854775807) (w : World) :
    Calls Try.prog 22 #[.agg (reqV c q l k v)] w fun e w' => e = .returned (.bool (rightB c q l k v)) ∧ Below w.heap.size w w' := by
  unfold reqV
  obtain ⟨R, hR⟩ : ∃ R, rightB c q l k v = R := ⟨_, rfl⟩
  have HR := Lib.hid hR
  rw [hR]
  clear hR
  have HB := Lib.hid ((Below.refl _ w).alloc (Nat.le_refl _) (.cells #[.int .i64 c, .int .i64 q, .string l, .string k, .string v] 55))
  go_enter Try.func22, Try.ntmps22
  go_wp2
  all_goals
    go_ret
    refine ⟨boolEq ?_, HB.out⟩
    rw [← HR.out]
    clear HB HR
    simp only [toList_nil, toList_nil', rightB] at *
    first
      | (rw [decide_eq_decide]; omega)
      | (symm; rw [decide_eq_true_iff]; omega)
      | (symm; rw [decide_eq_false_iff_not]; omega)
end Go.Proofs.Ytjmjkcgldencoaa

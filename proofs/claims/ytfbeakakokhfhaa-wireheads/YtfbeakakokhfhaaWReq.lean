/-
  Requests: whether one is right, and its bytes: the program's and the reference's.
-/
import Derived.Test.YtfbeakakokhfhaaWNum
import Derived.Deep.RegionHeld3
namespace Go.Proofs.Ytfbeakakokhfhaa
open Go.RowKit

/-- whether a request is right -/
def rightB (c q : Int) (l k v : ByteArray) : Bool := decide (0 ≤ c ∧ c ≤ 3 ∧ 1 ≤ q ∧ q ≤ 2147483647 ∧ 1 ≤ l.size ∧ l.size ≤ 200 ∧ k.size ≤ 50 ∧ v.size ≤ 100 ∧ (k.size ≠ 0 ∨ v.size = 0))
/-- a request's value -/
def reqV (c q : Int) (l k v : ByteArray) : Array Value := #[.int .i64 c, .int .i64 q, .string l, .string k, .string v]
theorem boolEq {a b : Bool} (h : a = b) : Ending.returned (.bool a) = .returned (.bool b) := by rw [h]
theorem toList_nil (s : ByteArray) : (s.toList = []) = (s.size = 0) := by
  rw [ByteArray.toList_eq, Array.toList_eq_nil_iff, ← Array.size_eq_zero_iff]
  rfl
theorem toList_nil' (s : ByteArray) : s.toList.isEmpty = decide (s.size = 0) := by
  rw [Bool.eq_iff_iff, List.isEmpty_iff, toList_nil, decide_eq_true_iff]
theorem toList_nil'' (s : ByteArray) : (s.toList == []) = decide (s.size = 0) := by
  rw [Bool.eq_iff_iff, beq_iff_eq, toList_nil, decide_eq_true_iff]

theorem addRun {a b : ByteArray} (h : a.size + b.size ≤ 9223372036854775807) : ∀ W : World, (Op.stringOp .add a b).run Try.prog W = .ok (.string (a ++ b)) W := by
  intro W
  exact run_string_add_sum W a b (by omega)
/-- a request's bytes -/
def reqB (c q : Int) (l k v : ByteArray) : ByteArray := ⟨#[82]⟩ ++ num4 c ++ num4 q ++ txt l ++ txt k ++ txt v
theorem reqB_size (c q : Int) (l k v : ByteArray) : (reqB c q l k v).size = 21 + l.size + k.size + v.size := by
  unfold reqB
  simp only [ByteArray.size_append, num4_size, txt_size]
  show 1 + 4 + 4 + (4 + l.size) + (4 + k.size) + (4 + v.size) = _
  omega
theorem cells5 {w : World} {g : Nat} {t : TypeId} {a b c d e : Value} (h : Blk w g t #[a, b, c, d, e]) :
    w.cell? ⟨g, 0, none⟩ = some a ∧ w.cell? ⟨g, 1, none⟩ = some b ∧ w.cell? ⟨g, 2, none⟩ = some c ∧ w.cell? ⟨g, 3, none⟩ = some d ∧ w.cell? ⟨g, 4, none⟩ = some e :=
  ⟨h.cell 0, h.cell 1, h.cell 2, h.cell 3, h.cell 4⟩

set_option maxRecDepth 100000 in
set_option maxHeartbeats 1000000 in
theorem right_any (c q : Int) (l k v : ByteArray) (hl : l.size ≤ 9223372036854775807) (hk : k.size ≤ 9223372036854775807) (hv : v.size ≤ 9223372036854775807) (w : World) :
    Calls Try.prog 14 #[.agg (reqV c q l k v)] w fun e w' => e = .returned (.bool (rightB c q l k v)) ∧ Below w.heap.size w w' := by
  unfold reqV
  obtain ⟨R, hR⟩ : ∃ R, rightB c q l k v = R := ⟨_, rfl⟩
  have HR := Lib.hid hR
  rw [hR]
  clear hR
  have HB := Lib.hid ((Below.refl _ w).alloc (Nat.le_refl _) (.cells #[.int .i64 c, .int .i64 q, .string l, .string k, .string v] 23))
  go_enter Try.func14, Try.ntmps14
  go_wp2
  all_goals
    go_ret
    refine ⟨boolEq ?_, HB.out⟩
    rw [← HR.out]
    clear HB HR
    simp only [toList_nil, toList_nil', toList_nil'', rightB, Bool.not_eq_eq_eq_not, decide_eq_true_eq] at *
    first
      | (rw [decide_eq_decide]; omega)
      | (symm; rw [decide_eq_true_iff]; omega)
      | (symm; rw [decide_eq_false_iff_not]; omega)
set_option maxRecDepth 100000 in
set_option maxHeartbeats 2000000 in
theorem request_any (c q : Int) (l k v : ByteArray) (hl : l.size ≤ 1099511627776) (hk : k.size ≤ 1099511627776) (hv : v.size ≤ 1099511627776) (w : World) :
    Calls Try.prog 11 #[.agg (reqV c q l k v)] w fun e w' => e = .returned (.string (reqB c q l k v)) ∧ Below w.heap.size w w' := by
  unfold reqV reqB
  have HC := Lib.hid (fun W => number_any c W)
  have HQ := Lib.hid (fun W => number_any q W)
  have HL := Lib.hid (fun W => text_any l (by omega) W)
  have HK := Lib.hid (fun W => text_any k (by omega) W)
  have HV := Lib.hid (fun W => text_any v (by omega) W)
  have z1 := num4_size c; have z2 := num4_size q; have z3 := txt_size l; have z4 := txt_size k; have z5 := txt_size v
  generalize num4 c = N1 at *; generalize num4 q = N2 at *; generalize txt l = N3 at *; generalize txt k = N4 at *; generalize txt v = N5 at *
  have z0 : (⟨#[82]⟩ : ByteArray).size = 1 := rfl
  have r1 := addRun (a := ⟨#[82]⟩) (b := N1) (by omega)
  have r2 := addRun (a := ⟨#[82]⟩ ++ N1) (b := N2) (by simp only [ByteArray.size_append]; omega)
  have r3 := addRun (a := ⟨#[82]⟩ ++ N1 ++ N2) (b := N3) (by simp only [ByteArray.size_append]; omega)
  have r4 := addRun (a := ⟨#[82]⟩ ++ N1 ++ N2 ++ N3) (b := N4) (by simp only [ByteArray.size_append]; omega)
  have r5 := addRun (a := ⟨#[82]⟩ ++ N1 ++ N2 ++ N3 ++ N4) (b := N5) (by simp only [ByteArray.size_append]; omega)
  clear z0 z1 z2 z3 z4 z5
  have HB := Lib.hid ((Below.refl _ w).alloc (Nat.le_refl _) (.cells #[.int .i64 c, .int .i64 q, .string l, .string k, .string v] 23))
  have HK5 : Hid (∀ W, Below (w.alloc (.cells #[.int .i64 c, .int .i64 q, .string l, .string k, .string v] 23)).heap.size (w.alloc (.cells #[.int .i64 c, .int .i64 q, .string l, .string k, .string v] 23)) W → (W.cell? ⟨w.heap.size, 0, none⟩ = some (.int .i64 c) ∧ W.cell? ⟨w.heap.size, 1, none⟩ = some (.int .i64 q) ∧ W.cell? ⟨w.heap.size, 2, none⟩ = some (.string l) ∧ W.cell? ⟨w.heap.size, 3, none⟩ = some (.string k) ∧ W.cell? ⟨w.heap.size, 4, none⟩ = some (.string v)) ∧ Below (w.alloc (.cells #[.int .i64 c, .int .i64 q, .string l, .string k, .string v] 23)).heap.size (w.alloc (.cells #[.int .i64 c, .int .i64 q, .string l, .string k, .string v] 23)) W) :=
    Lib.hid fun W hW => ⟨cells5 ((Blk.new w 23 _).below hW (by simp)), hW⟩
  go_enter Try.func11, Try.ntmps11
  go_wp2
  have hg : w.heap.size < (w.alloc (.cells #[.int .i64 c, .int .i64 q, .string l, .string k, .string v] 23)).heap.size := by simp
  generalize w.alloc (.cells #[.int .i64 c, .int .i64 q, .string l, .string k, .string v] 23) = w0 at *
  have hB0 := HB.out
  generalize hgg : w.heap.size = g at *
  have HG := Lib.hid hgg
  clear hgg hg
  go_region_held3 (fun w' => (w'.cell? ⟨g, 0, none⟩ = some (.int .i64 c) ∧ w'.cell? ⟨g, 1, none⟩ = some (.int .i64 q) ∧ w'.cell? ⟨g, 2, none⟩ = some (.string l) ∧ w'.cell? ⟨g, 3, none⟩ = some (.string k) ∧ w'.cell? ⟨g, 4, none⟩ = some (.string v)) ∧ Below w0.heap.size w0 w')
    ((refine HK5.out _ ?_; first | exact hB5' | exact hB4' | exact hB3' | exact hB2' | exact hB1' | exact (Below.refl _ _).drew | exact Below.refl _ _))
    (first
      | (have := hB4'; go_at_call 24; refine (HV.out _).mono ?_; rintro e w5 ⟨rfl, hb5⟩; have hB5' : Below w0.heap.size w0 w5 := hB4'.trans (hb5.mono hB4'.size))
      | (have := hB3'; go_at_call 24; refine (HK.out _).mono ?_; rintro e w4 ⟨rfl, hb4⟩; have hB4' : Below w0.heap.size w0 w4 := hB3'.trans (hb4.mono hB3'.size))
      | (have := hB2'; go_at_call 24; refine (HL.out _).mono ?_; rintro e w3 ⟨rfl, hb3⟩; have hB3' : Below w0.heap.size w0 w3 := hB2'.trans (hb3.mono hB2'.size))
      | (have := hB1'; go_at_call 12; refine (HQ.out _).mono ?_; rintro e w2 ⟨rfl, hb2⟩; have hB2' : Below w0.heap.size w0 w2 := hB1'.trans (hb2.mono hB1'.size))
      | (go_at_call 12; refine (HC.out _).mono ?_; rintro e w1 ⟨rfl, hb1⟩; have hB1' : Below w0.heap.size w0 w1 := (Below.refl _ _).drew.trans hb1))
  rw [← HG.out] at hB0
  have hB6 := hB0.trans (hB5'.mono hB0.size)
  go_wp2
  go_ret
  exact ⟨rfl, hB6⟩
set_option maxRecDepth 100000 in
set_option maxHeartbeats 1000000 in
theorem rright_any (c q : Int) (l k v : ByteArray) (hl : l.size ≤ 9223372036854775807) (hk : k.size ≤ 9223372036854775807) (hv : v.size ≤ 9223372036854775807) (w : World) :
    Calls Try.prog 10 #[.agg (reqV c q l k v)] w fun e w' => e = .returned (.bool (rightB c q l k v)) ∧ Below w.heap.size w w' := by
  unfold reqV
  obtain ⟨R, hR⟩ : ∃ R, rightB c q l k v = R := ⟨_, rfl⟩
  have HR := Lib.hid hR
  rw [hR]
  clear hR
  have HB := Lib.hid ((Below.refl _ w).alloc (Nat.le_refl _) (.cells #[.int .i64 c, .int .i64 q, .string l, .string k, .string v] 23))
  go_enter Try.func10, Try.ntmps10
  go_wp2
  all_goals
    go_ret
    refine ⟨boolEq ?_, HB.out⟩
    rw [← HR.out]
    clear HB HR
    simp only [toList_nil, toList_nil', toList_nil'', rightB, Bool.not_eq_eq_eq_not, decide_eq_true_eq] at *
    first
      | (rw [decide_eq_decide]; omega)
      | (symm; rw [decide_eq_true_iff]; omega)
      | (symm; rw [decide_eq_false_iff_not]; omega)
set_option maxRecDepth 100000 in
set_option maxHeartbeats 2000000 in
theorem rrequest_any (c q : Int) (l k v : ByteArray) (hl : l.size ≤ 1099511627776) (hk : k.size ≤ 1099511627776) (hv : v.size ≤ 1099511627776) (w : World) :
    Calls Try.prog 15 #[.agg (reqV c q l k v)] w fun e w' => e = .returned (.string (reqB c q l k v)) ∧ Below w.heap.size w w' := by
  unfold reqV reqB
  have HC := Lib.hid (fun W => rnumber_any c W)
  have HQ := Lib.hid (fun W => rnumber_any q W)
  have HL := Lib.hid (fun W => rtext_any l (by omega) W)
  have HK := Lib.hid (fun W => rtext_any k (by omega) W)
  have HV := Lib.hid (fun W => rtext_any v (by omega) W)
  have z1 := num4_size c; have z2 := num4_size q; have z3 := txt_size l; have z4 := txt_size k; have z5 := txt_size v
  generalize num4 c = N1 at *; generalize num4 q = N2 at *; generalize txt l = N3 at *; generalize txt k = N4 at *; generalize txt v = N5 at *
  have z0 : (⟨#[82]⟩ : ByteArray).size = 1 := rfl
  have r1 := addRun (a := ⟨#[82]⟩) (b := N1) (by omega)
  have r2 := addRun (a := ⟨#[82]⟩ ++ N1) (b := N2) (by simp only [ByteArray.size_append]; omega)
  have r3 := addRun (a := ⟨#[82]⟩ ++ N1 ++ N2) (b := N3) (by simp only [ByteArray.size_append]; omega)
  have r4 := addRun (a := ⟨#[82]⟩ ++ N1 ++ N2 ++ N3) (b := N4) (by simp only [ByteArray.size_append]; omega)
  have r5 := addRun (a := ⟨#[82]⟩ ++ N1 ++ N2 ++ N3 ++ N4) (b := N5) (by simp only [ByteArray.size_append]; omega)
  clear z0 z1 z2 z3 z4 z5
  have HB := Lib.hid ((Below.refl _ w).alloc (Nat.le_refl _) (.cells #[.int .i64 c, .int .i64 q, .string l, .string k, .string v] 23))
  have HK5 : Hid (∀ W, Below (w.alloc (.cells #[.int .i64 c, .int .i64 q, .string l, .string k, .string v] 23)).heap.size (w.alloc (.cells #[.int .i64 c, .int .i64 q, .string l, .string k, .string v] 23)) W → (W.cell? ⟨w.heap.size, 0, none⟩ = some (.int .i64 c) ∧ W.cell? ⟨w.heap.size, 1, none⟩ = some (.int .i64 q) ∧ W.cell? ⟨w.heap.size, 2, none⟩ = some (.string l) ∧ W.cell? ⟨w.heap.size, 3, none⟩ = some (.string k) ∧ W.cell? ⟨w.heap.size, 4, none⟩ = some (.string v)) ∧ Below (w.alloc (.cells #[.int .i64 c, .int .i64 q, .string l, .string k, .string v] 23)).heap.size (w.alloc (.cells #[.int .i64 c, .int .i64 q, .string l, .string k, .string v] 23)) W) :=
    Lib.hid fun W hW => ⟨cells5 ((Blk.new w 23 _).below hW (by simp)), hW⟩
  go_enter Try.func15, Try.ntmps15
  go_wp2
  have hg : w.heap.size < (w.alloc (.cells #[.int .i64 c, .int .i64 q, .string l, .string k, .string v] 23)).heap.size := by simp
  generalize w.alloc (.cells #[.int .i64 c, .int .i64 q, .string l, .string k, .string v] 23) = w0 at *
  have hB0 := HB.out
  generalize hgg : w.heap.size = g at *
  have HG := Lib.hid hgg
  clear hgg hg
  go_region_held3 (fun w' => (w'.cell? ⟨g, 0, none⟩ = some (.int .i64 c) ∧ w'.cell? ⟨g, 1, none⟩ = some (.int .i64 q) ∧ w'.cell? ⟨g, 2, none⟩ = some (.string l) ∧ w'.cell? ⟨g, 3, none⟩ = some (.string k) ∧ w'.cell? ⟨g, 4, none⟩ = some (.string v)) ∧ Below w0.heap.size w0 w')
    ((refine HK5.out _ ?_; first | exact hB5' | exact hB4' | exact hB3' | exact hB2' | exact hB1' | exact (Below.refl _ _).drew | exact Below.refl _ _))
    (first
      | (have := hB4'; go_at_call 29; refine (HV.out _).mono ?_; rintro e w5 ⟨rfl, hb5⟩; have hB5' : Below w0.heap.size w0 w5 := hB4'.trans (hb5.mono hB4'.size))
      | (have := hB3'; go_at_call 29; refine (HK.out _).mono ?_; rintro e w4 ⟨rfl, hb4⟩; have hB4' : Below w0.heap.size w0 w4 := hB3'.trans (hb4.mono hB3'.size))
      | (have := hB2'; go_at_call 29; refine (HL.out _).mono ?_; rintro e w3 ⟨rfl, hb3⟩; have hB3' : Below w0.heap.size w0 w3 := hB2'.trans (hb3.mono hB2'.size))
      | (have := hB1'; go_at_call 28; refine (HQ.out _).mono ?_; rintro e w2 ⟨rfl, hb2⟩; have hB2' : Below w0.heap.size w0 w2 := hB1'.trans (hb2.mono hB1'.size))
      | (go_at_call 28; refine (HC.out _).mono ?_; rintro e w1 ⟨rfl, hb1⟩; have hB1' : Below w0.heap.size w0 w1 := (Below.refl _ _).drew.trans hb1))
  rw [← HG.out] at hB0
  have hB6 := hB0.trans (hB5'.mono hB0.size)
  go_wp2
  go_ret
  exact ⟨rfl, hB6⟩
end Go.Proofs.Ytfbeakakokhfhaa

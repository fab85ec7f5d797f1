/-
  Numbers and texts as bytes: the program's and the reference's. Requests: whether one is right, and its bytes: the program's and the reference's. Requests, replies, heads, and slices of them.
-/
import Derived.Test.YtakgolbgeeoioaaGreatTxtGRow
import Derived.Deep.RegionHeld3
namespace Go.Proofs.YtakgolbgeeoioaaGreat
open Go.RowKit

/-- a number that has bytes of its own, else 0 -/
def clip (n : Int) : Nat := if 0 ≤ n ∧ n ≤ 2147483647 then n.toNat else 0
theorem clip_in {n : Int} (h0 : 0 ≤ n) (h1 : n ≤ 2147483647) : clip n = n.toNat := if_pos ⟨h0, h1⟩
theorem clip_out {n : Int} (h : n < 0 ∨ 2147483647 < n) : clip n = 0 := if_neg (by omega)
theorem clip_le (n : Int) : clip n ≤ 2147483647 := by unfold clip; split <;> omega
/-- a number's bytes -/
def num4 (n : Int) : ByteArray := strN (by4 (clip n))
theorem num4_size (n : Int) : (num4 n).size = 4 := by unfold num4; rw [strN_size]; rfl
/-- a text's bytes -/
def txt (s : ByteArray) : ByteArray := num4 s.size ++ s
theorem txt_size (s : ByteArray) : (txt s).size = 4 + s.size := by unfold txt; rw [ByteArray.size_append, num4_size]

theorem conv4 (w : World) (a b c d : Int) (l : List Nat) (hl : [a, b, c, d] = l.map (fun n : Nat => (n : Int))) (h4 : l.length = 4) :
 (convert 119 9 (.slice (some ⟨w.heap.size, 0, none⟩) 4 4)).run Tryz.prog (w.alloc (.cells #[.int .u8 a, .int .u8 b, .int .u8 c, .int .u8 d] 5)) =
  .ok (.string (strN l)) (w.alloc (.cells #[.int .u8 a, .int .u8 b, .int .u8 c, .int .u8 d] 5)) := by
 match l, h4 with
 | [x, y, z, u], _ =>
  simp only [List.map_cons, List.map_nil, List.cons.injEq, and_true] at hl
  obtain ⟨rfl, rfl, rfl, rfl⟩ := hl
  refine conv_cells _ 119 5 9 Tryz.underlying119 Tryz.underlying5 Tryz.underlying9 w.heap.size 4 [x, y, z, u] (fun i hi => ?_)
  rw [(Blk.new w 5 _).cell]
  have h4 : i < 4 := hi
  rcases i with _ | _ | _ | _ | i
  · rfl
  · rfl
  · rfl
  · rfl
  · omega

set_option maxRecDepth 100000 in
set_option maxHeartbeats 400000 in
theorem number_in (n : Nat) (hn : n ≤ 2147483647) (w : World) :
 Calls Tryz.prog 63 #[.int .i64 n] w fun e w' => e = .returned (.string (strN (by4 n))) ∧ Below w.heap.size w w' := by
 have hc := conv4 w ((n : Int) / 16777216) ((n : Int) / 65536 % 256) ((n : Int) / 256 % 256) ((n : Int) % 256) (by4 n) (by simp [by4]; omega) rfl
 obtain ⟨S, hS⟩ : ∃ S, strN (by4 n) = S := ⟨_, rfl⟩
 rw [hS] at hc ⊢
 clear hS
 go_enter Tryz.func63, Tryz.ntmps63
 go_wp2
 go_ret
 exact ⟨rfl, (Below.refl _ _).alloc (Nat.le_refl _) _⟩
set_option maxRecDepth 100000 in
set_option maxHeartbeats 400000 in
theorem number_lo (n : Int) (hn : n < 0) (w : World) :
 Calls Tryz.prog 63 #[.int .i64 n] w fun e w' => e = .returned (.string (strN (by4 0))) ∧ Below w.heap.size w w' := by
 have hc := conv4 w 0 0 0 0 (by4 0) rfl rfl
 obtain ⟨S, hS⟩ : ∃ S, strN (by4 0) = S := ⟨_, rfl⟩
 rw [hS] at hc ⊢
 clear hS
 go_enter Tryz.func63, Tryz.ntmps63
 go_wp2
 go_ret
 exact ⟨rfl, (Below.refl _ _).alloc (Nat.le_refl _) _⟩
set_option maxRecDepth 100000 in
set_option maxHeartbeats 400000 in
theorem number_hi (n : Int) (hn : 2147483647 < n) (w : World) :
 Calls Tryz.prog 63 #[.int .i64 n] w fun e w' => e = .returned (.string (strN (by4 0))) ∧ Below w.heap.size w w' := by
 have hc := conv4 w 0 0 0 0 (by4 0) rfl rfl
 have hn0 : ¬ n < 0 := by omega
 obtain ⟨S, hS⟩ : ∃ S, strN (by4 0) = S := ⟨_, rfl⟩
 rw [hS] at hc ⊢
 clear hS
 go_enter Tryz.func63, Tryz.ntmps63
 go_wp2
 go_ret
 exact ⟨rfl, (Below.refl _ _).alloc (Nat.le_refl _) _⟩
theorem number_any (n : Int) (w : World) :
 Calls Tryz.prog 63 #[.int .i64 n] w fun e w' => e = .returned (.string (num4 n)) ∧ Below w.heap.size w w' := by
 unfold num4
 by_cases h0 : n < 0
 · rw [clip_out (.inl h0)]
   exact number_lo n h0 w
 · by_cases h1 : 2147483647 < n
   · rw [clip_out (.inr h1)]
     exact number_hi n h1 w
   · rw [clip_in (by omega) (by omega)]
     obtain ⟨k, rfl⟩ : ∃ k : Nat, n = k := ⟨n.toNat, by omega⟩
     exact number_in k (by omega) w
set_option maxRecDepth 100000 in
set_option maxHeartbeats 400000 in
theorem text_any (s : ByteArray) (hs : s.size ≤ 4611686018427387904) (w : World) :
 Calls Tryz.prog 87 #[.string s] w fun e w' => e = .returned (.string (txt s)) ∧ Below w.heap.size w w' := by
 unfold txt
 have hz := num4_size s.size
 have HN := Lib.hid (fun W => number_any s.size W)
 generalize num4 (s.size : Int) = N at *
 have hadd : ¬ N.size + s.size > 9223372036854775807 := by omega
 clear hz
 go_enter Tryz.func87, Tryz.ntmps87
 go_wp2_with fail
 refine (HN.out _).mono ?_
 rintro e w' ⟨rfl, hB⟩
 go_wp2
 go_ret
 exact ⟨rfl, hB⟩
set_option maxRecDepth 100000 in
set_option maxHeartbeats 400000 in
theorem rnumber_in (n : Nat) (hn : n ≤ 2147483647) (w : World) :
 Calls Tryz.prog 66 #[.int .i64 n] w fun e w' => e = .returned (.string (strN (by4 n))) ∧ Below w.heap.size w w' := by
 have hc := conv4 w ((n : Int) / 16777216) ((n : Int) / 65536 % 256) ((n : Int) / 256 % 256) ((n : Int) % 256) (by4 n) (by simp [by4]; omega) rfl
 obtain ⟨S, hS⟩ : ∃ S, strN (by4 n) = S := ⟨_, rfl⟩
 rw [hS] at hc ⊢
 clear hS
 go_enter Tryz.func66, Tryz.ntmps66
 go_wp2
 go_ret
 exact ⟨rfl, (Below.refl _ _).alloc (Nat.le_refl _) _⟩
set_option maxRecDepth 100000 in
set_option maxHeartbeats 400000 in
theorem rnumber_lo (n : Int) (hn : n < 0) (w : World) :
 Calls Tryz.prog 66 #[.int .i64 n] w fun e w' => e = .returned (.string (strN (by4 0))) ∧ Below w.heap.size w w' := by
 have hc := conv4 w 0 0 0 0 (by4 0) rfl rfl
 obtain ⟨S, hS⟩ : ∃ S, strN (by4 0) = S := ⟨_, rfl⟩
 rw [hS] at hc ⊢
 clear hS
 go_enter Tryz.func66, Tryz.ntmps66
 go_wp2
 go_ret
 exact ⟨rfl, (Below.refl _ _).alloc (Nat.le_refl _) _⟩
set_option maxRecDepth 100000 in
set_option maxHeartbeats 400000 in
theorem rnumber_hi (n : Int) (hn : 2147483647 < n) (w : World) :
 Calls Tryz.prog 66 #[.int .i64 n] w fun e w' => e = .returned (.string (strN (by4 0))) ∧ Below w.heap.size w w' := by
 have hc := conv4 w 0 0 0 0 (by4 0) rfl rfl
 have hn0 : ¬ n < 0 := by omega
 obtain ⟨S, hS⟩ : ∃ S, strN (by4 0) = S := ⟨_, rfl⟩
 rw [hS] at hc ⊢
 clear hS
 go_enter Tryz.func66, Tryz.ntmps66
 go_wp2
 go_ret
 exact ⟨rfl, (Below.refl _ _).alloc (Nat.le_refl _) _⟩
theorem rnumber_any (n : Int) (w : World) :
 Calls Tryz.prog 66 #[.int .i64 n] w fun e w' => e = .returned (.string (num4 n)) ∧ Below w.heap.size w w' := by
 unfold num4
 by_cases h0 : n < 0
 · rw [clip_out (.inl h0)]
   exact rnumber_lo n h0 w
 · by_cases h1 : 2147483647 < n
   · rw [clip_out (.inr h1)]
     exact rnumber_hi n h1 w
   · rw [clip_in (by omega) (by omega)]
     obtain ⟨k, rfl⟩ : ∃ k : Nat, n = k := ⟨n.toNat, by omega⟩
     exact rnumber_in k (by omega) w
set_option maxRecDepth 100000 in
set_option maxHeartbeats 400000 in
theorem rtext_any (s : ByteArray) (hs : s.size ≤ 4611686018427387904) (w : World) :
 Calls Tryz.prog 67 #[.string s] w fun e w' => e = .returned (.string (txt s)) ∧ Below w.heap.size w w' := by
 unfold txt
 have hz := num4_size s.size
 have HN := Lib.hid (fun W => rnumber_any s.size W)
 generalize num4 (s.size : Int) = N at *
 have hadd : ¬ N.size + s.size > 9223372036854775807 := by omega
 clear hz
 go_enter Tryz.func67, Tryz.ntmps67
 go_wp2_with fail
 refine (HN.out _).mono ?_
 rintro e w' ⟨rfl, hB⟩
 go_wp2
 go_ret
 exact ⟨rfl, hB⟩
end Go.Proofs.YtakgolbgeeoioaaGreat
namespace Go.Proofs.YtakgolbgeeoioaaGreat
open Go.RowKit

/-- whether a request is right -/
def rightB (c q : Int) (l k v : ByteArray) : Bool := decide (0 ≤ c ∧ c ≤ 3 ∧ 1 ≤ q ∧ q ≤ 2147483647 ∧ 1 ≤ l.size ∧ l.size ≤ 200 ∧ k.size ≤ 50 ∧ v.size ≤ 100 ∧ (k.size ≠ 0 ∨ v.size = 0))
/-- a request's value -/
def reqV (c q : Int) (l k v : ByteArray) : Array Value := #[.int .i64 c, .int .i64 q, .string l, .string k, .string v]
/-- a request's bytes -/
def reqB (c q : Int) (l k v : ByteArray) : ByteArray := ⟨#[82]⟩ ++ num4 c ++ num4 q ++ txt l ++ txt k ++ txt v
theorem reqB_size (c q : Int) (l k v : ByteArray) : (reqB c q l k v).size = 21 + l.size + k.size + v.size := by
 unfold reqB
 simp only [ByteArray.size_append, num4_size, txt_size]
 show 1 + 4 + 4 + (4 + l.size) + (4 + k.size) + (4 + v.size) = _
 omega
theorem cells5 {w : World} {g : Nat} {t : TypeId} {a b c d e : Value} (h : Blk w g t #[a, b, c, d, e]) :
 w.cell? ⟨g, 0, none⟩ = some a ∧ w.cell? ⟨g, 1, none⟩ = some b ∧ w.cell? ⟨g, 2, none⟩ = some c ∧ w.cell? ⟨g, 3, none⟩ = some d ∧ w.cell? ⟨g, 4, none⟩ = some e :=
 ⟨h.cell 0, h.cell 1, h.cell 2, h.cell 3, h.cell 4⟩

set_option maxRecDepth 100000 in
set_option maxHeartbeats 1000000 in
theorem right_any (c q : Int) (l k v : ByteArray) (hl : l.size ≤ 9223372036854775807) (hk : k.size ≤ 9223372036854775807) (hv : v.size ≤ 9223372036854775807) (w : World) :
 Calls Tryz.prog 54 #[.agg (reqV c q l k v)] w fun e w' => e = .returned (.bool (rightB c q l k v)) ∧ Below w.heap.size w w' := by
 unfold reqV
 obtain ⟨R, hR⟩ : ∃ R, rightB c q l k v = R := ⟨_, rfl⟩
 have HR := Lib.hid hR
 rw [hR]
 clear hR
 have HB := Lib.hid ((Below.refl _ w).alloc (Nat.le_refl _) (.cells #[.int .i64 c, .int .i64 q, .string l, .string k, .string v] 61))
 go_enter Tryz.func54, Tryz.ntmps54
 go_wp2
 all_goals
  go_ret
  refine ⟨boolEq ?_, HB.out⟩
  rw [← HR.out]
  clear HB HR
  simp only [toList_nil, toList_nil', rightB] at *
  first
   | (rw [decide_eq_decide]; omega)
   | (symm; rw [decide_eq_true_iff]; omega)
   | (symm; rw [decide_eq_false_iff_not]; omega)
set_option maxRecDepth 100000 in
set_option maxHeartbeats 2000000 in
theorem request_any (c q : Int) (l k v : ByteArray) (hl : l.size ≤ 1099511627776) (hk : k.size ≤ 1099511627776) (hv : v.size ≤ 1099511627776) (w : World) :
 Calls Tryz.prog 58 #[.agg (reqV c q l k v)] w fun e w' => e = .returned (.string (reqB c q l k v)) ∧ Below w.heap.size w w' := by
 unfold reqV reqB
 have HC := Lib.hid (fun W => number_any c W)
 have HQ := Lib.hid (fun W => number_any q W)
 have HL := Lib.hid (fun W => text_any l (by omega) W)
 have HK := Lib.hid (fun W => text_any k (by omega) W)
 have HV := Lib.hid (fun W => text_any v (by omega) W)
 have z1 := num4_size c; have z2 := num4_size q; have z3 := txt_size l; have z4 := txt_size k; have z5 := txt_size v
 generalize num4 c = N1 at *; generalize num4 q = N2 at *; generalize txt l = N3 at *; generalize txt k = N4 at *; generalize txt v = N5 at *
 have z0 : (⟨#[82]⟩ : ByteArray).size = 1 := rfl
 have r1 := addRun (a := ⟨#[82]⟩) (b := N1) (by omega)
 have r2 := addRun (a := ⟨#[82]⟩ ++ N1) (b := N2) (by simp only [ByteArray.size_append]; omega)
 have r3 := addRun (a := ⟨#[82]⟩ ++ N1 ++ N2) (b := N3) (by simp only [ByteArray.size_append]; omega)
 have r4 := addRun (a := ⟨#[82]⟩ ++ N1 ++ N2 ++ N3) (b := N4) (by simp only [ByteArray.size_append]; omega)
 have r5 := addRun (a := ⟨#[82]⟩ ++ N1 ++ N2 ++ N3 ++ N4) (b := N5) (by simp only [ByteArray.size_append]; omega)
 clear z0 z1 z2 z3 z4 z5
 have HB := Lib.hid ((Below.refl _ w).alloc (Nat.le_refl _) (.cells #[.int .i64 c, .int .i64 q, .string l, .string k, .string v] 61))
 have HK5 : Hid (∀ W, Below (w.alloc (.cells #[.int .i64 c, .int .i64 q, .string l, .string k, .string v] 61)).heap.size (w.alloc (.cells #[.int .i64 c, .int .i64 q, .string l, .string k, .string v] 61)) W → (W.cell? ⟨w.heap.size, 0, none⟩ = some (.int .i64 c) ∧ W.cell? ⟨w.heap.size, 1, none⟩ = some (.int .i64 q) ∧ W.cell? ⟨w.heap.size, 2, none⟩ = some (.string l) ∧ W.cell? ⟨w.heap.size, 3, none⟩ = some (.string k) ∧ W.cell? ⟨w.heap.size, 4, none⟩ = some (.string v)) ∧ Below (w.alloc (.cells #[.int .i64 c, .int .i64 q, .string l, .string k, .string v] 61)).heap.size (w.alloc (.cells #[.int .i64 c, .int .i64 q, .string l, .string k, .string v] 61)) W) :=
  Lib.hid fun W hW => ⟨cells5 ((Blk.new w 61 _).below hW (by simp)), hW⟩
 go_enter Tryz.func58, Tryz.ntmps58
 go_wp2
 have hg : w.heap.size < (w.alloc (.cells #[.int .i64 c, .int .i64 q, .string l, .string k, .string v] 61)).heap.size := by simp
 generalize w.alloc (.cells #[.int .i64 c, .int .i64 q, .string l, .string k, .string v] 61) = w0 at *
 have hB0 := HB.out
 generalize hgg : w.heap.size = g at *
 have HG := Lib.hid hgg
 clear hgg hg
 go_region_held3 (fun w' => (w'.cell? ⟨g, 0, none⟩ = some (.int .i64 c) ∧ w'.cell? ⟨g, 1, none⟩ = some (.int .i64 q) ∧ w'.cell? ⟨g, 2, none⟩ = some (.string l) ∧ w'.cell? ⟨g, 3, none⟩ = some (.string k) ∧ w'.cell? ⟨g, 4, none⟩ = some (.string v)) ∧ Below w0.heap.size w0 w')
  ((refine HK5.out _ ?_; first | exact hB5' | exact hB4' | exact hB3' | exact hB2' | exact hB1' | exact (Below.refl _ _).drew | exact Below.refl _ _))
  (first
   | (have := hB4'; go_at_call 87; refine (HV.out _).mono ?_; rintro e w5 ⟨rfl, hb5⟩; have hB5' : Below w0.heap.size w0 w5 := hB4'.trans (hb5.mono hB4'.size))
   | (have := hB3'; go_at_call 87; refine (HK.out _).mono ?_; rintro e w4 ⟨rfl, hb4⟩; have hB4' : Below w0.heap.size w0 w4 := hB3'.trans (hb4.mono hB3'.size))
   | (have := hB2'; go_at_call 87; refine (HL.out _).mono ?_; rintro e w3 ⟨rfl, hb3⟩; have hB3' : Below w0.heap.size w0 w3 := hB2'.trans (hb3.mono hB2'.size))
   | (have := hB1'; go_at_call 63; refine (HQ.out _).mono ?_; rintro e w2 ⟨rfl, hb2⟩; have hB2' : Below w0.heap.size w0 w2 := hB1'.trans (hb2.mono hB1'.size))
   | (go_at_call 63; refine (HC.out _).mono ?_; rintro e w1 ⟨rfl, hb1⟩; have hB1' : Below w0.heap.size w0 w1 := (Below.refl _ _).drew.trans hb1))
 rw [← HG.out] at hB0
 have hB6 := hB0.trans (hB5'.mono hB0.size)
 go_wp2
 go_ret
 exact ⟨rfl, hB6⟩
set_option maxRecDepth 100000 in
set_option maxHeartbeats 1000000 in
theorem rright_any (c q : Int) (l k v : ByteArray) (hl : l.size ≤ 9223372036854775807) (hk : k.size ≤ 9223372036854775807) (hv : v.size ≤ 9223372036854775807) (w : World) :
 Calls Tryz.prog 55 #[.agg (reqV c q l k v)] w fun e w' => e = .returned (.bool (rightB c q l k v)) ∧ Below w.heap.size w w' := by
 unfold reqV
 obtain ⟨R, hR⟩ : ∃ R, rightB c q l k v = R := ⟨_, rfl⟩
 have HR := Lib.hid hR
 rw [hR]
 clear hR
 have HB := Lib.hid ((Below.refl _ w).alloc (Nat.le_refl _) (.cells #[.int .i64 c, .int .i64 q, .string l, .string k, .string v] 61))
 go_enter Tryz.func55, Tryz.ntmps55
 go_wp2
 all_goals
  go_ret
  refine ⟨boolEq ?_, HB.out⟩
  rw [← HR.out]
  clear HB HR
  simp only [toList_nil, toList_nil', rightB, decide_eq_true_eq] at *
  first
   | (rw [decide_eq_decide]; omega)
   | (symm; rw [decide_eq_true_iff]; omega)
   | (symm; rw [decide_eq_false_iff_not]; omega)
set_option maxRecDepth 100000 in
set_option maxHeartbeats 2000000 in
theorem rrequest_any (c q : Int) (l k v : ByteArray) (hl : l.size ≤ 1099511627776) (hk : k.size ≤ 1099511627776) (hv : v.size ≤ 1099511627776) (w : World) :
 Calls Tryz.prog 35 #[.agg (reqV c q l k v)] w fun e w' => e = .returned (.string (reqB c q l k v)) ∧ Below w.heap.size w w' := by
 unfold reqV reqB
 have HC := Lib.hid (fun W => rnumber_any c W)
 have HQ := Lib.hid (fun W => rnumber_any q W)
 have HL := Lib.hid (fun W => rtext_any l (by omega) W)
 have HK := Lib.hid (fun W => rtext_any k (by omega) W)
 have HV := Lib.hid (fun W => rtext_any v (by omega) W)
 have z1 := num4_size c; have z2 := num4_size q; have z3 := txt_size l; have z4 := txt_size k; have z5 := txt_size v
 generalize num4 c = N1 at *; generalize num4 q = N2 at *; generalize txt l = N3 at *; generalize txt k = N4 at *; generalize txt v = N5 at *
 have z0 : (⟨#[82]⟩ : ByteArray).size = 1 := rfl
 have r1 := addRun (a := ⟨#[82]⟩) (b := N1) (by omega)
 have r2 := addRun (a := ⟨#[82]⟩ ++ N1) (b := N2) (by simp only [ByteArray.size_append]; omega)
 have r3 := addRun (a := ⟨#[82]⟩ ++ N1 ++ N2) (b := N3) (by simp only [ByteArray.size_append]; omega)
 have r4 := addRun (a := ⟨#[82]⟩ ++ N1 ++ N2 ++ N3) (b := N4) (by simp only [ByteArray.size_append]; omega)
 have r5 := addRun (a := ⟨#[82]⟩ ++ N1 ++ N2 ++ N3 ++ N4) (b := N5) (by simp only [ByteArray.size_append]; omega)
 clear z0 z1 z2 z3 z4 z5
 have HB := Lib.hid ((Below.refl _ w).alloc (Nat.le_refl _) (.cells #[.int .i64 c, .int .i64 q, .string l, .string k, .string v] 61))
 have HK5 : Hid (∀ W, Below (w.alloc (.cells #[.int .i64 c, .int .i64 q, .string l, .string k, .string v] 61)).heap.size (w.alloc (.cells #[.int .i64 c, .int .i64 q, .string l, .string k, .string v] 61)) W → (W.cell? ⟨w.heap.size, 0, none⟩ = some (.int .i64 c) ∧ W.cell? ⟨w.heap.size, 1, none⟩ = some (.int .i64 q) ∧ W.cell? ⟨w.heap.size, 2, none⟩ = some (.string l) ∧ W.cell? ⟨w.heap.size, 3, none⟩ = some (.string k) ∧ W.cell? ⟨w.heap.size, 4, none⟩ = some (.string v)) ∧ Below (w.alloc (.cells #[.int .i64 c, .int .i64 q, .string l, .string k, .string v] 61)).heap.size (w.alloc (.cells #[.int .i64 c, .int .i64 q, .string l, .string k, .string v] 61)) W) :=
  Lib.hid fun W hW => ⟨cells5 ((Blk.new w 61 _).below hW (by simp)), hW⟩
 go_enter Tryz.func35, Tryz.ntmps35
 go_wp2
 have hg : w.heap.size < (w.alloc (.cells #[.int .i64 c, .int .i64 q, .string l, .string k, .string v] 61)).heap.size := by simp
 generalize w.alloc (.cells #[.int .i64 c, .int .i64 q, .string l, .string k, .string v] 61) = w0 at *
 have hB0 := HB.out
 generalize hgg : w.heap.size = g at *
 have HG := Lib.hid hgg
 clear hgg hg
 go_region_held3 (fun w' => (w'.cell? ⟨g, 0, none⟩ = some (.int .i64 c) ∧ w'.cell? ⟨g, 1, none⟩ = some (.int .i64 q) ∧ w'.cell? ⟨g, 2, none⟩ = some (.string l) ∧ w'.cell? ⟨g, 3, none⟩ = some (.string k) ∧ w'.cell? ⟨g, 4, none⟩ = some (.string v)) ∧ Below w0.heap.size w0 w')
  ((refine HK5.out _ ?_; first | exact hB5' | exact hB4' | exact hB3' | exact hB2' | exact hB1' | exact (Below.refl _ _).drew | exact Below.refl _ _))
  (first
   | (have := hB4'; go_at_call 67; refine (HV.out _).mono ?_; rintro e w5 ⟨rfl, hb5⟩; have hB5' : Below w0.heap.size w0 w5 := hB4'.trans (hb5.mono hB4'.size))
   | (have := hB3'; go_at_call 67; refine (HK.out _).mono ?_; rintro e w4 ⟨rfl, hb4⟩; have hB4' : Below w0.heap.size w0 w4 := hB3'.trans (hb4.mono hB3'.size))
   | (have := hB2'; go_at_call 67; refine (HL.out _).mono ?_; rintro e w3 ⟨rfl, hb3⟩; have hB3' : Below w0.heap.size w0 w3 := hB2'.trans (hb3.mono hB2'.size))
   | (have := hB1'; go_at_call 66; refine (HQ.out _).mono ?_; rintro e w2 ⟨rfl, hb2⟩; have hB2' : Below w0.heap.size w0 w2 := hB1'.trans (hb2.mono hB1'.size))
   | (go_at_call 66; refine (HC.out _).mono ?_; rintro e w1 ⟨rfl, hb1⟩; have hB1' : Below w0.heap.size w0 w1 := (Below.refl _ _).drew.trans hb1))
 rw [← HG.out] at hB0
 have hB6 := hB0.trans (hB5'.mono hB0.size)
 go_wp2
 go_ret
 exact ⟨rfl, hB6⟩
end Go.Proofs.YtakgolbgeeoioaaGreat
namespace Go.Proofs.YtakgolbgeeoioaaGreat
open Go.RowKit

/-- a request: client, number, leaf, key, value -/
structure Req where
 c : Int
 q : Int
 l : ByteArray
 k : ByteArray
 v : ByteArray
instance : Inhabited Req := ⟨⟨0, 0, ⟨#[]⟩, ⟨#[]⟩, ⟨#[]⟩⟩⟩
def Req.enc (r : Req) : List Value := [.int .i64 r.c, .int .i64 r.q, .string r.l, .string r.k, .string r.v]
/-- a reply: error, index, head -/
structure Rep where
 e : Int
 i : Int
 h : Int
instance : Inhabited Rep := ⟨⟨0, 0, 0⟩⟩
def Rep.enc (r : Rep) : List Value := [.int .i64 r.e, .int .i64 r.i, .int .i64 r.h]
/-- a head: number, size, time, the log's root, the map's -/
structure Hd where
 q : Int
 z : Int
 t : Int
 r : ByteArray
 m : ByteArray
instance : Inhabited Hd := ⟨⟨0, 0, 0, ⟨#[]⟩, ⟨#[]⟩⟩⟩
def Hd.enc (h : Hd) : List Value := [.int .i64 h.q, .int .i64 h.z, .int .i64 h.t, .string h.r, .string h.m]
def reqK : Kind Req := { t := 61, ts := 31, k := 5, bytes := 64, zero := .agg #[.int .i64 0, .int .i64 0, .string ⟨#[]⟩, .string ⟨#[]⟩, .string ⟨#[]⟩], enc := Req.enc }
def repK : Kind Rep := { t := 34, ts := 41, k := 3, bytes := 24, zero := .agg #[.int .i64 0, .int .i64 0, .int .i64 0], enc := Rep.enc }
def hdK : Kind Hd := { t := 51, ts := 38, k := 5, bytes := 56, zero := .agg #[.int .i64 0, .int .i64 0, .int .i64 0, .string ⟨#[]⟩, .string ⟨#[]⟩], enc := Hd.enc }
theorem reqOk : reqK.Ok := {
 info := by kernel_rfl
 under := Tryz.underlying31
 self := ⟨_, Tryz.underlying61, rfl⟩
 len := fun _ => rfl
 one := fun x v hv => by simp [reqK, Req.enc] at hv; rcases hv with rfl | rfl | rfl | rfl | rfl <;> rfl
 pos := by decide
 zlen := rfl
 small := by decide }
theorem repOk : repK.Ok := {
 info := by kernel_rfl
 under := Tryz.underlying41
 self := ⟨_, Tryz.underlying34, rfl⟩
 len := fun _ => rfl
 one := fun x v hv => by simp [repK, Rep.enc] at hv; rcases hv with rfl | rfl | rfl <;> rfl
 pos := by decide
 zlen := rfl
 small := by decide }
theorem hdOk : hdK.Ok := {
 info := by kernel_rfl
 under := Tryz.underlying38
 self := ⟨_, Tryz.underlying51, rfl⟩
 len := fun _ => rfl
 one := fun x v hv => by simp [hdK, Hd.enc] at hv; rcases hv with rfl | rfl | rfl | rfl | rfl <;> rfl
 pos := by decide
 zlen := rfl
 small := by decide }
/-- a call: a request; or, with cut, a head at a time -/
structure OpR where
 r : Req
 cut : Bool
 now : Int
instance : Inhabited OpR := ⟨⟨default, false, 0⟩⟩
def OpR.enc (x : OpR) : List Value := [.int .i64 x.r.c, .int .i64 x.r.q, .string x.r.l, .string x.r.k, .string x.r.v, .bool x.cut, .int .i64 x.now]
def opK : Kind OpR := { t := 63, ts := 22, k := 7, bytes := 80, zero := .agg #[.int .i64 0, .int .i64 0, .string ⟨#[]⟩, .string ⟨#[]⟩, .string ⟨#[]⟩, .bool false, .int .i64 0], enc := OpR.enc }
theorem opOk : opK.Ok := {
 info := by kernel_rfl
 under := Tryz.underlying22
 self := ⟨_, Tryz.underlying63, rfl⟩
 len := fun _ => rfl
 one := fun x v hv => by simp [opK, OpR.enc] at hv; rcases hv with rfl | rfl | rfl | rfl | rfl | rfl | rfl <;> rfl
 pos := by decide
 zlen := rfl
 small := by decide }
theorem op_at {w : World} {oa : Option Addr} {xs : List OpR} (h : RowG opK w oa xs) {i : Nat} (hi : i < xs.length) : ∃ g o, oa = some ⟨g, o, none⟩ ∧ g < w.heap.size ∧ w.cell? ⟨g, o + i * 7, none⟩ = some (.int .i64 xs[i].r.c) ∧ w.cell? ⟨g, o + i * 7 + 1, none⟩ = some (.int .i64 xs[i].r.q) ∧ w.cell? ⟨g, o + i * 7 + 2, none⟩ = some (.string xs[i].r.l) ∧ w.cell? ⟨g, o + i * 7 + 3, none⟩ = some (.string xs[i].r.k) ∧ w.cell? ⟨g, o + i * 7 + 4, none⟩ = some (.string xs[i].r.v) ∧ w.cell? ⟨g, o + i * 7 + 5, none⟩ = some (.bool xs[i].cut) ∧ w.cell? ⟨g, o + i * 7 + 6, none⟩ = some (.int .i64 xs[i].now) := by
 obtain ⟨g, o, h1, h2, h3⟩ := h i xs[i] (List.getElem?_eq_getElem hi)
 exact ⟨g, o, h1, h2, h3 0 _ rfl, h3 1 _ rfl, h3 2 _ rfl, h3 3 _ rfl, h3 4 _ rfl, h3 5 _ rfl, h3 6 _ rfl⟩
/-- a request of a slice, cell by cell -/
theorem req_at {w : World} {oa : Option Addr} {xs : List Req} (h : RowG reqK w oa xs) {i : Nat} (hi : i < xs.length) : ∃ g o, oa = some ⟨g, o, none⟩ ∧ g < w.heap.size ∧ w.cell? ⟨g, o + i * 5, none⟩ = some (.int .i64 xs[i].c) ∧ w.cell? ⟨g, o + i * 5 + 1, none⟩ = some (.int .i64 xs[i].q) ∧ w.cell? ⟨g, o + i * 5 + 2, none⟩ = some (.string xs[i].l) ∧ w.cell? ⟨g, o + i * 5 + 3, none⟩ = some (.string xs[i].k) ∧ w.cell? ⟨g, o + i * 5 + 4, none⟩ = some (.string xs[i].v) := by
 obtain ⟨g, o, h1, h2, h3⟩ := h i xs[i] (List.getElem?_eq_getElem hi)
 exact ⟨g, o, h1, h2, h3 0 _ rfl, h3 1 _ rfl, h3 2 _ rfl, h3 3 _ rfl, h3 4 _ rfl⟩
theorem rep_at {w : World} {oa : Option Addr} {xs : List Rep} (h : RowG repK w oa xs) {i : Nat} (hi : i < xs.length) : ∃ g o, oa = some ⟨g, o, none⟩ ∧ g < w.heap.size ∧ w.cell? ⟨g, o + i * 3, none⟩ = some (.int .i64 xs[i].e) ∧ w.cell? ⟨g, o + i * 3 + 1, none⟩ = some (.int .i64 xs[i].i) ∧ w.cell? ⟨g, o + i * 3 + 2, none⟩ = some (.int .i64 xs[i].h) := by
 obtain ⟨g, o, h1, h2, h3⟩ := h i xs[i] (List.getElem?_eq_getElem hi)
 exact ⟨g, o, h1, h2, h3 0 _ rfl, h3 1 _ rfl, h3 2 _ rfl⟩
theorem hd_at {w : World} {oa : Option Addr} {xs : List Hd} (h : RowG hdK w oa xs) {i : Nat} (hi : i < xs.length) : ∃ g o, oa = some ⟨g, o, none⟩ ∧ g < w.heap.size ∧ w.cell? ⟨g, o + i * 5, none⟩ = some (.int .i64 xs[i].q) ∧ w.cell? ⟨g, o + i * 5 + 1, none⟩ = some (.int .i64 xs[i].z) ∧ w.cell? ⟨g, o + i * 5 + 2, none⟩ = some (.int .i64 xs[i].t) ∧ w.cell? ⟨g, o + i * 5 + 3, none⟩ = some (.string xs[i].r) ∧ w.cell? ⟨g, o + i * 5 + 4, none⟩ = some (.string xs[i].m) := by
 obtain ⟨g, o, h1, h2, h3⟩ := h i xs[i] (List.getElem?_eq_getElem hi)
 exact ⟨g, o, h1, h2, h3 0 _ rfl, h3 1 _ rfl, h3 2 _ rfl, h3 3 _ rfl, h3 4 _ rfl⟩
end Go.Proofs.YtakgolbgeeoioaaGreat

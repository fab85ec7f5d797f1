/-
  Heads: whether one may be, and its bytes: the program's and the reference's.
-/
import Derived.Test.YtfbeakakokhfhaaWReq
namespace Go.Proofs.Ytfbeakakokhfhaa
open Go.RowKit

/-- whether a head may be -/
def rheadB (a b c : Int) (r m : ByteArray) : Bool := decide (0 ≤ a ∧ a ≤ 2147483647 ∧ 0 ≤ b ∧ b ≤ 2147483647 ∧ 0 ≤ c ∧ c ≤ 2147483647 ∧ r.size = 32 ∧ m.size = 32)
/-- a head's value -/
def headV (a b c : Int) (r m : ByteArray) : Array Value := #[.int .i64 a, .int .i64 b, .int .i64 c, .string r, .string m]
/-- a head's bytes -/
def headB (a b c : Int) (r m : ByteArray) : ByteArray := ⟨#[72]⟩ ++ num4 a ++ num4 b ++ num4 c ++ r ++ m
theorem headB_size (a b c : Int) (r m : ByteArray) : (headB a b c r m).size = 13 + r.size + m.size := by
  unfold headB
  simp only [ByteArray.size_append, num4_size]
  show 1 + 4 + 4 + 4 + r.size + m.size = _
  omega

set_option maxRecDepth 100000 in
set_option maxHeartbeats 2000000 in
theorem head_any (a b c : Int) (r m : ByteArray) (hr : r.size ≤ 1099511627776) (hm : m.size ≤ 1099511627776) (w : World) :
    Calls Try.prog 16 #[.agg (headV a b c r m)] w fun e w' => e = .returned (.string (headB a b c r m)) ∧ Below w.heap.size w w' := by
  unfold headV headB
  have H1 := Lib.hid (fun W => number_any a W)
  have H2 := Lib.hid (fun W => number_any b W)
  have H3 := Lib.hid (fun W => number_any c W)
  have z1 := num4_size a; have z2 := num4_size b; have z3 := num4_size c
  generalize num4 a = N1 at *; generalize num4 b = N2 at *; generalize num4 c = N3 at *
  have z0 : (⟨#[72]⟩ : ByteArray).size = 1 := rfl
  have r1 := addRun (a := ⟨#[72]⟩) (b := N1) (by omega)
  have r2 := addRun (a := ⟨#[72]⟩ ++ N1) (b := N2) (by simp only [ByteArray.size_append]; omega)
  have r3 := addRun (a := ⟨#[72]⟩ ++ N1 ++ N2) (b := N3) (by simp only [ByteArray.size_append]; omega)
  have r4 := addRun (a := ⟨#[72]⟩ ++ N1 ++ N2 ++ N3) (b := r) (by simp only [ByteArray.size_append]; omega)
  have r5 := addRun (a := ⟨#[72]⟩ ++ N1 ++ N2 ++ N3 ++ r) (b := m) (by simp only [ByteArray.size_append]; omega)
  clear z0 z1 z2 z3
  have HB := Lib.hid ((Below.refl _ w).alloc (Nat.le_refl _) (.cells #[.int .i64 a, .int .i64 b, .int .i64 c, .string r, .string m] 34))
  have HK5 : Hid (∀ W, Below (w.alloc (.cells #[.int .i64 a, .int .i64 b, .int .i64 c, .string r, .string m] 34)).heap.size (w.alloc (.cells #[.int .i64 a, .int .i64 b, .int .i64 c, .string r, .string m] 34)) W → (W.cell? ⟨w.heap.size, 0, none⟩ = some (.int .i64 a) ∧ W.cell? ⟨w.heap.size, 1, none⟩ = some (.int .i64 b) ∧ W.cell? ⟨w.heap.size, 2, none⟩ = some (.int .i64 c) ∧ W.cell? ⟨w.heap.size, 3, none⟩ = some (.string r) ∧ W.cell? ⟨w.heap.size, 4, none⟩ = some (.string m)) ∧ Below (w.alloc (.cells #[.int .i64 a, .int .i64 b, .int .i64 c, .string r, .string m] 34)).heap.size (w.alloc (.cells #[.int .i64 a, .int .i64 b, .int .i64 c, .string r, .string m] 34)) W) :=
    Lib.hid fun W hW => ⟨cells5 ((Blk.new w 34 _).below hW (by simp)), hW⟩
  go_enter Try.func16, Try.ntmps16
  go_wp2
  generalize w.alloc (.cells #[.int .i64 a, .int .i64 b, .int .i64 c, .string r, .string m] 34) = w0 at *
  have hB0 := HB.out
  generalize hgg : w.heap.size = g at *
  have HG := Lib.hid hgg
  clear hgg
  go_region_held3 (fun w' => (w'.cell? ⟨g, 0, none⟩ = some (.int .i64 a) ∧ w'.cell? ⟨g, 1, none⟩ = some (.int .i64 b) ∧ w'.cell? ⟨g, 2, none⟩ = some (.int .i64 c) ∧ w'.cell? ⟨g, 3, none⟩ = some (.string r) ∧ w'.cell? ⟨g, 4, none⟩ = some (.string m)) ∧ Below w0.heap.size w0 w')
    ((refine HK5.out _ ?_; first | exact hB3' | exact hB2' | exact hB1' | exact (Below.refl _ _).drew | exact Below.refl _ _))
    (first
      | (have := hB2'; go_at_call 12; refine (H3.out _).mono ?_; rintro e w3 ⟨rfl, hb3⟩; have hB3' : Below w0.heap.size w0 w3 := hB2'.trans (hb3.mono hB2'.size))
      | (have := hB1'; go_at_call 12; refine (H2.out _).mono ?_; rintro e w2 ⟨rfl, hb2⟩; have hB2' : Below w0.heap.size w0 w2 := hB1'.trans (hb2.mono hB1'.size))
      | (go_at_call 12; refine (H1.out _).mono ?_; rintro e w1 ⟨rfl, hb1⟩; have hB1' : Below w0.heap.size w0 w1 := (Below.refl _ _).drew.trans hb1))
  rw [← HG.out] at hB0
  have hB6 := hB0.trans (hB3'.mono hB0.size)
  go_wp2
  go_ret
  exact ⟨rfl, hB6⟩
set_option maxRecDepth 100000 in
set_option maxHeartbeats 2000000 in
theorem rhead_any (a b c : Int) (r m : ByteArray) (hr : r.size ≤ 1099511627776) (hm : m.size ≤ 1099511627776) (w : World) :
    Calls Try.prog 18 #[.agg (headV a b c r m)] w fun e w' => e = .returned (.string (headB a b c r m)) ∧ Below w.heap.size w w' := by
  unfold headV headB
  have H1 := Lib.hid (fun W => rnumber_any a W)
  have H2 := Lib.hid (fun W => rnumber_any b W)
  have H3 := Lib.hid (fun W => rnumber_any c W)
  have z1 := num4_size a; have z2 := num4_size b; have z3 := num4_size c
  generalize num4 a = N1 at *; generalize num4 b = N2 at *; generalize num4 c = N3 at *
  have z0 : (⟨#[72]⟩ : ByteArray).size = 1 := rfl
  have r1 := addRun (a := ⟨#[72]⟩) (b := N1) (by omega)
  have r2 := addRun (a := ⟨#[72]⟩ ++ N1) (b := N2) (by simp only [ByteArray.size_append]; omega)
  have r3 := addRun (a := ⟨#[72]⟩ ++ N1 ++ N2) (b := N3) (by simp only [ByteArray.size_append]; omega)
  have r4 := addRun (a := ⟨#[72]⟩ ++ N1 ++ N2 ++ N3) (b := r) (by simp only [ByteArray.size_append]; omega)
  have r5 := addRun (a := ⟨#[72]⟩ ++ N1 ++ N2 ++ N3 ++ r) (b := m) (by simp only [ByteArray.size_append]; omega)
  clear z0 z1 z2 z3
  have HB := Lib.hid ((Below.refl _ w).alloc (Nat.le_refl _) (.cells #[.int .i64 a, .int .i64 b, .int .i64 c, .string r, .string m] 34))
  have HK5 : Hid (∀ W, Below (w.alloc (.cells #[.int .i64 a, .int .i64 b, .int .i64 c, .string r, .string m] 34)).heap.size (w.alloc (.cells #[.int .i64 a, .int .i64 b, .int .i64 c, .string r, .string m] 34)) W → (W.cell? ⟨w.heap.size, 0, none⟩ = some (.int .i64 a) ∧ W.cell? ⟨w.heap.size, 1, none⟩ = some (.int .i64 b) ∧ W.cell? ⟨w.heap.size, 2, none⟩ = some (.int .i64 c) ∧ W.cell? ⟨w.heap.size, 3, none⟩ = some (.string r) ∧ W.cell? ⟨w.heap.size, 4, none⟩ = some (.string m)) ∧ Below (w.alloc (.cells #[.int .i64 a, .int .i64 b, .int .i64 c, .string r, .string m] 34)).heap.size (w.alloc (.cells #[.int .i64 a, .int .i64 b, .int .i64 c, .string r, .string m] 34)) W) :=
    Lib.hid fun W hW => ⟨cells5 ((Blk.new w 34 _).below hW (by simp)), hW⟩
  go_enter Try.func18, Try.ntmps18
  go_wp2
  generalize w.alloc (.cells #[.int .i64 a, .int .i64 b, .int .i64 c, .string r, .string m] 34) = w0 at *
  have hB0 := HB.out
  generalize hgg : w.heap.size = g at *
  have HG := Lib.hid hgg
  clear hgg
  go_region_held3 (fun w' => (w'.cell? ⟨g, 0, none⟩ = some (.int .i64 a) ∧ w'.cell? ⟨g, 1, none⟩ = some (.int .i64 b) ∧ w'.cell? ⟨g, 2, none⟩ = some (.int .i64 c) ∧ w'.cell? ⟨g, 3, none⟩ = some (.string r) ∧ w'.cell? ⟨g, 4, none⟩ = some (.string m)) ∧ Below w0.heap.size w0 w')
    ((refine HK5.out _ ?_; first | exact hB3' | exact hB2' | exact hB1' | exact (Below.refl _ _).drew | exact Below.refl _ _))
    (first
      | (have := hB2'; go_at_call 28; refine (H3.out _).mono ?_; rintro e w3 ⟨rfl, hb3⟩; have hB3' : Below w0.heap.size w0 w3 := hB2'.trans (hb3.mono hB2'.size))
      | (have := hB1'; go_at_call 28; refine (H2.out _).mono ?_; rintro e w2 ⟨rfl, hb2⟩; have hB2' : Below w0.heap.size w0 w2 := hB1'.trans (hb2.mono hB1'.size))
      | (go_at_call 28; refine (H1.out _).mono ?_; rintro e w1 ⟨rfl, hb1⟩; have hB1' : Below w0.heap.size w0 w1 := (Below.refl _ _).drew.trans hb1))
  rw [← HG.out] at hB0
  have hB6 := hB0.trans (hB3'.mono hB0.size)
  go_wp2
  go_ret
  exact ⟨rfl, hB6⟩
def in31 (n : Int) : Prop := 0 ≤ n ∧ n ≤ 2147483647
theorem rhead_false {a b c : Int} {r m : ByteArray} (h : ¬ in31 a ∨ ¬ in31 b ∨ ¬ in31 c ∨ r.size ≠ 32 ∨ m.size ≠ 32) : rheadB a b c r m = false := by
  unfold rheadB in31 at *
  rw [decide_eq_false_iff_not]
  omega
theorem rhead_true {a b c : Int} {r m : ByteArray} (h1 : in31 a) (h2 : in31 b) (h3 : in31 c) (h4 : r.size = 32) (h5 : m.size = 32) : rheadB a b c r m = true := by
  unfold rheadB in31 at *
  rw [decide_eq_true_iff]
  omega
theorem eq32 {n : Nat} (h : n = 32) : ((n : Int) == 32) = true := by subst h; rfl
theorem ne32 {n : Nat} (h : n ≠ 32) : ((n : Int) == 32) = false := by rw [beq_eq_false_iff_ne]; omega
set_option maxRecDepth 100000 in
set_option maxHeartbeats 2000000 in
theorem rrighthead_any (a b c : Int) (r m : ByteArray) (hr : r.size ≤ 9223372036854775807) (hm : m.size ≤ 9223372036854775807) (w : World) :
    Calls Try.prog 19 #[.agg (headV a b c r m)] w fun e w' => e = .returned (.bool (rheadB a b c r m)) ∧ Below w.heap.size w w' := by
  unfold headV
  have HB := Lib.hid (((Below.refl _ w).alloc (Nat.le_refl _) (.cells #[.int .i64 a, .int .i64 b, .int .i64 c, .string r, .string m] 34)).alloc (by simp) (.cells #[.int .i64 a, .int .i64 b, .int .i64 c] 53))
  go_enter Try.func19, Try.ntmps19
  go_wp2
  have k0 : (((w.alloc (.cells #[.int .i64 a, .int .i64 b, .int .i64 c, .string r, .string m] 34)).alloc (.cells #[.int .i64 a, .int .i64 b, .int .i64 c] 53))).cell? ⟨w.heap.size, 3, none⟩ = some (.string r) := by
    have := ((Blk.new w 34 #[.int .i64 a, .int .i64 b, .int .i64 c, .string r, .string m]).alloc (.cells #[.int .i64 a, .int .i64 b, .int .i64 c] 53)).cell 3
    exact this
  have k1 : (((w.alloc (.cells #[.int .i64 a, .int .i64 b, .int .i64 c, .string r, .string m] 34)).alloc (.cells #[.int .i64 a, .int .i64 b, .int .i64 c] 53))).cell? ⟨w.heap.size, 4, none⟩ = some (.string m) := by
    have := ((Blk.new w 34 #[.int .i64 a, .int .i64 b, .int .i64 c, .string r, .string m]).alloc (.cells #[.int .i64 a, .int .i64 b, .int .i64 c] 53)).cell 4
    exact this
  have hb3 : Blk ((w.alloc (.cells #[.int .i64 a, .int .i64 b, .int .i64 c, .string r, .string m] 34)).alloc (.cells #[.int .i64 a, .int .i64 b, .int .i64 c] 53)) (w.heap.size + 1) 53 #[.int .i64 a, .int .i64 b, .int .i64 c] := by
    refine Blk.new_at ?_
    simp
  have m0 := hb3.cell 0
  have m1 := hb3.cell 1
  have m2 := hb3.cell 2
  clear hb3
  generalize (w.alloc (.cells #[.int .i64 a, .int .i64 b, .int .i64 c, .string r, .string m] 34)).alloc (.cells #[.int .i64 a, .int .i64 b, .int .i64 c] 53) = w0 at *
  have HBW : Hid (Below w.heap.size w w0) := HB
  go_loop [4] (fun t => ∃ k : Nat, k ≤ 3 ∧ t = .int .i64 k ∧ Hid ((1 ≤ k → in31 a) ∧ (2 ≤ k → in31 b) ∧ (3 ≤ k → in31 c))) (fun t => 3 - (intOf t).toNat)
  case atStart => exact ⟨0, by omega, rfl, Lib.hid ⟨by omega, by omega, by omega⟩⟩
  case round =>
    obtain ⟨k, hk, rfl, HI⟩ := hrel
    have hk4 : k = 0 ∨ k = 1 ∨ k = 2 ∨ k = 3 := by omega
    rcases hk4 with rfl | rfl | rfl | rfl
    · by_cases h0 : a < 0
      · have HF := Lib.hid (rhead_false (a := a) (b := b) (c := c) (r := r) (m := m) (.inl (fun h => by have := h.1; omega)))
        go_wp2
        go_ret
        exact ⟨boolEq HF.out.symm, HBW.out⟩
      · by_cases h1 : 2147483647 < a
        · have HF := Lib.hid (rhead_false (a := a) (b := b) (c := c) (r := r) (m := m) (.inl (fun h => by have := h.2; omega)))
          go_wp2
          go_ret
          exact ⟨boolEq HF.out.symm, HBW.out⟩
        · go_wp2
          go_round
          case rel => exact ⟨1, by omega, rfl, Lib.hid ⟨fun _ => ⟨by omega, by omega⟩, by omega, by omega⟩⟩
          case measure => simp [intOf]
    · by_cases h0 : b < 0
      · have HF := Lib.hid (rhead_false (a := a) (b := b) (c := c) (r := r) (m := m) (.inr (.inl (fun h => by have := h.1; omega))))
        go_wp2
        go_ret
        exact ⟨boolEq HF.out.symm, HBW.out⟩
      · by_cases h1 : 2147483647 < b
        · have HF := Lib.hid (rhead_false (a := a) (b := b) (c := c) (r := r) (m := m) (.inr (.inl (fun h => by have := h.2; omega))))
          go_wp2
          go_ret
          exact ⟨boolEq HF.out.symm, HBW.out⟩
        · have ha := HI.out.1 (by omega)
          have HA := Lib.hid ha
          clear ha
          go_wp2
          go_round
          case rel => exact ⟨2, by omega, rfl, Lib.hid ⟨fun _ => HA.out, fun _ => ⟨by omega, by omega⟩, by omega⟩⟩
          case measure => simp [intOf]
    · by_cases h0 : c < 0
      · have HF := Lib.hid (rhead_false (a := a) (b := b) (c := c) (r := r) (m := m) (.inr (.inr (.inl (fun h => by have := h.1; omega)))))
        go_wp2
        go_ret
        exact ⟨boolEq HF.out.symm, HBW.out⟩
      · by_cases h1 : 2147483647 < c
        · have HF := Lib.hid (rhead_false (a := a) (b := b) (c := c) (r := r) (m := m) (.inr (.inr (.inl (fun h => by have := h.2; omega)))))
          go_wp2
          go_ret
          exact ⟨boolEq HF.out.symm, HBW.out⟩
        · have HA := Lib.hid (HI.out.1 (by omega))
          have HB2 := Lib.hid (HI.out.2.1 (by omega))
          go_wp2
          go_round
          case rel => exact ⟨3, by omega, rfl, Lib.hid ⟨fun _ => HA.out, fun _ => HB2.out, fun _ => ⟨by omega, by omega⟩⟩⟩
          case measure => simp [intOf]
    · by_cases h4 : r.size = 32
      · have t4 := eq32 h4
        have H4 := Lib.hid h4
        clear h4
        by_cases h5 : m.size = 32
        · have t5 := eq32 h5
          have HF := Lib.hid (rhead_true (HI.out.1 (by omega)) (HI.out.2.1 (by omega)) (HI.out.2.2 (by omega)) H4.out h5)
          clear h5
          go_wp2
          go_ret
          exact ⟨boolEq HF.out.symm, HBW.out⟩
        · have t5 := ne32 h5
          have HF := Lib.hid (rhead_false (a := a) (b := b) (c := c) (r := r) (m := m) (.inr (.inr (.inr (.inr h5)))))
          clear h5
          go_wp2
          go_ret
          exact ⟨boolEq HF.out.symm, HBW.out⟩
      · have t4 := ne32 h4
        have HF := Lib.hid (rhead_false (a := a) (b := b) (c := c) (r := r) (m := m) (.inr (.inr (.inr (.inl h4)))))
        clear h4
        go_wp2
        go_ret
        exact ⟨boolEq HF.out.symm, HBW.out⟩
end Go.Proofs.Ytfbeakakokhfhaa

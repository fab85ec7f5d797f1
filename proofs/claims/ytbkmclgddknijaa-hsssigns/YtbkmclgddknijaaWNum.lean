/-
  Numbers and texts as bytes: the program's and the reference's.
-/
import Derived.Test.YtbkmclgddknijaaTxt
namespace Go.Proofs.Ytbkmclgddknijaa
open Go.RowKit

/-- a number that has bytes of its own, else 0 -/
def clip (n : Int) : Nat := if 0 ≤ n ∧ n ≤ 2147483647 then n.toNat else 0
theorem clip_in {n : Int} (h0 : 0 ≤ n) (h1 : n ≤ 2147483647) : clip n = n.toNat := if_pos ⟨h0, h1⟩
theorem clip_out {n : Int} (h : n < 0 ∨ 2147483647 < n) : clip n = 0 := if_neg (by omega)
theorem clip_le (n : Int) : clip n ≤ 2147483647 := by unfold clip; split <;> omega
/-- a number's bytes -/
def num4 (n : Int) : ByteArray := strN (by4 (clip n))
theorem num4_size (n : Int) : (num4 n).size = 4 := by unfold num4; rw [strN_size]; rfl
/-- a text's bytes -/
def txt (s : ByteArray) : ByteArray := num4 s.size ++ s
theorem txt_size (s : ByteArray) : (txt s).size = 4 + s.size := by unfold txt; rw [ByteArray.size_append, num4_size]

theorem conv4 (w : World) (a b c d : Int) (l : List Nat) (hl : [a, b, c, d] = l.map (fun n : Nat => (n : Int))) (h4 : l.length = 4) :
    (convert 41 9 (.slice (some ⟨w.heap.size, 0, none⟩) 4 4)).run Try.prog (w.alloc (.cells #[.int .u8 a, .int .u8 b, .int .u8 c, .int .u8 d] 5)) =
      .ok (.string (strN l)) (w.alloc (.cells #[.int .u8 a, .int .u8 b, .int .u8 c, .int .u8 d] 5)) := by
  match l, h4 with
  | [x, y, z, u], _ =>
    simp only [List.map_cons, List.map_nil, List.cons.injEq, and_true] at hl
    obtain ⟨rfl, rfl, rfl, rfl⟩ := hl
    refine conv_cells _ 41 5 9 Try.underlying41 Try.underlying5 Try.underlying9 w.heap.size 4 [x, y, z, u] (fun i hi => ?_)
    rw [(Blk.new w 5 _).cell]
    have h4 : i < 4 := hi
    rcases i with _ | _ | _ | _ | i
    · rfl
    · rfl
    · rfl
    · rfl
    · omega

set_option maxRecDepth 100000 in
set_option maxHeartbeats 400000 in
theorem number_in (n : Nat) (hn : n ≤ 2147483647) (w : World) :
    Calls Try.prog 22 #[.int .i64 n] w fun e w' => e = .returned (.string (strN (by4 n))) ∧ Below w.heap.size w w' := by
  have hc := conv4 w ((n : Int) / 16777216) ((n : Int) / 65536 % 256) ((n : Int) / 256 % 256) ((n : Int) % 256) (by4 n) (by simp [by4]; omega) rfl
  obtain ⟨S, hS⟩ : ∃ S, strN (by4 n) = S := ⟨_, rfl⟩
  rw [hS] at hc ⊢
  clear hS
  go_enter Try.func22, Try.ntmps22
  go_wp2
  go_ret
  exact ⟨rfl, (Below.refl _ _).alloc (Nat.le_refl _) _⟩
set_option maxRecDepth 100000 in
set_option maxHeartbeats 400000 in
theorem number_lo (n : Int) (hn : n < 0) (w : World) :
    Calls Try.prog 22 #[.int .i64 n] w fun e w' => e = .returned (.string (strN (by4 0))) ∧ Below w.heap.size w w' := by
  have hc := conv4 w 0 0 0 0 (by4 0) rfl rfl
  obtain ⟨S, hS⟩ : ∃ S, strN (by4 0) = S := ⟨_, rfl⟩
  rw [hS] at hc ⊢
  clear hS
  go_enter Try.func22, Try.ntmps22
  go_wp2
  go_ret
  exact ⟨rfl, (Below.refl _ _).alloc (Nat.le_refl _) _⟩
set_option maxRecDepth 100000 in
set_option maxHeartbeats 400000 in
theorem number_hi (n : Int) (hn : 2147483647 < n) (w : World) :
    Calls Try.prog 22 #[.int .i64 n] w fun e w' => e = .returned (.string (strN (by4 0))) ∧ Below w.heap.size w w' := by
  have hc := conv4 w 0 0 0 0 (by4 0) rfl rfl
  have hn0 : ¬ n < 0 := by omega
  obtain ⟨S, hS⟩ : ∃ S, strN (by4 0) = S := ⟨_, rfl⟩
  rw [hS] at hc ⊢
  clear hS
  go_enter Try.func22, Try.ntmps22
  go_wp2
  go_ret
  exact ⟨rfl, (Below.refl _ _).alloc (Nat.le_refl _) _⟩
theorem number_any (n : Int) (w : World) :
    Calls Try.prog 22 #[.int .i64 n] w fun e w' => e = .returned (.string (num4 n)) ∧ Below w.heap.size w w' := by
  unfold num4
  by_cases h0 : n < 0
  · rw [clip_out (.inl h0)]
    exact number_lo n h0 w
  · by_cases h1 : 2147483647 < n
    · rw [clip_out (.inr h1)]
      exact number_hi n h1 w
    · rw [clip_in (by omega) (by omega)]
      obtain ⟨k, rfl⟩ : ∃ k : Nat, n = k := ⟨n.toNat, by omega⟩
      exact number_in k (by omega) w
set_option maxRecDepth 100000 in
set_option maxHeartbeats 400000 in
theorem text_any (s : ByteArray) (hs : s.size ≤ 4611686018427387904) (w : World) :
    Calls Try.prog 21 #[.string s] w fun e w' => e = .returned (.string (txt s)) ∧ Below w.heap.size w w' := by
  unfold txt
  have hz := num4_size s.size
  have HN := Lib.hid (fun W => number_any s.size W)
  generalize num4 (s.size : Int) = N at *
  have hadd : ¬ N.size + s.size > 9223372036854775807 := by omega
  clear hz
  go_enter Try.func21, Try.ntmps21
  go_wp2_with fail
  refine (HN.out _).mono ?_
  rintro e w' ⟨rfl, hB⟩
  go_wp2
  go_ret
  exact ⟨rfl, hB⟩
set_option maxRecDepth 100000 in
set_option maxHeartbeats 400000 in
theorem rnumber_in (n : Nat) (hn : n ≤ 2147483647) (w : World) :
    Calls Try.prog 24 #[.int .i64 n] w fun e w' => e = .returned (.string (strN (by4 n))) ∧ Below w.heap.size w w' := by
  have hc := conv4 w ((n : Int) / 16777216) ((n : Int) / 65536 % 256) ((n : Int) / 256 % 256) ((n : Int) % 256) (by4 n) (by simp [by4]; omega) rfl
  obtain ⟨S, hS⟩ : ∃ S, strN (by4 n) = S := ⟨_, rfl⟩
  rw [hS] at hc ⊢
  clear hS
  go_enter Try.func24, Try.ntmps24
  go_wp2
  go_ret
  exact ⟨rfl, (Below.refl _ _).alloc (Nat.le_refl _) _⟩
set_option maxRecDepth 100000 in
set_option maxHeartbeats 400000 in
theorem rnumber_lo (n : Int) (hn : n < 0) (w : World) :
    Calls Try.prog 24 #[.int .i64 n] w fun e w' => e = .returned (.string (strN (by4 0))) ∧ Below w.heap.size w w' := by
  have hc := conv4 w 0 0 0 0 (by4 0) rfl rfl
  obtain ⟨S, hS⟩ : ∃ S, strN (by4 0) = S := ⟨_, rfl⟩
  rw [hS] at hc ⊢
  clear hS
  go_enter Try.func24, Try.ntmps24
  go_wp2
  go_ret
  exact ⟨rfl, (Below.refl _ _).alloc (Nat.le_refl _) _⟩
set_option maxRecDepth 100000 in
set_option maxHeartbeats 400000 in
theorem rnumber_hi (n : Int) (hn : 2147483647 < n) (w : World) :
    Calls Try.prog 24 #[.int .i64 n] w fun e w' => e = .returned (.string (strN (by4 0))) ∧ Below w.heap.size w w' := by
  have hc := conv4 w 0 0 0 0 (by4 0) rfl rfl
  have hn0 : ¬ n < 0 := by omega
  obtain ⟨S, hS⟩ : ∃ S, strN (by4 0) = S := ⟨_, rfl⟩
  rw [hS] at hc ⊢
  clear hS
  go_enter Try.func24, Try.ntmps24
  go_wp2
  go_ret
  exact ⟨rfl, (Below.refl _ _).alloc (Nat.le_refl _) _⟩
theorem rnumber_any (n : Int) (w : World) :
    Calls Try.prog 24 #[.int .i64 n] w fun e w' => e = .returned (.string (num4 n)) ∧ Below w.heap.size w w' := by
  unfold num4
  by_cases h0 : n < 0
  · rw [clip_out (.inl h0)]
    exact rnumber_lo n h0 w
  · by_cases h1 : 2147483647 < n
    · rw [clip_out (.inr h1)]
      exact rnumber_hi n h1 w
    · rw [clip_in (by omega) (by omega)]
      obtain ⟨k, rfl⟩ : ∃ k : Nat, n = k := ⟨n.toNat, by omega⟩
      exact rnumber_in k (by omega) w
set_option maxRecDepth 100000 in
set_option maxHeartbeats 400000 in
theorem rtext_any (s : ByteArray) (hs : s.size ≤ 4611686018427387904) (w : World) :
    Calls Try.prog 23 #[.string s] w fun e w' => e = .returned (.string (txt s)) ∧ Below w.heap.size w w' := by
  unfold txt
  have hz := num4_size s.size
  have HN := Lib.hid (fun W => rnumber_any s.size W)
  generalize num4 (s.size : Int) = N at *
  have hadd : ¬ N.size + s.size > 9223372036854775807 := by omega
  clear hz
  go_enter Try.func23, Try.ntmps23
  go_wp2_with fail
  refine (HN.out _).mono ?_
  rintro e w' ⟨rfl, hB⟩
  go_wp2
  go_ret
  exact ⟨rfl, hB⟩
end Go.Proofs.Ytbkmclgddknijaa

/-
  The walk of the law WireNumbers.
-/
import Derived.Test.YtfbeakakokhfhaaWList2
namespace Go.Proofs.Ytfbeakakokhfhaa
open Go.RowKit

theorem u8_lt {p q : Nat} (hp : p < 256) (hq : q < 256) : decide (UInt8.ofNat p < UInt8.ofNat q) = decide (p < q) := by
  rw [decide_eq_decide, UInt8.lt_iff_toNat_lt, UInt8.toNat_ofNat', UInt8.toNat_ofNat']
  omega
theorem u8_eq {p q : Nat} (hp : p < 256) (hq : q < 256) : (UInt8.ofNat p == UInt8.ofNat q) = decide (p = q) := by
  rw [Bool.eq_iff_iff, beq_iff_eq, decide_eq_true_iff, ← UInt8.toNat_inj, UInt8.toNat_ofNat', UInt8.toNat_ofNat']
  omega
theorem strN_toList (l : List Nat) : (strN l).toList = l.map fun n => UInt8.ofNat n := by rw [ByteArray.toList_eq]; simp [strN]
theorem num4_in (a : Nat) (h : a ≤ 2147483647) : num4 (a : Int) = strN (by4 a) := by unfold num4; rw [clip_in (by omega) (by omega)]; rfl
theorem num4_less (a b : Nat) (ha : a ≤ 2147483647) (hb : b ≤ 2147483647) : Op.bytesLess (num4 (a : Int)).toList (num4 (b : Int)).toList = decide (a < b) := by
  have m : ∀ x : Nat, x % 256 < 256 := fun x => Nat.mod_lt _ (by decide)
  rw [num4_in a ha, num4_in b hb, strN_toList, strN_toList]
  simp only [by4, List.map_cons, List.map_nil, Op.bytesLess, u8_lt (m _) (m _), u8_eq (m _) (m _)]
  have ea : a = 16777216 * (a / 16777216 % 256) + 65536 * (a / 65536 % 256) + 256 * (a / 256 % 256) + a % 256 := by omega
  have eb : b = 16777216 * (b / 16777216 % 256) + 65536 * (b / 65536 % 256) + 256 * (b / 256 % 256) + b % 256 := by omega
  have a3 := m (a / 16777216); have a2 := m (a / 65536); have a1 := m (a / 256); have a0 := m a
  have b3 := m (b / 16777216); have b2 := m (b / 65536); have b1 := m (b / 256); have b0 := m b
  generalize a / 16777216 % 256 = x3 at *; generalize a / 65536 % 256 = x2 at *; generalize a / 256 % 256 = x1 at *; generalize a % 256 = x0 at *
  generalize b / 16777216 % 256 = y3 at *; generalize b / 65536 % 256 = y2 at *; generalize b / 256 % 256 = y1 at *; generalize b % 256 = y0 at *
  subst ea eb
  rw [Bool.eq_iff_iff]
  simp
  omega
theorem num4_inj {a b : Nat} (ha : a ≤ 2147483647) (hb : b ≤ 2147483647) (h : num4 (a : Int) = num4 (b : Int)) : a = b := by
  rw [num4_in a ha, num4_in b hb] at h
  have e := congrArg nums h
  rw [nums_strN (by4_lt a), nums_strN (by4_lt b)] at e
  simp [by4] at e
  omega
theorem num4_eq (a b : Nat) (ha : a ≤ 2147483647) (hb : b ≤ 2147483647) : ((num4 (a : Int)).toList == (num4 (b : Int)).toList) = ((a : Int) == (b : Int)) := by
  by_cases h : a = b
  · subst h; simp
  · have h1 : (num4 (a : Int)).toList ≠ (num4 (b : Int)).toList := fun e => h (num4_inj ha hb (by
      rw [ByteArray.toList_eq, ByteArray.toList_eq] at e
      rw [← of_toList (num4 (a : Int)), e, of_toList]))
    have h2 : ¬ (a : Int) = (b : Int) := by omega
    rw [beq_eq_false_iff_ne.2 h1, beq_eq_false_iff_ne.2 h2]

set_option maxRecDepth 100000 in
set_option maxHeartbeats 400000 in
theorem law_numbers_in (a b : Nat) (ha : a ≤ 2147483647) (hb : b ≤ 2147483647) (w : World) : Calls Try.prog 4 #[.int .i64 a, .int .i64 b] w fun e w' => e = .returned (.bool true) ∧ Below w.heap.size w w' := by
  have HX := Lib.hid (fun W => number_any a W)
  have HY := Lib.hid (fun W => number_any b W)
  have hx4 := num4_size a
  have hy4 := num4_size b
  have hl := num4_less a b ha hb
  have he := num4_eq a b ha hb
  generalize num4 (a : Int) = X at *
  generalize num4 (b : Int) = Y at *
  go_enter Try.func4, Try.ntmps4
  go_wp2_with fail
  refine (HX.out _).mono ?_
  rintro e w1 ⟨rfl, hB1⟩
  go_wp2_with fail
  refine (HY.out _).mono ?_
  rintro e w2 ⟨rfl, hB2⟩
  have hB2' := hB1.trans (hB2.mono hB1.size)
  go_wp2_with fail
  refine (wawake_any _).mono ?_
  rintro e w3 ⟨rfl, hB3⟩
  have hB3' := hB2'.trans (hB3.mono hB2'.size)
  clear hB1 hB2 hB2' hB3
  go_wp2
  go_ret
  exact ⟨rfl, hB3'⟩
set_option maxRecDepth 100000 in
set_option maxHeartbeats 400000 in
theorem law_numbers_out (a b : Int) (h : a < 0 ∨ b < 0 ∨ 2147483647 < a ∨ 2147483647 < b) (w : World) : Calls Try.prog 4 #[.int .i64 a, .int .i64 b] w fun e w' => e = .returned (.bool true) ∧ Below w.heap.size w w' := by
  have HX := Lib.hid (fun W => number_any a W)
  have HY := Lib.hid (fun W => number_any b W)
  have hx4 := num4_size a
  have hy4 := num4_size b
  generalize num4 a = X at *
  generalize num4 b = Y at *
  rcases h with h | h | h | h
  all_goals
    go_enter Try.func4, Try.ntmps4
    go_wp2_with fail
    refine (HX.out _).mono ?_
    rintro e w1 ⟨rfl, hB1⟩
    go_wp2_with fail
    refine (HY.out _).mono ?_
    rintro e w2 ⟨rfl, hB2⟩
    have hB2' := hB1.trans (hB2.mono hB1.size)
    go_wp2_with fail
    refine (wawake_any _).mono ?_
    rintro e w3 ⟨rfl, hB3⟩
    have hB3' := hB2'.trans (hB3.mono hB2'.size)
    clear hB1 hB2 hB2' hB3
    go_wp2
    all_goals
      first
        | (exfalso; omega)
        | (go_ret; exact ⟨rfl, hB3'⟩)
theorem law_numbers (a b : Int) (w : World) : Calls Try.prog 4 #[.int .i64 a, .int .i64 b] w fun e w' => e = .returned (.bool true) ∧ Below w.heap.size w w' := by
  by_cases h : a < 0 ∨ b < 0 ∨ 2147483647 < a ∨ 2147483647 < b
  · exact law_numbers_out a b h w
  · obtain ⟨k, rfl⟩ : ∃ k : Nat, a = k := ⟨a.toNat, by omega⟩
    obtain ⟨j, rfl⟩ : ∃ j : Nat, b = j := ⟨b.toNat, by omega⟩
    exact law_numbers_in k j (by omega) (by omega) w
end Go.Proofs.Ytfbeakakokhfhaa

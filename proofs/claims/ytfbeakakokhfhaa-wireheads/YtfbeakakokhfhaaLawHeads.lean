/-
  The walk of the law WireHeads.
-/
import Derived.Test.YtfbeakakokhfhaaLawReads
namespace Go.Proofs.Ytfbeakakokhfhaa
open Go.RowKit

theorem agg_eq_head (w : World) (a b c : Int) (r m : ByteArray) : (binOp .eql 34 (.agg #[.int .i64 a, .int .i64 b, .int .i64 c, .string r, .string m]) (.agg #[.int .i64 a, .int .i64 b, .int .i64 c, .string r, .string m])).run Try.prog w = .ok (.bool true) w := by
  go_simp

set_option maxRecDepth 100000 in
set_option maxHeartbeats 4000000 in
theorem law_heads_in (a b c : Int) (r m : ByteArray) (hr : r.size ≤ 300) (hm : m.size ≤ 300) (w : World) :
    Calls Try.prog 6 #[.agg #[.int .i64 a, .int .i64 b, .int .i64 c, .string r, .string m]] w fun e w' => e = .returned (.bool true) ∧ Below w.heap.size w w' := by
  have hsz := headB_size a b c r m
  obtain ⟨e2, x, y, z, r2, m2, HV2, z4, z5, HH⟩ := hdS (headB a b c r m)
  have HRT := Lib.hid (fun h => rdHead_right (a := a) (b := b) (c := c) (r := r) (m := m) h)
  rw [HV2] at HRT
  have H1 := Lib.hid (fun W => head_any a b c r m (by omega) (by omega) W)
  have H2 := Lib.hid (fun W => readHead_any (headB a b c r m) (by omega) W)
  have H3 := Lib.hid (fun W => rhead_any a b c r m (by omega) (by omega) W)
  have H4 := Lib.hid (fun W => rrighthead_any a b c r m (by omega) (by omega) W)
  have H5 := Lib.hid (fun W => rrighthead_any x y z r2 m2 (by omega) (by omega) W)
  have H6 := Lib.hid (fun W => rhead_any x y z r2 m2 (by omega) (by omega) W)
  rw [HV2] at H2
  have HH' := Lib.hid HH
  have t1 : ¬ (300 : Int) < (r.size : Int) := by omega
  have t2 : ¬ (300 : Int) < (m.size : Int) := by omega
  generalize headB a b c r m = X at *
  clear HV2 HH hsz z4 z5
  unfold headV at H1 H2 H3 H4 H5 H6
  go_enter Try.func6, Try.ntmps6
  go_wp2_with fail
  refine (wawake_any _).mono ?_
  rintro e w1 ⟨rfl, hB1⟩
  have hk1 : Blk w1 w.heap.size 34 #[.int .i64 a, .int .i64 b, .int .i64 c, .string r, .string m] := (Blk.new w 34 _).below hB1 (by simp)
  have hB1' := ((Below.refl _ w).alloc (Nat.le_refl _) (.cells #[.int .i64 a, .int .i64 b, .int .i64 c, .string r, .string m] 34)).trans (hB1.mono (by simp))
  obtain ⟨c0, c1, c2, c3, c4⟩ := cells5 hk1
  clear hB1
  go_wp2_with fail
  refine (H1.out _).mono ?_
  rintro e w2 ⟨rfl, hB2⟩
  have hk2 := hk1.below hB2 hk1.lt
  have hB2' := hB1'.trans (hB2.mono hB1'.size)
  clear c0 c1 c2 c3 c4 hk1 hB1' hB2
  go_wp2_with fail
  refine (H2.out _).mono ?_
  rintro e w3 ⟨rfl, hB3⟩
  have hk3 := (hk2.below hB3 hk2.lt).alloc (.cells #[.int .i64 x, .int .i64 y, .int .i64 z, .string r2, .string m2] 34)
  have hx3 : Blk (w3.alloc (.cells #[.int .i64 x, .int .i64 y, .int .i64 z, .string r2, .string m2] 34)) w3.heap.size 34 #[.int .i64 x, .int .i64 y, .int .i64 z, .string r2, .string m2] := Blk.new _ _ _
  have hB3' := (hB2'.trans (hB3.mono hB2'.size))
  have hB3'' := hB3'.alloc hB3'.size (.cells #[.int .i64 x, .int .i64 y, .int .i64 z, .string r2, .string m2] 34)
  obtain ⟨c0, c1, c2, c3, c4⟩ := cells5 hk3
  clear hk2 hB2' hB3 hB3'
  go_wp2_with fail
  refine (H3.out _).mono ?_
  rintro e w4 ⟨rfl, hB4⟩
  have hk4 := hk3.below hB4 hk3.lt
  have hx4 := hx3.below hB4 hx3.lt
  have hB4' := hB3''.trans (hB4.mono hB3''.size)
  generalize w3.heap.size = g at *
  clear c0 c1 c2 c3 c4 hk3 hx3 hB3'' hB4
  obtain ⟨c0, c1, c2, c3, c4⟩ := cells5 hk4
  go_wp2_with fail
  refine (H4.out _).mono ?_
  rintro e w5 ⟨rfl, hB5⟩
  have hk5 := hk4.below hB5 hk4.lt
  have hx5 := hx4.below hB5 hx4.lt
  have hB5' := hB4'.trans (hB5.mono hB4'.size)
  clear c0 c1 c2 c3 c4 hk4 hx4 hB4' hB5 H1 H2 H3 H4
  obtain ⟨c0, c1, c2, c3, c4⟩ := cells5 hk5
  obtain ⟨d0, d1, d2, d3, d4⟩ := cells5 hx5
  by_cases hR : rheadB a b c r m = true
  · have hq := HRT.out hR
    simp only [headV] at hq
    injection hq with hq
    simp only [List.cons.injEq, Value.agg.injEq, Array.mk.injEq, Value.int.injEq, Value.string.injEq, true_and, and_true] at hq
    obtain ⟨⟨rfl, rfl, rfl, rfl, rfl⟩, rfl⟩ := hq
    rw [hR]
    have he := agg_eq_head w5 x y z r2 m2
    clear HRT HH' H5 H6 hR
    go_wp2
    go_ret
    exact ⟨rfl, hB5'⟩
  · have hR' : rheadB a b c r m = false := by simpa using hR
    rw [hR']
    clear hR hR' HRT
    rcases HH'.out with ⟨rfl, hh1, hh2⟩ | ⟨rfl, rfl, rfl, rfl, rfl, rfl⟩
    · rw [hh1] at H5
      rw [hh2] at H6
      clear HH' hh1 hh2
      go_wp2_with fail
      refine (H5.out _).mono ?_
      rintro e w6 ⟨rfl, hB6⟩
      have hx6 := hx5.below hB6 hx5.lt
      have hB6' := hB5'.trans (hB6.mono hB5'.size)
      clear c0 c1 c2 c3 c4 d0 d1 d2 d3 d4 hk5 hx5 hB5' hB6
      obtain ⟨d0, d1, d2, d3, d4⟩ := cells5 hx6
      go_wp2_with fail
      refine (H6.out _).mono ?_
      rintro e w7 ⟨rfl, hB7⟩
      have hB7' := hB6'.trans (hB7.mono hB6'.size)
      go_wp2
      go_ret
      exact ⟨rfl, hB7'⟩
    · clear HH' H5 H6
      go_wp2
      go_ret
      exact ⟨rfl, hB5'⟩

set_option maxRecDepth 100000 in
set_option maxHeartbeats 1000000 in
theorem law_heads (a b c : Int) (r m : ByteArray) (hz : r.size ≤ 9223372036854775807 ∧ m.size ≤ 9223372036854775807) (w : World) :
    Calls Try.prog 6 #[.agg #[.int .i64 a, .int .i64 b, .int .i64 c, .string r, .string m]] w fun e w' => e = .returned (.bool true) ∧ Below w.heap.size w w' := by
  by_cases hr : r.size ≤ 300
  · by_cases hm : m.size ≤ 300
    · exact law_heads_in a b c r m hr hm w
    · have t1 : ¬ (300 : Int) < (r.size : Int) := by omega
      have t2 : (300 : Int) < (m.size : Int) := by omega
      have z1 := hz.1; have z2 := hz.2
      clear hm hr hz
      go_enter Try.func6, Try.ntmps6
      go_wp2_with fail
      refine (wawake_any _).mono ?_
      rintro e w1 ⟨rfl, hB1⟩
      have hk1 : Blk w1 w.heap.size 34 #[.int .i64 a, .int .i64 b, .int .i64 c, .string r, .string m] := (Blk.new w 34 _).below hB1 (by simp)
      have hB1' := ((Below.refl _ w).alloc (Nat.le_refl _) (.cells #[.int .i64 a, .int .i64 b, .int .i64 c, .string r, .string m] 34)).trans (hB1.mono (by simp))
      obtain ⟨c0, c1, c2, c3, c4⟩ := cells5 hk1
      clear hB1 hk1
      go_wp2_with fail
      refine (wawake_any _).mono ?_
      rintro e w2 ⟨rfl, hB2⟩
      have hB2' := hB1'.trans (hB2.mono hB1'.size)
      go_wp2
      go_ret
      exact ⟨rfl, hB2'⟩
  · have t1 : (300 : Int) < (r.size : Int) := by omega
    have z1 := hz.1; have z2 := hz.2
    clear hr hz
    go_enter Try.func6, Try.ntmps6
    go_wp2_with fail
    refine (wawake_any _).mono ?_
    rintro e w1 ⟨rfl, hB1⟩
    have hk1 : Blk w1 w.heap.size 34 #[.int .i64 a, .int .i64 b, .int .i64 c, .string r, .string m] := (Blk.new w 34 _).below hB1 (by simp)
    have hB1' := ((Below.refl _ w).alloc (Nat.le_refl _) (.cells #[.int .i64 a, .int .i64 b, .int .i64 c, .string r, .string m] 34)).trans (hB1.mono (by simp))
    obtain ⟨c0, c1, c2, c3, c4⟩ := cells5 hk1
    clear hB1 hk1
    go_wp2_with fail
    refine (wawake_any _).mono ?_
    rintro e w2 ⟨rfl, hB2⟩
    have hB2' := hB1'.trans (hB2.mono hB1'.size)
    go_wp2
    go_ret
    exact ⟨rfl, hB2'⟩
end Go.Proofs.Ytfbeakakokhfhaa

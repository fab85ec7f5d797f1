/-
  What the laws of layer 3 ask first; the digits' law.
-/
import Derived.Test.YtdbfkkopolhpaaaOSign
namespace Go.Proofs.Ytdbfkkopolhpaaa
open Go.RowKit

set_option maxRecDepth 100000 in
set_option maxHeartbeats 1000000 in
theorem awake3_any (w : World) : Calls Try.prog 7 #[] w fun e w' => e = .returned (.bool true) ∧ Below w.heap.size w w' := by
  have HS := Lib.hid (fun W => sign_spent ⟨#[]⟩ ⟨#[]⟩ 8 (by decide) W)
  go_enter Try.func7, Try.ntmps7
  go_wp2_with fail
  refine (make_std _).mono ?_
  rintro e w1 ⟨rfl, hB1⟩
  go_wp2_with fail
  refine (HS.out _).mono ?_
  rintro e w2 ⟨rfl, hB2⟩
  have hB2' := hB1.trans (hB2.mono hB1.size)
  go_wp2
  go_ret
  exact ⟨rfl, hB2'⟩

theorem eq67 (D : Array Value) (hD : ∀ i, i < 67 → ∃ n : Int, D[i]? = some (.int .i64 n)) (w : World) : (Op.equalIn 10000 38 (.agg D) (.agg D)).run Try.prog w = .ok true w := by
  rw [show (10000 : Nat) = 9998 + 2 from rfl, Op.equalIn]
  simp only [Sem.run_bind, run_underlying Try.underlying38, Result.andThen_ok, Try.sizeOf3, Std.Legacy.Range.forIn_eq_forIn_range', Std.Legacy.Range.size, Nat.sub_zero, Nat.add_sub_cancel, Nat.div_one]
  have hl : ∀ i ∈ List.range' 0 67 1, i < 67 := fun i hi => by simpa using (List.mem_range'_1.1 hi).2
  generalize List.range' 0 67 1 = l at hl ⊢
  induction l with
  | nil => simp
  | cons i l ih =>
    obtain ⟨n, hn⟩ := hD i (hl i (by simp))
    have px : (_root_.Go.part 3 D (i * 1)).run Try.prog w = .ok (.int .i64 n) w := by
      simp [_root_.Go.part, isAgg, run_underlying Try.underlying3, hn]
    have pe : (Op.equalIn (9998 + 1) 3 (.int .i64 n) (.int .i64 n)).run Try.prog w = .ok true w := by
      rw [run_equalIn_int w 9998 3 .i64 .i64 n n Try.underlying3]
      simp
    simp only [List.forIn_cons, Sem.run_bind, px, pe, Result.andThen_ok, Bool.not_true, Bool.false_eq_true, if_false, Sem.run_pure]
    exact ih fun j hj => hl j (by simp [hj])
theorem eq_odV (q : Nat) (m : ByteArray) (W : World) : (Op.equalIn 10000 38 (.agg (odV q m)) (.agg (odV q m))).run Try.prog W = .ok true W :=
  eq67 _ (fun _ hi => ⟨_, odV_at q m hi⟩) W

set_option maxRecDepth 100000 in
set_option maxHeartbeats 1000000 in
theorem law_digits (x : Int) (hx : 0 ≤ x ∧ x ≤ 255) (m : ByteArray) (hm : m.size ≤ 9223372036854775807) (w : World) :
    Calls Try.prog 4 #[.int .u8 x, .string m] w fun e w' => e = .returned (.bool true) ∧ Below w.heap.size w w' := by
  obtain ⟨q, rfl⟩ : ∃ q : Nat, x = q := ⟨x.toNat, by omega⟩
  by_cases hl : m.size ≤ 1000
  · have hl' : ¬ (1000 : Int) < (m.size : Int) := by omega
    have HA := Lib.hid (fun W => digits_any q m (by omega) W)
    have HR := Lib.hid (fun W => rdigits_any q m (by omega) W)
    have heq := eq_odV q m
    generalize odV q m = D at *
    go_enter Try.func4, Try.ntmps4
    go_wp2_with fail
    refine (awake3_any _).mono ?_
    rintro e w1 ⟨rfl, hB1⟩
    go_wp2_with fail
    refine (make_std _).mono ?_
    rintro e w2 ⟨rfl, hB2⟩
    have hB2' := hB1.trans (hB2.mono hB1.size)
    clear hB1 hB2
    go_wp2_with fail
    refine (HA.out _).mono ?_
    rintro e w3 ⟨rfl, hB3⟩
    have hB3' := hB2'.trans (hB3.mono hB2'.size)
    clear hB2' hB3
    go_wp2_with fail
    refine (HR.out _).mono ?_
    rintro e w4 ⟨rfl, hB4⟩
    have hB4' := hB3'.trans (hB4.mono hB3'.size)
    clear hB3' hB4
    go_wp2
    go_ret
    exact ⟨rfl, hB4'⟩
  · have hl' : (1000 : Int) < (m.size : Int) := by omega
    go_enter Try.func4, Try.ntmps4
    go_wp2_with fail
    refine (awake3_any _).mono ?_
    rintro e w1 ⟨rfl, hB1⟩
    go_wp2_with fail
    refine (awake3_any _).mono ?_
    rintro e w2 ⟨rfl, hB2⟩
    have hB2' := hB1.trans (hB2.mono hB1.size)
    go_wp2
    go_ret
    exact ⟨rfl, hB2'⟩
end Go.Proofs.Ytdbfkkopolhpaaa

/-
  The reference's Power, Count, Width; awake.
-/
import Derived.Test.YtpapmcdnaplmkaaTPlan
namespace Go.Proofs.Ytpapmcdnaplmkaa
open Go.RowKit

theorem five_one : cntT 5 1 = 1 := by decide +kernel
theorem five_plan : (planT 5).length = 3 := by decide +kernel
set_option maxRecDepth 100000 in
theorem awake7_any (w : World) : Calls Try.prog 7 #[] w fun e w' => e = .returned (.bool true) ∧ Below w.heap.size w w' := by
  have HC := Lib.hid (fun W => count_any 5 1 W)
  rw [five_one] at HC
  have HP := Lib.hid (fun W => plan_any 5 W)
  have HRD := Lib.hid (show ∀ W e w', RD (planT 5) W e w' → ∃ oa cap, e = .returned (.slice oa 3 cap) ∧ Below W.heap.size W w' from fun W e w' h => by
    obtain ⟨v, rfl, hv, hb⟩ := h
    obtain ⟨oa, cap, rfl, _⟩ := hv.form
    rw [five_plan]
    exact ⟨oa, cap, rfl, hb⟩)
  generalize RD (planT 5) = PO at *
  go_enter Try.func7, Try.ntmps7
  go_wp2_with fail
  refine (HC.out _).mono ?_
  rintro e w1 ⟨rfl, hb1⟩
  go_wp2_with fail
  refine (HP.out _).mono ?_
  intro e w2 hq
  obtain ⟨oa, cap, rfl, hb2⟩ := HRD.out _ _ _ hq
  go_wp2
  go_ret
  exact ⟨rfl, hb1.trans (hb2.mono hb1.size)⟩
set_option maxRecDepth 100000 in
theorem rpower_any (l : Nat) (hl : l ≤ 3) (w : World) : Calls Try.prog 26 #[iv l] w fun e w' => e = .returned (iv (4 ^ l)) ∧ w' = w := by
  go_enter Try.func26, Try.ntmps26
  go_wp2
  go_loop [3, 4] (fun p i => ∃ k q : Nat, i = .int .i64 (k : Int) ∧ k ≤ l ∧ q = 4 ^ k ∧ p = .int .i64 (q : Int)) (fun _ i => l - (intOf i).toNat)
  case atStart => exact ⟨0, 1, rfl, by omega, rfl, rfl⟩
  case round =>
    obtain ⟨k, q, rfl, hk, hq, rfl⟩ := hrel
    have HQ := Lib.hid hq
    have hq2 : q ≤ 64 := by
      rw [hq]
      exact Nat.le_trans (Nat.pow_le_pow_right (by decide) (show k ≤ 3 by omega)) (by decide)
    clear hq
    by_cases hlt : k < l
    · go_wp2
      go_round
      case rel => exact ⟨k + 1, q * 4, by go_num, by omega, by rw [HQ.out, Nat.pow_succ], by go_num⟩
      case measure => simp [intOf]; omega
    · obtain rfl : k = l := by omega
      go_wp2
      go_ret
      exact ⟨by rw [← HQ.out]; rfl, rfl⟩
set_option maxRecDepth 100000 in
theorem rcount_any (n level : Int) (w : World) : Calls Try.prog 10 #[.int .i64 n, .int .i64 level] w fun e w' => e = .returned (iv (rcntT n level)) ∧ w' = w := by
  by_cases h : n < 0 ∨ 64 < n ∨ level < 0 ∨ 3 < level
  · rw [show rcntT n level = 0 by unfold rcntT; rw [if_pos h]]
    by_cases h1 : n < 0
    · go_enter Try.func10, Try.ntmps10
      go_wp2
      go_ret
      exact ⟨rfl, rfl⟩
    by_cases h2 : 64 < n
    · go_enter Try.func10, Try.ntmps10
      go_wp2
      go_ret
      exact ⟨rfl, rfl⟩
    by_cases h3 : level < 0
    · go_enter Try.func10, Try.ntmps10
      go_wp2
      go_ret
      exact ⟨rfl, rfl⟩
    have h4 : 3 < level := by omega
    go_enter Try.func10, Try.ntmps10
    go_wp2
    go_ret
    exact ⟨rfl, rfl⟩
  · obtain ⟨k, rfl⟩ : ∃ k : Nat, n = (k : Int) := ⟨n.toNat, by omega⟩
    obtain ⟨l, rfl⟩ : ∃ l : Nat, level = (l : Int) := ⟨level.toNat, by omega⟩
    have hk : k ≤ 64 := by omega
    have hl : l ≤ 3 := by omega
    have HP := Lib.hid (fun W => rpower_any l hl W)
    have HV := Lib.hid (show rcntT (k : Int) (l : Int) = k / 4 ^ l by unfold rcntT; rw [if_neg h, Int.toNat_natCast, Int.toNat_natCast])
    have hp : 0 < 4 ^ l := Nat.pow_pos (by decide)
    have hp2 : 4 ^ l ≤ 64 := Nat.le_trans (Nat.pow_le_pow_right (by decide) hl) (by decide)
    generalize rcntT (k : Int) (l : Int) = V at *
    generalize 4 ^ l = p at *
    clear h
    go_enter Try.func10, Try.ntmps10
    go_wp2_with fail
    refine (HP.out _).mono ?_
    rintro e w1 ⟨rfl, rfl⟩
    go_wp2
    go_ret
    refine ⟨?_, rfl⟩
    rw [HV.out]
    show Ending.returned (.int .i64 (wrap64 ((k : Int) / (p : Int)))) = .returned (.int .i64 ((k / p : Nat) : Int))
    have hd := Nat.div_le_self k p
    rw [← Int.natCast_ediv]
    generalize k / p = d at *
    rw [show wrap64 ((d : Nat) : Int) = ((d : Nat) : Int) by unfold wrap64; omega]
end Go.Proofs.Ytpapmcdnaplmkaa

/-
  Nodes and signatures: the reference's.
-/
import Derived.Test.YtdbfkkopolhpaaaODig
namespace Go.Proofs.Ytdbfkkopolhpaaa
open Go.RowKit

set_option maxRecDepth 100000 in
set_option maxHeartbeats 2000000 in
theorem rleaf_any (seed : ByteArray) (hs : seed.size ≤ 1073741824) (k : Nat) (w : World) :
    Calls Try.prog 15 #[.string seed, .int .i64 0, .int .i64 k] w fun e w' => e = .returned (.string (nodeB seed 0 k)) ∧ Below w.heap.size w w' := by
  have HQ := Lib.hid (fun W => rnumber_any k W)
  have HNB := Lib.hid (show nodeB seed 0 k = hB (⟨#[112]⟩ ++ num4 k ++ catB (fstN (fun i => valB seed k i 15) 67)) from rfl)
  have HV0 := Lib.hid (show catB (fstN (fun i => valB seed k i 15) 0) = ⟨#[]⟩ from rfl)
  have HVS := Lib.hid (show ∀ j, catB (fstN (fun i => valB seed k i 15) (j + 1)) = catB (fstN (fun i => valB seed k i 15) j) ++ valB seed k j 15 from fun j => fstN_cat_succ _ j)
  have HVZ := Lib.hid (show ∀ j, (catB (fstN (fun i => valB seed k i 15) j)).size = 32 * j from fun j => fstN_size (fun i => valB_size _ _ _ _) j)
  have z1 := num4_size k
  have HS := Lib.hid hs
  generalize nodeB seed 0 k = R at *
  generalize num4 (k : Int) = N at *
  generalize fstN (fun i => valB seed k i 15) = V at *
  have a1 : ¬ (⟨#[112]⟩ : ByteArray).size + N.size > 9223372036854775807 := by show ¬ 1 + _ > _; omega
  have HPZ := Lib.hid (show ((⟨#[112]⟩ : ByteArray) ++ N).size = 5 by rw [ByteArray.size_append, z1]; rfl)
  clear z1 hs
  go_enter Try.func15, Try.ntmps15
  go_wp2_with fail
  refine (HQ.out _).mono ?_
  rintro e w1 ⟨rfl, hB1⟩
  go_wp2
  clear a1 HQ
  generalize (⟨#[112]⟩ : ByteArray) ++ N = P at *
  go_loopw [7, 8] (fun v i wr => ∃ j : Nat, j ≤ 67 ∧ i = .int .i64 j ∧ v = .string (P ++ catB (V j)) ∧ Below w.heap.size w wr) (fun _ i _ => 67 - (intOf i).toNat)
  case atStart => exact ⟨0, by omega, rfl, by rw [HV0.out, append_empty], hB1⟩
  case round =>
    clear hB1
    obtain ⟨j, hj, rfl, rfl, hB⟩ := hrel
    by_cases hlt : j < 67
    · have hlt' : (j : Int) < 67 := by omega
      have HVA := Lib.hid (fun W => rvalue_any seed HS.out k j 15 (by decide) W)
      rw [show ((15 : Nat) : Int) = 15 from rfl] at HVA
      have hz : (P ++ catB (V j)).size ≤ 1000000 := by rw [ByteArray.size_append, HPZ.out, HVZ.out]; omega
      have HVJ : Hid (P ++ catB (V j) ++ valB seed k j 15 = P ++ catB (V (j + 1))) := Lib.hid (by rw [HVS.out, ByteArray.append_assoc])
      have hvz := valB_size seed k j 15
      generalize valB seed k j 15 = X at *
      generalize P ++ catB (V j) = Y at *
      have a1 : ¬ Y.size + X.size > 9223372036854775807 := by omega
      clear hz hvz
      go_wp2_with fail
      refine (HVA.out _).mono ?_
      rintro e w2 ⟨rfl, hB2⟩
      have hB2' := hB.trans (hB2.mono hB.size)
      clear hB hB2
      go_wp2
      go_roundw
      case rel => exact ⟨j + 1, by omega, by go_num, by rw [HVJ.out], hB2'⟩
      case measure => simp [intOf]; omega
    · obtain rfl : j = 67 := by omega
      clear hlt hj
      have HH := Lib.hid (fun W => rh_any (P ++ catB (V 67)) (by rw [ByteArray.size_append, HPZ.out, HVZ.out]; omega) W)
      rw [← HNB.out] at HH
      generalize P ++ catB (V 67) = Y at *
      go_wp2_with fail
      refine (HH.out _).mono ?_
      rintro e w2 ⟨rfl, hB2⟩
      have hB2' := hB.trans (hB2.mono hB.size)
      go_wp2
      go_ret
      exact ⟨rfl, hB2'⟩

set_option maxRecDepth 100000 in
set_option maxHeartbeats 2000000 in
theorem rnode_succ (seed : ByteArray) (h n k : Nat) (hn : h + 1 = n) (hk : k ≤ 1048576) (hn2 : n ≤ 1000) (w : World)
    (H0 : ∀ W, Calls Try.prog 15 #[.string seed, .int .i64 h, .int .i64 (2 * k : Nat)] W fun e w' => e = .returned (.string (nodeB seed h (2 * k))) ∧ Below W.heap.size W w')
    (H1 : ∀ W, Calls Try.prog 15 #[.string seed, .int .i64 h, .int .i64 (2 * k + 1 : Nat)] W fun e w' => e = .returned (.string (nodeB seed h (2 * k + 1))) ∧ Below W.heap.size W w') :
    Calls Try.prog 15 #[.string seed, .int .i64 n, .int .i64 k] w fun e w' => e = .returned (.string (nodeB seed n k)) ∧ Below w.heap.size w w' := by
  have HL := Lib.hid (fun W => H0 W)
  have HR := Lib.hid (fun W => H1 W)
  have HNB : Hid (nodeB seed n k = hB (⟨#[116]⟩ ++ nodeB seed h (2 * k) ++ nodeB seed h (2 * k + 1))) := Lib.hid (by subst hn; rfl)
  have z1 := nodeB_size seed h (2 * k)
  have z2 := nodeB_size seed h (2 * k + 1)
  generalize nodeB seed n k = R at *
  generalize nodeB seed h (2 * k) = X at *
  generalize nodeB seed h (2 * k + 1) = Y at *
  have hn0 : (0 : Int) < (n : Int) := by omega
  have e1 : (n : Int) - 1 = (h : Int) := by omega
  have e2 : 2 * (k : Int) = ((2 * k : Nat) : Int) := by omega
  have e3 : 2 * (k : Int) + 1 = ((2 * k + 1 : Nat) : Int) := by omega
  obtain ⟨k2, hk2⟩ : ∃ k2, 2 * k = k2 := ⟨_, rfl⟩
  obtain ⟨k3, hk3⟩ : ∃ k3, 2 * k + 1 = k3 := ⟨_, rfl⟩
  rw [hk2] at HL e2
  rw [hk3] at HR e3
  have e4 : (k2 : Int) + 1 = (k3 : Int) := by omega
  have a1 : ¬ (⟨#[116]⟩ : ByteArray).size + X.size > 9223372036854775807 := by show ¬ 1 + _ > _; omega
  have a2 : ¬ ((⟨#[116]⟩ : ByteArray) ++ X).size + Y.size > 9223372036854775807 := by rw [ByteArray.size_append]; show ¬ 1 + _ + _ > _; omega
  have HH := Lib.hid (fun W => rh_any (⟨#[116]⟩ ++ X ++ Y) (by rw [ByteArray.size_append, ByteArray.size_append]; show 1 + _ + _ ≤ _; omega) W)
  rw [← HNB.out] at HH
  clear H0 H1 hk3 z1 z2 HNB e3 hn
  go_enter Try.func15, Try.ntmps15
  go_wp2_with fail
  refine (HL.out _).mono ?_
  rintro e w1 ⟨rfl, hB1⟩
  go_wp2_with fail
  refine (HR.out _).mono ?_
  rintro e w2 ⟨rfl, hB2⟩
  have hB2' := hB1.trans (hB2.mono hB1.size)
  clear hB1 hB2
  go_wp2_with fail
  refine (HH.out _).mono ?_
  rintro e w3 ⟨rfl, hB3⟩
  have hB3' := hB2'.trans (hB3.mono hB2'.size)
  clear hB2' hB3
  go_wp2
  go_ret
  exact ⟨rfl, hB3'⟩
theorem rnode_any (seed : ByteArray) (hs : seed.size ≤ 1073741824) : ∀ (h k : Nat), h ≤ 10 → (k + 1) * 2 ^ h ≤ 1048576 → ∀ w : World,
    Calls Try.prog 15 #[.string seed, .int .i64 h, .int .i64 k] w fun e w' => e = .returned (.string (nodeB seed h k)) ∧ Below w.heap.size w w'
  | 0, k, _, _, w => rleaf_any seed hs k w
  | h + 1, k, hh, hk, w => by
    have e : (k + 1) * 2 ^ (h + 1) = (2 * k + 1 + 1) * 2 ^ h := by rw [Nat.pow_succ, Nat.mul_comm (2 ^ h) 2, ← Nat.mul_assoc]; congr 1; omega
    have hp := Nat.two_pow_pos h
    have h0 : (2 * k + 1) * 2 ^ h ≤ (2 * k + 1 + 1) * 2 ^ h := Nat.mul_le_mul_right _ (by omega)
    have hkk : k + 1 ≤ (k + 1) * 2 ^ (h + 1) := Nat.le_mul_of_pos_right _ (Nat.two_pow_pos _)
    exact rnode_succ seed h (h + 1) k rfl (by omega) (by omega) w (fun W => rnode_any seed hs h (2 * k) (by omega) (by omega) W) (fun W => rnode_any seed hs h (2 * k + 1) (by omega) (by omega) W)
end Go.Proofs.Ytdbfkkopolhpaaa

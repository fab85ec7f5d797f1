/-
  Child, Public, Sign: the program's.
-/
import Derived.Test.YtbkmclgddknijaaHMath
namespace Go.Proofs.Ytbkmclgddknijaa
open Go.RowKit

set_option maxRecDepth 100000 in
theorem child_any (seed : ByteArray) (hs : seed.size ≤ 1073741824) (k : Nat) (w : World) :
    Calls Try.prog 11 #[.string seed, .int .i64 k] w fun e w' => e = .returned (.string (childB seed k)) ∧ Below w.heap.size w w' := by
  have HT := Lib.hid (fun W => text_any seed (by omega) W)
  have HN := Lib.hid (fun W => number_any k W)
  have hz := txt_size seed
  have hn := num4_size k
  unfold childB
  generalize txt seed = T at *
  generalize num4 (k : Int) = N at *
  have a1 : ¬ T.size + (⟨#[99]⟩ : ByteArray).size > 9223372036854775807 := by show ¬ _ + 1 > _; omega
  have a2 : ¬ (T ++ (⟨#[99]⟩ : ByteArray)).size + N.size > 9223372036854775807 := by rw [ByteArray.size_append]; show ¬ _ + 1 + _ > _; omega
  clear hz hn hs
  go_enter Try.func11, Try.ntmps11
  go_wp2_with fail
  refine (HT.out _).mono ?_
  rintro e w1 ⟨rfl, hB1⟩
  go_wp2_with fail
  refine (HN.out _).mono ?_
  rintro e w2 ⟨rfl, hB2⟩
  have hB2' := hB1.trans (hB2.mono hB1.size)
  go_wp2
  go_ret
  exact ⟨rfl, hB2'⟩
section
attribute [-go_sem] loadVar
set_option maxRecDepth 100000 in
theorem hsspublic_any (seed : ByteArray) (hs : seed.size ≤ 1073741824) (w : World) :
    Calls Try.prog 8 #[.agg tabV, .string seed] w fun e w' => e = .returned (.string (nodeB seed 3 0)) ∧ Below w.heap.size w w' := by
  have HP := Lib.hid (fun W => public_any seed hs W)
  generalize nodeB seed 3 0 = R at *
  have hB0 := (Below.refl _ w).alloc (Nat.le_refl _) (.cells tabV 27)
  have hT : Blk (w.alloc (.cells tabV 27)) w.heap.size 27 tabV := Blk.new _ _ _
  have hT1 := tab_run hT
  clear hs
  go_enter Try.func8, Try.ntmps8
  go_wp2_with fail
  refine (HP.out _).mono ?_
  rintro e w1 ⟨rfl, hb1⟩
  have hB1 := hB0.trans (hb1.mono hB0.size)
  clear hT1 hT hB0
  go_wp2
  go_ret
  exact ⟨rfl, hB1⟩
set_option maxRecDepth 100000 in
theorem hsssign_spent (seed m : ByteArray) (n : Int) (hn : ¬ (0 ≤ n ∧ n < 64)) (w : World) :
    Calls Try.prog 7 #[.agg tabV, .string seed, .int .i64 n, .string m] w fun e w' => e = .returned (.tuple #[.string ⟨#[]⟩, .int .i64 4]) ∧ Below w.heap.size w w' := by
  have hB0 := (Below.refl _ w).alloc (Nat.le_refl _) (.cells tabV 27)
  by_cases h0 : n < 0
  · clear hn
    go_enter Try.func7, Try.ntmps7
    go_wp2
    go_ret2
    exact ⟨rfl, hB0⟩
  · have h64 : n ≥ 64 := by omega
    clear hn
    go_enter Try.func7, Try.ntmps7
    go_wp2
    go_ret2
    exact ⟨rfl, hB0⟩
set_option maxRecDepth 100000 in
set_option maxHeartbeats 1000000 in
theorem hsssign_any (seed m : ByteArray) (hs : seed.size ≤ 1048576) (hm : m.size ≤ 1073741824) (n : Nat) (hn : n < 64) (w : World) :
    Calls Try.prog 7 #[.agg tabV, .string seed, .int .i64 n, .string m] w fun e w' => e = .returned (.tuple #[.string (twoB seed (n / 8) (n % 8) m), .int .i64 0]) ∧ Below w.heap.size w w' := by
  obtain ⟨k, hk⟩ : ∃ k, n / 8 = k := ⟨_, rfl⟩
  obtain ⟨q, hq⟩ : ∃ q, n % 8 = q := ⟨_, rfl⟩
  rw [hk, hq]
  have h0 : ¬ (n : Int) < 0 := by omega
  have h64 : ¬ (n : Int) ≥ 64 := by omega
  have e1 : (n : Int) / 8 = (k : Int) := by omega
  have e2 : (n : Int) % 8 = (q : Int) := by omega
  have hcz := childB_size seed k
  have hpz := nodeB_size (childB seed k) 3 0
  have HCH := Lib.hid (fun W => child_any seed (by omega) k W)
  have HPB := Lib.hid (fun W => public_any (childB seed k) (by omega) W)
  have HS1 := Lib.hid (fun W => sign_any seed (saysB (nodeB (childB seed k) 3 0)) (by omega) (by rw [saysB_size]; omega) k (by omega) W)
  have HS2 := Lib.hid (fun W => sign_any (childB seed k) m (by omega) hm q (by omega) W)
  have HE := Lib.hid (show twoB seed k q m = signB seed k (saysB (nodeB (childB seed k) 3 0)) ++ nodeB (childB seed k) 3 0 ++ signB (childB seed k) q m from rfl)
  have hz1 := signB_size seed k (saysB (nodeB (childB seed k) 3 0))
  have hz2 := signB_size (childB seed k) q m
  generalize twoB seed k q m = R at *
  generalize signB seed k (saysB (nodeB (childB seed k) 3 0)) = A at *
  generalize signB (childB seed k) q m = Z at *
  unfold saysB at HS1
  generalize nodeB (childB seed k) 3 0 = P at *
  generalize childB seed k = C at *
  have a1 : ¬ A.size + P.size > 9223372036854775807 := by omega
  have a2 : ¬ (A ++ P).size + Z.size > 9223372036854775807 := by rw [ByteArray.size_append]; omega
  have a3 : ¬ (⟨#[67]⟩ : ByteArray).size + P.size > 9223372036854775807 := by show ¬ 1 + _ > _; omega
  clear hz1 hz2 hpz hcz hk hq hs hm hn
  have hB0 := (Below.refl _ w).alloc (Nat.le_refl _) (.cells tabV 27)
  have hT : Blk (w.alloc (.cells tabV 27)) w.heap.size 27 tabV := Blk.new _ _ _
  go_enter Try.func7, Try.ntmps7
  go_wp2_with fail
  generalize w.alloc (.cells tabV 27) = w0 at *
  obtain ⟨B, hBB⟩ : ∃ B, w.heap.size = B := ⟨_, rfl⟩
  rw [hBB] at hB0 hT ⊢
  have HBB := Lib.hid hBB
  clear hBB
  refine (HCH.out _).mono ?_
  rintro e w1 ⟨rfl, hb1⟩
  have hT1 := hT.below hb1 hT.lt
  have hB1 := hB0.trans (hb1.mono (Nat.le_of_lt hT.lt))
  have l1 := tab_run hT1
  clear hT hB0 hb1 HCH
  go_wp2_with fail
  refine (HPB.out _).mono ?_
  rintro e w2 ⟨rfl, hb2⟩
  have hT2 := hT1.below hb2 hT1.lt
  have hB2 := hB1.trans (hb2.mono (Nat.le_of_lt hT1.lt))
  have l2 := tab_run hT2
  clear hT1 hB1 hb2 HPB l1
  go_wp2_with fail
  refine (HS1.out _).mono ?_
  rintro e w3 ⟨rfl, hb3⟩
  have hT3 := hT2.below hb3 hT2.lt
  have hB3 := hB2.trans (hb3.mono (Nat.le_of_lt hT2.lt))
  have l3 := tab_run hT3
  clear hT2 hB2 hb3 HS1 l2
  go_wp2_with fail
  refine (HS2.out _).mono ?_
  rintro e w4 ⟨rfl, hb4⟩
  have hB4 := hB3.trans (hb4.mono (Nat.le_of_lt hT3.lt))
  rw [← HBB.out] at hB4
  clear hT3 hB3 hb4 HS2 l3 HBB
  go_wp2
  go_ret2
  exact ⟨by rw [HE.out]; rfl, hB4⟩
end
end Go.Proofs.Ytbkmclgddknijaa

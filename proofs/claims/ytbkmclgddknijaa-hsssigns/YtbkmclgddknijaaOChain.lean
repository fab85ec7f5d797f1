/-
  A chain's first value, and steps of it: the program's and the reference's.
-/
import Derived.Test.YtbkmclgddknijaaSumF
import Derived.Test.YtbkmclgddknijaaRefSum
import Derived.Test.YtbkmclgddknijaaOMath
import Derived.Deep.RegionHeld3
namespace Go.Proofs.Ytbkmclgddknijaa
open Go.RowKit

set_option maxRecDepth 100000 in
set_option maxHeartbeats 400000 in
theorem rh_any (b : ByteArray) (hn : b.size ≤ 1099511627776) (w : World) :
    Calls Try.prog 42 #[.string b] w fun e w' => e = .returned (.string (hB b)) ∧ Below w.heap.size w w' := by
  have HS := Lib.hid (fun W => refsum_any b hn W)
  change Hid (∀ W, Calls Try.prog 48 _ W fun e w' => e = .returned (.string (hB b)) ∧ Below W.heap.size W w') at HS
  generalize hB b = R at *
  go_enter Try.func42, Try.ntmps42
  go_wp2_with fail
  refine (HS.out _).mono ?_
  rintro e w' ⟨rfl, hB⟩
  go_wp2
  go_ret
  exact ⟨rfl, hB⟩

section
attribute [-go_sem] loadVar
set_option maxRecDepth 100000 in
set_option maxHeartbeats 2000000 in
theorem first_any (seed : ByteArray) (hs : seed.size ≤ 1073741824) (q i : Nat) (w : World) :
    Calls Try.prog 34 #[.agg tabV, .string seed, .int .i64 q, .int .i64 i] w fun e w' => e = .returned (.string (firstB seed q i)) ∧ Below w.heap.size w w' := by
  unfold firstB
  have HT := Lib.hid (fun W => text_any seed (by omega) W)
  have HQ := Lib.hid (fun W => number_any q W)
  have HI := Lib.hid (fun W => number_any i W)
  have z1 := txt_size seed; have z2 := num4_size q; have z3 := num4_size i
  generalize txt seed = N1 at *; generalize num4 (q : Int) = N2 at *; generalize num4 (i : Int) = N3 at *
  have z0 : (⟨#[107]⟩ : ByteArray).size = 1 := rfl
  have r1 := addRun (a := ⟨#[107]⟩) (b := N1) (by omega)
  have r2 := addRun (a := ⟨#[107]⟩ ++ N1) (b := N2) (by simp only [ByteArray.size_append]; omega)
  have r3 := addRun (a := ⟨#[107]⟩ ++ N1 ++ N2) (b := N3) (by simp only [ByteArray.size_append]; omega)
  have HS := Lib.hid (fun W => hsum_any (⟨#[107]⟩ ++ N1 ++ N2 ++ N3) (by simp only [ByteArray.size_append]; omega) W)
  generalize hB (⟨#[107]⟩ ++ N1 ++ N2 ++ N3) = R at *
  clear z0 z1 z2 z3 hs
  have hB0 := (Below.refl _ w).alloc (Nat.le_refl _) (.cells tabV 27)
  have hT : Blk (w.alloc (.cells tabV 27)) w.heap.size 27 tabV := Blk.new _ _ _
  go_enter Try.func34, Try.ntmps34
  go_wp2
  generalize w.alloc (.cells tabV 27) = w0 at *
  obtain ⟨B, hBB⟩ : ∃ B, w.heap.size = B := ⟨_, rfl⟩
  rw [hBB] at hB0 hT ⊢
  have HBB := Lib.hid hBB
  clear hBB
  have HKP : Hid (∀ W, Below w0.heap.size w0 W → (loadVar 27 ⟨B, 0, none⟩).run Try.prog W = .ok (.agg tabV) W ∧ Below w0.heap.size w0 W) := Lib.hid fun W hW => ⟨tab_run (hT.below hW hT.lt), hW⟩
  clear hT
  go_region_held3 (fun w' => (loadVar 27 ⟨B, 0, none⟩).run Try.prog w' = .ok (.agg tabV) w' ∧ Below w0.heap.size w0 w')
    ((refine HKP.out _ ?_; first | exact hB4' | exact hB3' | exact hB2' | exact hB1' | exact (Below.refl _ _).drew | exact Below.refl _ _))
    (first
      | (have := hB3'; go_at_call 45; refine (HS.out _).mono ?_; rintro e w4 ⟨rfl, hb4⟩; have hB4' : Below w0.heap.size w0 w4 := hB3'.trans (hb4.mono hB3'.size))
      | (have := hB2'; go_at_call 22; refine (HI.out _).mono ?_; rintro e w3 ⟨rfl, hb3⟩; have hB3' : Below w0.heap.size w0 w3 := hB2'.trans (hb3.mono hB2'.size))
      | (have := hB1'; go_at_call 22; refine (HQ.out _).mono ?_; rintro e w2 ⟨rfl, hb2⟩; have hB2' : Below w0.heap.size w0 w2 := hB1'.trans (hb2.mono hB1'.size))
      | (go_at_call 21; refine (HT.out _).mono ?_; rintro e w1 ⟨rfl, hb1⟩; have hB1' : Below w0.heap.size w0 w1 := (Below.refl _ _).drew.trans hb1))
  have hB6 := hB0.trans (hB4'.mono (by have := hB0.size; have := HBB.out; omega))
  rw [← HBB.out] at hB6
  go_wp2
  go_ret
  exact ⟨rfl, hB6⟩

theorem walkB_le (q i f : Nat) (x : ByteArray) {c : Nat} (hx : x.size ≤ c) (hc : 32 ≤ c) : ∀ n, (walkB q i f x n).size ≤ c
  | 0 => hx
  | n + 1 => by show (hB _).size ≤ _; rw [hB_size]; exact hc
set_option maxRecDepth 100000 in
set_option maxHeartbeats 2000000 in
theorem walk_any (q i f n t : Nat) (x : ByteArray) (hx : x.size ≤ 1073741824) (ht : f + n = t) (ht2 : t ≤ 1073741824) (w : World) :
    Calls Try.prog 33 #[.agg tabV, .int .i64 q, .int .i64 i, .string x, .int .i64 f, .int .i64 t] w fun e w' => e = .returned (.string (walkB q i f x n)) ∧ Below w.heap.size w w' := by
  have HQ := Lib.hid (fun W => number_any q W)
  have HI := Lib.hid (fun W => number_any i W)
  have z1 := num4_size q; have z2 := num4_size i
  have HSZ := Lib.hid (walkB_le q i f x hx (by decide))
  have HST := Lib.hid (show ∀ k, walkB q i f x (k + 1) = hB (⟨#[99]⟩ ++ num4 q ++ num4 i ++ num4 (f + k : Nat) ++ walkB q i f x k) from fun _ => rfl)
  have HW0 := Lib.hid (show walkB q i f x 0 = x from rfl)
  generalize num4 (q : Int) = N1 at *; generalize num4 (i : Int) = N2 at *
  generalize walkB q i f x = WB at *
  have Z1 := Lib.hid z1; have Z2 := Lib.hid z2
  clear z1 z2 hx
  have hB0 := (Below.refl _ w).alloc (Nat.le_refl _) (.cells tabV 27)
  have hT : Blk (w.alloc (.cells tabV 27)) w.heap.size 27 tabV := Blk.new _ _ _
  go_enter Try.func33, Try.ntmps33
  go_wp2
  generalize w.alloc (.cells tabV 27) = w0 at *
  obtain ⟨B, hBB⟩ : ∃ B, w.heap.size = B := ⟨_, rfl⟩
  rw [hBB] at hB0 hT ⊢
  have HBB := Lib.hid hBB
  clear hBB
  go_loopw [3, 13] (fun v j wr => ∃ k : Nat, k ≤ n ∧ j = .int .i64 (f + k : Nat) ∧ v = .string (WB k) ∧ Blk wr B 27 tabV ∧ Below B w wr) (fun _ j _ => t - (intOf j).toNat)
  case atStart => exact ⟨0, by omega, rfl, by rw [HW0.out], hT, hB0⟩
  case round =>
    clear hT hB0
    obtain ⟨k, hk, rfl, rfl, hT, hB⟩ := hrel
    obtain ⟨j, hj⟩ : ∃ j, f + k = j := ⟨_, rfl⟩
    rw [hj]
    by_cases hlt : k < n
    · have hlt' : (j : Int) < (t : Int) := by omega
      have HJ := Lib.hid (fun W => number_any j W)
      have z3 := num4_size j
      have HR := Lib.hid (HST.out k)
      rw [hj] at HR
      generalize num4 (j : Int) = N3 at *
      have z4 := HSZ.out k
      obtain ⟨X, hX⟩ : ∃ X, WB k = X := ⟨_, rfl⟩
      rw [hX] at z4 HR ⊢
      have z1 := Z1.out; have z2 := Z2.out
      have z0 : (⟨#[99]⟩ : ByteArray).size = 1 := rfl
      have r1 := addRun (a := ⟨#[99]⟩) (b := N1) (by omega)
      have r2 := addRun (a := ⟨#[99]⟩ ++ N1) (b := N2) (by simp only [ByteArray.size_append]; omega)
      have r3 := addRun (a := ⟨#[99]⟩ ++ N1 ++ N2) (b := N3) (by simp only [ByteArray.size_append]; omega)
      have r4 := addRun (a := ⟨#[99]⟩ ++ N1 ++ N2 ++ N3) (b := X) (by simp only [ByteArray.size_append]; omega)
      have HS := Lib.hid (fun W => hsum_any (⟨#[99]⟩ ++ N1 ++ N2 ++ N3 ++ X) (by simp only [ByteArray.size_append]; omega) W)
      rw [← HR.out] at HS
      clear z0 z1 z2 z3 z4 hX HR
      obtain ⟨R, hR⟩ : ∃ R, WB (k + 1) = R := ⟨_, rfl⟩
      rw [hR] at HS
      have HR := Lib.hid hR
      clear hR
      have HJ1 := Lib.hid (show ((j : Int) + 1) = ((f + (k + 1) : Nat) : Int) by omega)
      have HJJ := Lib.hid hj
      clear hj
      have HKP : Hid (∀ W, Below wr.heap.size wr W → (loadVar 27 ⟨B, 0, none⟩).run Try.prog W = .ok (.agg tabV) W ∧ Below wr.heap.size wr W) := Lib.hid fun W hW => ⟨tab_run (hT.below hW hT.lt), hW⟩
      have HT := Lib.hid hT
      clear hT
      go_wp2
      go_region_held3 (fun w' => (loadVar 27 ⟨B, 0, none⟩).run Try.prog w' = .ok (.agg tabV) w' ∧ Below wr.heap.size wr w')
        ((refine HKP.out _ ?_; first | exact hB4' | exact hB3' | exact hB2' | exact hB1' | exact (Below.refl _ _).drew | exact Below.refl _ _))
        (first
          | (have := hB3'; go_at_call 45; refine (HS.out _).mono ?_; rintro e w4 ⟨rfl, hb4⟩; have hB4' : Below wr.heap.size wr w4 := hB3'.trans (hb4.mono hB3'.size))
          | (have := hB2'; go_at_call 22; refine (HJ.out _).mono ?_; rintro e w3 ⟨rfl, hb3⟩; have hB3' : Below wr.heap.size wr w3 := hB2'.trans (hb3.mono hB2'.size))
          | (have := hB1'; go_at_call 22; refine (HI.out _).mono ?_; rintro e w2 ⟨rfl, hb2⟩; have hB2' : Below wr.heap.size wr w2 := hB1'.trans (hb2.mono hB1'.size))
          | (go_at_call 22; refine (HQ.out _).mono ?_; rintro e w1 ⟨rfl, hb1⟩; have hB1' : Below wr.heap.size wr w1 := (Below.refl _ _).drew.trans hb1))
      have hB6 := hB.trans (hB4'.mono (by have := hB.size; have := HBB.out; omega))
      have hT6 := HT.out.below hB4' HT.out.lt
      clear hB hB4' hB3' hB2' hB1' hb1 hb2 hb3 hb4 HKP
      go_wp2
      go_roundw
      case rel => exact ⟨k + 1, by omega, by rw [HJ1.out], by rw [HR.out], hT6, hB6⟩
      case measure => have := HJJ.out; simp [intOf]; omega
    · obtain rfl : k = n := by omega
      have hlt' : ¬ (j : Int) < (t : Int) := by omega
      clear hlt
      rw [← HBB.out] at hB
      go_wp2
      go_ret
      exact ⟨rfl, hB⟩
end
end Go.Proofs.Ytbkmclgddknijaa

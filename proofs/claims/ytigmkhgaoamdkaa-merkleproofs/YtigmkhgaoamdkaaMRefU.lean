/-
  Depth, Length, Up: the reference's.
-/
import Derived.Test.YtigmkhgaoamdkaaMBoth
namespace Go.Proofs.Ytigmkhgaoamdkaa
open Go.RowKit

theorem depM_one (i : Nat) : depM i 1 = 0 := by rw [depM, dif_neg (by omega)]
theorem depM_left {i n : Nat} (h2 : 2 ≤ n) (hi : i < kM n) : depM i n = depM i (kM n) + 1 := by rw [depM, dif_pos h2, if_pos hi]
theorem depM_right {i n : Nat} (h2 : 2 ≤ n) (hi : ¬ i < kM n) : depM i n = depM (i - kM n) (n - kM n) + 1 := by rw [depM, dif_pos h2, if_neg hi]
theorem lenM_left {m n : Nat} {b : Bool} (h2 : 2 ≤ n) (h1 : m ≠ n) (hi : m ≤ kM n) : lenM m n b = lenM m (kM n) b + 1 := by rw [lenM, if_neg h1, dif_pos h2, if_pos hi]
theorem lenM_right {m n : Nat} {b : Bool} (h2 : 2 ≤ n) (h1 : m ≠ n) (hi : ¬ m ≤ kM n) : lenM m n b = lenM (m - kM n) (n - kM n) false + 1 := by rw [lenM, if_neg h1, dif_pos h2, if_neg hi]
set_option maxRecDepth 100000 in
set_option maxHeartbeats 2000000 in
theorem depth_any (n : Nat) : ∀ (i : Nat) (_ : i < n) (_ : n ≤ 64) (w : World), Calls Try.prog 17 #[.int .i64 i, .int .i64 n] w fun e w' => e = .returned (.int .i64 (depM i n : Nat)) ∧ w' = w := by
  induction n using Nat.strongRecOn with
  | _ n ih =>
  intro i hi hn w
  by_cases h2 : 2 ≤ n
  · have hn1 : ((n : Int) == 1) = false := by rw [beq_eq_false_iff_ne]; omega
    have HP := Lib.hid (fun W => half_any n h2 hn W)
    have hk1 := kM_lt h2
    have hk0 := kM_pos n
    by_cases hik : i < kM n
    · have hik' : (i : Int) < (kM n : Int) := by omega
      have HL := Lib.hid (fun W => ih (kM n) hk1 i hik (by omega) W)
      have hd := depM_lt (kM n) i
      rw [depM_left h2 hik]
      generalize depM i (kM n) = d at *
      generalize kM n = k at *
      clear ih
      go_enter Try.func17, Try.ntmps17
      go_wp2_with fail
      refine (HP.out _).mono ?_
      rintro e w' ⟨rfl, hw⟩
      rw [hw]
      go_wp2_with fail
      refine (HL.out _).mono ?_
      rintro e w'' ⟨rfl, hw2⟩
      rw [hw2]
      go_wp2
      go_ret
      exact ⟨by go_num, rfl⟩
    · have hik' : ¬ (i : Int) < (kM n : Int) := by omega
      have HL := Lib.hid (fun W => ih (n - kM n) (by omega) (i - kM n) (by omega) (by omega) W)
      rw [show ((i - kM n : Nat) : Int) = (i : Int) - (kM n : Int) by omega, show ((n - kM n : Nat) : Int) = (n : Int) - (kM n : Int) by omega] at HL
      have hd := depM_lt (n - kM n) (i - kM n)
      rw [depM_right h2 hik]
      generalize depM (i - kM n) (n - kM n) = d at *
      generalize kM n = k at *
      clear ih
      go_enter Try.func17, Try.ntmps17
      go_wp2_with fail
      refine (HP.out _).mono ?_
      rintro e w' ⟨rfl, hw⟩
      rw [hw]
      go_wp2_with fail
      refine (HL.out _).mono ?_
      rintro e w'' ⟨rfl, hw2⟩
      rw [hw2]
      go_wp2
      go_ret
      exact ⟨by go_num, rfl⟩
  · obtain rfl : n = 1 := by omega
    rw [depM_one]
    clear ih
    go_enter Try.func17, Try.ntmps17
    go_wp2
    go_ret
    exact ⟨rfl, rfl⟩
set_option maxRecDepth 100000 in
set_option maxHeartbeats 2000000 in
theorem length_any (n : Nat) : ∀ (m : Nat) (b : Bool) (_ : 1 ≤ m) (_ : m ≤ n) (_ : n ≤ 64) (w : World), Calls Try.prog 24 #[.int .i64 m, .int .i64 n, .bool b] w fun e w' => e = .returned (.int .i64 (lenM m n b : Nat)) ∧ w' = w := by
  induction n using Nat.strongRecOn with
  | _ n ih =>
  intro m b hm1 hmn hn w
  by_cases h1 : m = n
  · subst h1
    have hmm : ((m : Int) == (m : Int)) = true := by rw [beq_iff_eq]
    clear ih
    cases b with
    | true =>
      rw [show lenM m m true = 0 by rw [lenM, if_pos rfl, if_pos rfl]]
      go_enter Try.func24, Try.ntmps24
      go_wp2
      go_ret
      exact ⟨rfl, rfl⟩
    | false =>
      rw [show lenM m m false = 1 by rw [lenM, if_pos rfl]; rfl]
      go_enter Try.func24, Try.ntmps24
      go_wp2
      go_ret
      exact ⟨rfl, rfl⟩
  · have hmm : ((m : Int) == (n : Int)) = false := by rw [beq_eq_false_iff_ne]; omega
    have h2 : 2 ≤ n := by omega
    have HP := Lib.hid (fun W => half_any n h2 hn W)
    have hk1 := kM_lt h2
    have hk0 := kM_pos n
    by_cases hik : m ≤ kM n
    · have hik' : (m : Int) ≤ (kM n : Int) := by omega
      have HL := Lib.hid (fun W => ih (kM n) hk1 m b hm1 hik (by omega) W)
      have hd := lenM_le (kM n) m b
      rw [lenM_left h2 h1 hik]
      generalize lenM m (kM n) b = d at *
      generalize kM n = k at *
      clear ih
      go_enter Try.func24, Try.ntmps24
      go_wp2_with fail
      refine (HP.out _).mono ?_
      rintro e w' ⟨rfl, hw⟩
      rw [hw]
      go_wp2_with fail
      refine (HL.out _).mono ?_
      rintro e w'' ⟨rfl, hw2⟩
      rw [hw2]
      go_wp2
      go_ret
      exact ⟨by go_num, rfl⟩
    · have hik' : ¬ (m : Int) ≤ (kM n : Int) := by omega
      have HL := Lib.hid (fun W => ih (n - kM n) (by omega) (m - kM n) false (by omega) (by omega) (by omega) W)
      rw [show ((m - kM n : Nat) : Int) = (m : Int) - (kM n : Int) by omega, show ((n - kM n : Nat) : Int) = (n : Int) - (kM n : Int) by omega] at HL
      have hd := lenM_le (n - kM n) (m - kM n) false
      rw [lenM_right h2 h1 hik]
      generalize lenM (m - kM n) (n - kM n) false = d at *
      generalize kM n = k at *
      clear ih
      go_enter Try.func24, Try.ntmps24
      go_wp2_with fail
      refine (HP.out _).mono ?_
      rintro e w' ⟨rfl, hw⟩
      rw [hw]
      go_wp2_with fail
      refine (HL.out _).mono ?_
      rintro e w'' ⟨rfl, hw2⟩
      rw [hw2]
      go_wp2
      go_ret
      exact ⟨by go_num, rfl⟩

set_option maxRecDepth 100000 in
set_option maxHeartbeats 8000000 in
theorem up_any (n : Nat) : ∀ (leaf : ByteArray) (i : Nat) (oa : Option Addr) (m cap : Nat) (p : List ByteArray) (_ : leaf.size ≤ 1073741824) (_ : i < n) (_ : n ≤ 64) (_ : p.length = m) (_ : m = depM i n) (_ : m ≤ cap) (_ : Sz p) (w0 : World) (_ : Strs w0 oa p),
    Calls Try.prog 23 #[.string leaf, .int .i64 i, .int .i64 n, .slice oa m cap] w0 fun e w' => e = .returned (.string (rebM leaf i n p).1) ∧ Below w0.heap.size w0 w' := by
  induction n using Nat.strongRecOn with
  | _ n ih =>
  intro leaf i oa m cap p hl hi hn hm hmd hcap hz w0 hc0
  by_cases h2 : 2 ≤ n
  · have hn1 : ((n : Int) == 1) = false := by rw [beq_eq_false_iff_ne]; omega
    have HP := Lib.hid (fun W => half_any n h2 hn W)
    have hk1 := kM_lt h2
    have hk0 := kM_pos n
    have ze := endM_sz hz
    have hdn := depM_lt n i
    have z0 : (⟨#[1]⟩ : ByteArray).size = 1 := rfl
    have HCC := Lib.hid hc0.cut
    by_cases hik : i < kM n
    · have hik' : (i : Int) < (kM n : Int) := by omega
      have hd := depM_left h2 hik
      obtain ⟨m1, hm1⟩ : ∃ m1, m = m1 + 1 := ⟨m - 1, by omega⟩
      obtain ⟨a, rfl, hab, hcell⟩ := hc0 m1 (by omega)
      have he : endM p = p.getD m1 ByteArray.empty := by unfold endM; rw [hm, hm1, Nat.add_sub_cancel]
      rw [← he] at hcell
      have HR := Lib.hid (rebM_left (leaf := leaf) h2 (by omega) hik (p := p))
      have HL := Lib.hid (fun W hW => ih (kM n) hk1 leaf i (some a) m1 cap (cutM p) hl hik (by omega) (by rw [cutM_length, hm, hm1, Nat.add_sub_cancel]) (by omega) (by omega) (cutM_sz hz) W hW)
      have zr := rebM_sz i (kM n) (p := cutM p) hl
      have hsl := slice_to (some a) m cap m1 (by omega)
      rw [HR.out]
      show Calls _ _ _ _ fun e w' => e = .returned (.string (nodM (rebM leaf i (kM n) (cutM p)).1 (endM p))) ∧ _
      generalize (rebM leaf i (kM n) (cutM p)).1 = r1 at *
      generalize endM p = x at *
      generalize cutM p = c at *
      have q1 := addRun (a := ⟨#[1]⟩) (b := r1) (by omega)
      have q2 := addRun (a := ⟨#[1]⟩ ++ r1) (b := x) (by simp only [ByteArray.size_append]; omega)
      have HJ := Lib.hid (fun W => rh4_any (⟨#[1]⟩ ++ r1 ++ x) (by simp only [ByteArray.size_append]; omega) W)
      change Hid (∀ W, Calls Try.prog 30 _ W fun e w' => e = .returned (.string (nodM r1 x)) ∧ Below W.heap.size W w') at HJ
      generalize nodM r1 x = R at *
      generalize kM n = k at *
      have hm0 : (0 : Int) ≤ (m1 : Int) := by omega
      have hm3 : (m1 : Int) < (m : Int) := by omega
      have HM := Lib.hid (show (m : Int) - 1 = (m1 : Int) by omega)
      have hm5 : m ≤ 65 := by omega
      have hm4 : m1 ≤ 64 := by omega
      have HKP : Hid (∀ W, Below w0.heap.size w0 W → W.cell? (a.add m1) = some (.string x) ∧ Below w0.heap.size w0 W) := Lib.hid fun W hW => ⟨(hW.cell (by rw [add_block]; exact hab)).trans hcell, hW⟩
      clear ih hz hc0 hm hm1 hmd hdn hd he hcell hl ze zr z0 HR hab
      go_enter Try.func23, Try.ntmps23
      go_wp2_with fail
      refine (HP.out _).mono ?_
      rintro e w' ⟨rfl, hw⟩
      rw [hw]
      clear hw
      go_wp2
      rw [HM.out]
      go_region_held3 (fun w' => w'.cell? (a.add m1) = some (.string x) ∧ Below w0.heap.size w0 w')
        ((refine HKP.out _ ?_; first | exact hB2' | exact hB1' | exact (Below.refl _ _).drew | exact Below.refl _ _))
        (first
          | (have := hB1'; go_at_call 30; refine (HJ.out _).mono ?_; rintro e w2 ⟨rfl, hb2⟩; have hB2' : Below w0.heap.size w0 w2 := hB1'.trans (hb2.mono hB1'.size))
          | (go_at_call 23; refine (HL.out _ (HCC.out.below (Below.refl _ _).drew)).mono ?_; rintro e w1 ⟨rfl, hb1⟩; have hB1' : Below w0.heap.size w0 w1 := (Below.refl _ _).drew.trans hb1))
      go_wp2
      go_ret
      exact ⟨rfl, hB2'⟩
    · have hik' : ¬ (i : Int) < (kM n : Int) := by omega
      have hd := depM_right h2 hik
      obtain ⟨m1, hm1⟩ : ∃ m1, m = m1 + 1 := ⟨m - 1, by omega⟩
      obtain ⟨a, rfl, hab, hcell⟩ := hc0 m1 (by omega)
      have he : endM p = p.getD m1 ByteArray.empty := by unfold endM; rw [hm, hm1, Nat.add_sub_cancel]
      rw [← he] at hcell
      have HR := Lib.hid (rebM_right (leaf := leaf) h2 (by omega) hik (p := p))
      have HL := Lib.hid (fun W hW => ih (n - kM n) (by omega) leaf (i - kM n) (some a) m1 cap (cutM p) hl (by omega) (by omega) (by rw [cutM_length, hm, hm1, Nat.add_sub_cancel]) (by omega) (by omega) (cutM_sz hz) W hW)
      have zr := rebM_sz (i - kM n) (n - kM n) (p := cutM p) hl
      have hsl := slice_to (some a) m cap m1 (by omega)
      have hw1 : IntKind.i64.wrap ((i : Int) - (kM n : Int)) = ((i - kM n : Nat) : Int) := by rw [IntKind.wrap_i64]; omega
      have hw2 : IntKind.i64.wrap ((n : Int) - (kM n : Int)) = ((n - kM n : Nat) : Int) := by rw [IntKind.wrap_i64]; omega
      rw [HR.out]
      show Calls _ _ _ _ fun e w' => e = .returned (.string (nodM (endM p) (rebM leaf (i - kM n) (n - kM n) (cutM p)).1)) ∧ _
      generalize (rebM leaf (i - kM n) (n - kM n) (cutM p)).1 = r1 at *
      generalize endM p = x at *
      generalize cutM p = c at *
      have q1 := addRun (a := ⟨#[1]⟩) (b := x) (by omega)
      have q2 := addRun (a := ⟨#[1]⟩ ++ x) (b := r1) (by simp only [ByteArray.size_append]; omega)
      have HJ := Lib.hid (fun W => rh4_any (⟨#[1]⟩ ++ x ++ r1) (by simp only [ByteArray.size_append]; omega) W)
      change Hid (∀ W, Calls Try.prog 30 _ W fun e w' => e = .returned (.string (nodM x r1)) ∧ Below W.heap.size W w') at HJ
      generalize nodM x r1 = R at *
      generalize i - kM n = i1 at *
      generalize n - kM n = n2 at *
      generalize kM n = k at *
      have hm0 : (0 : Int) ≤ (m1 : Int) := by omega
      have hm3 : (m1 : Int) < (m : Int) := by omega
      have HM := Lib.hid (show (m : Int) - 1 = (m1 : Int) by omega)
      have hm5 : m ≤ 65 := by omega
      have hm4 : m1 ≤ 64 := by omega
      have HKP : Hid (∀ W, Below w0.heap.size w0 W → W.cell? (a.add m1) = some (.string x) ∧ Below w0.heap.size w0 W) := Lib.hid fun W hW => ⟨(hW.cell (by rw [add_block]; exact hab)).trans hcell, hW⟩
      clear ih hz hc0 hm hm1 hmd hdn hd he hcell hl ze zr z0 HR hab
      go_enter Try.func23, Try.ntmps23
      go_wp2_with fail
      refine (HP.out _).mono ?_
      rintro e w' ⟨rfl, hw⟩
      rw [hw]
      clear hw
      go_wp2
      rw [HM.out]
      go_region_held3 (fun w' => w'.cell? (a.add m1) = some (.string x) ∧ Below w0.heap.size w0 w')
        ((refine HKP.out _ ?_; first | exact hB2' | exact hB1' | exact (Below.refl _ _).drew | exact Below.refl _ _))
        (first
          | (have := hB1'; go_at_call 30; refine (HJ.out _).mono ?_; rintro e w2 ⟨rfl, hb2⟩; have hB2' : Below w0.heap.size w0 w2 := hB1'.trans (hb2.mono hB1'.size))
          | (go_at_call 23; refine (HL.out _ (HCC.out.below (Below.refl _ _).drew)).mono ?_; rintro e w1 ⟨rfl, hb1⟩; have hB1' : Below w0.heap.size w0 w1 := (Below.refl _ _).drew.trans hb1))
      go_wp2
      go_ret
      exact ⟨rfl, hB2'⟩
  · obtain rfl : n = 1 := by omega
    rw [rebM_one]
    clear ih hz hc0 hm h2 hl
    go_enter Try.func23, Try.ntmps23
    go_wp2
    go_ret
    exact ⟨rfl, Below.refl _ _⟩
end Go.Proofs.Ytigmkhgaoamdkaa

/-
  rebuildBoth: the program's.
-/
import Derived.Test.YtigmkhgaoamdkaaMVer
namespace Go.Proofs.Ytigmkhgaoamdkaa
open Go.RowKit

theorem botM_whole {m : Nat} {first : ByteArray} (p : List ByteArray) : botM m m first true p = (first, first, p.length == 0) := by rw [botM, if_pos ⟨rfl, rfl⟩]
theorem botM_none {m n : Nat} {first : ByteArray} {b : Bool} {p : List ByteArray} (h : ¬ (m = n ∧ b = true)) (hp : p.length = 0) : botM m n first b p = (⟨#[]⟩, ⟨#[]⟩, false) := by rw [botM, if_neg h, if_pos hp]
theorem botM_same {m : Nat} {first : ByteArray} {p : List ByteArray} (hp : p.length ≠ 0) : botM m m first false p = (endM p, endM p, (cutM p).length == 0) := by rw [botM, if_neg (fun h => by cases h.2), if_neg hp, if_pos rfl]
theorem botM_left {m n : Nat} {first : ByteArray} {b : Bool} {p : List ByteArray} (h2 : 2 ≤ n) (h1 : m ≠ n) (hp : p.length ≠ 0) (hi : m ≤ kM n) :
    botM m n first b p = ((botM m (kM n) first b (cutM p)).1, nodM (botM m (kM n) first b (cutM p)).2.1 (endM p), (botM m (kM n) first b (cutM p)).2.2) := by
  rw [botM, if_neg (fun h => h1 h.1), if_neg hp, if_neg h1, dif_pos h2, if_pos hi]
theorem botM_right {m n : Nat} {first : ByteArray} {b : Bool} {p : List ByteArray} (h2 : 2 ≤ n) (h1 : m ≠ n) (hp : p.length ≠ 0) (hi : ¬ m ≤ kM n) :
    botM m n first b p = (nodM (endM p) (botM (m - kM n) (n - kM n) first false (cutM p)).1, nodM (endM p) (botM (m - kM n) (n - kM n) first false (cutM p)).2.1, (botM (m - kM n) (n - kM n) first false (cutM p)).2.2) := by
  rw [botM, if_neg (fun h => h1 h.1), if_neg hp, if_neg h1, dif_pos h2, if_neg hi]
section
attribute [-go_sem] loadVar
set_option maxRecDepth 100000 in
set_option maxHeartbeats 8000000 in
theorem rebuildBoth_any (n : Nat) : ∀ (m : Nat) (first : ByteArray) (b : Bool) (oa : Option Addr) (q cap : Nat) (p : List ByteArray) (_ : first.size ≤ 1073741824) (_ : 1 ≤ m) (_ : m ≤ n) (_ : n ≤ 256) (_ : p.length = q) (_ : q ≤ 1073741824) (_ : q ≤ cap) (_ : Sz p) (w : World) (_ : Strs w oa p),
    Calls Try.prog 32 #[.agg tabV, .int .i64 m, .int .i64 n, .string first, .bool b, .slice oa q cap] w fun e w' => e = .returned (.tuple #[.string (botM m n first b p).1, .string (botM m n first b p).2.1, .bool (botM m n first b p).2.2]) ∧ Below w.heap.size w w' := by
  induction n using Nat.strongRecOn with
  | _ n ih =>
  intro m first b oa q cap p hl hm1 hmn hn hq hq2 hcap hz w hc
  have hB0 := (Below.refl _ w).alloc (Nat.le_refl _) (.cells tabV 30)
  have hT : Blk (w.alloc (.cells tabV 30)) w.heap.size 30 tabV := Blk.new _ _ _
  have hc0 := hc.below hB0
  clear hc
  by_cases h1 : m = n ∧ b = true
  · obtain ⟨rfl, rfl⟩ := h1
    rw [botM_whole, hq]
    have HQ := Lib.hid (show ((q : Int) == 0) = (q == 0) by rw [Bool.eq_iff_iff, beq_iff_eq, beq_iff_eq]; omega)
    have hmm : ((m : Int) == (m : Int)) = true := by rw [beq_iff_eq]
    clear ih hz hc0 hq hT hl
    go_enter Try.func32, Try.ntmps32
    go_wp2
    go_ret3
    refine ⟨?_, hB0⟩
    rw [← HQ.out]
    rfl
  · have hif : (((m : Int) == (n : Int)) = true ∧ b = true) → False := fun h => h1 ⟨by have := h.1; rw [beq_iff_eq] at this; omega, h.2⟩
    by_cases hp0 : q = 0
    · subst hp0
      rw [botM_none h1 hq]
      have HE := Lib.hid (fun W => takeEnd_none oa cap W)
      clear ih hz hc0 hq hT hl
      by_cases hmn' : m = n
      · subst hmn'
        have hmm : ((m : Int) == (m : Int)) = true := by rw [beq_iff_eq]
        obtain rfl : b = false := by cases b with | true => exact absurd ⟨rfl, rfl⟩ h1 | false => rfl
        clear h1 hif
        go_enter Try.func32, Try.ntmps32
        go_wp2_with fail
        refine (HE.out _).mono ?_
        rintro e w' ⟨rfl, rfl⟩
        go_wp2
        go_ret3
        exact ⟨rfl, hB0⟩
      · have hmm : ((m : Int) == (n : Int)) = false := by rw [beq_eq_false_iff_ne]; omega
        clear h1 hif
        go_enter Try.func32, Try.ntmps32
        go_wp2_with fail
        refine (HE.out _).mono ?_
        rintro e w' ⟨rfl, rfl⟩
        go_wp2
        go_ret3
        exact ⟨rfl, hB0⟩
    · have HE := Lib.hid (fun W hW => takeEnd_any oa q cap p hq (by omega) hq2 hcap W hW)
      have HC := Lib.hid hc0
      have ze := endM_sz hz
      by_cases hmn' : m = n
      · subst hmn'
        have hmm : ((m : Int) == (m : Int)) = true := by rw [beq_iff_eq]
        obtain rfl : b = false := by cases b with | true => exact absurd ⟨rfl, rfl⟩ h1 | false => rfl
        rw [botM_same (by omega)]
        have HQ := Lib.hid (show (((q - 1 : Nat) : Int) == 0) = ((cutM p).length == 0) by rw [cutM_length, hq, Bool.eq_iff_iff, beq_iff_eq, beq_iff_eq]; omega)
        generalize (cutM p).length = cl at *
        generalize endM p = x at *
        generalize q - 1 = q1 at *
        clear h1 hif ih hz hc0 hq hT hl
        go_enter Try.func32, Try.ntmps32
        go_wp2_with fail
        refine (HE.out _ HC.out).mono ?_
        rintro e w1 ⟨rfl, hb1⟩
        have hB1 := hB0.trans (hb1.mono hB0.size)
        clear HC hB0 hb1
        go_wp2
        go_ret3
        refine ⟨?_, hB1⟩
        rw [← HQ.out]
        rfl
      · have hmm : ((m : Int) == (n : Int)) = false := by rw [beq_eq_false_iff_ne]; omega
        have h2 : 2 ≤ n := by omega
        have HP := Lib.hid (fun W => parting_any n h2 hn W)
        have hk1 := kM_lt h2
        have hk0 := kM_pos n
        have HCC := Lib.hid (fun (W : World) (h : Strs W oa p) => h.cut)
        by_cases hik : m ≤ kM n
        · have hik' : (m : Int) ≤ (kM n : Int) := by omega
          have HR := Lib.hid (botM_left (first := first) (b := b) h2 hmn' (by omega) hik (p := p))
          have HL := Lib.hid (fun W hW => ih (kM n) hk1 m first b oa (q - 1) cap (cutM p) hl hm1 hik (by omega) (by rw [cutM_length, hq]) (by omega) (by omega) (cutM_sz hz) W hW)
          have zr := botM_sz m (kM n) b hl (cutM_sz hz)
          have HJ := Lib.hid (fun W => mjoin_any (botM m (kM n) first b (cutM p)).2.1 (endM p) zr.2 ze W)
          rw [HR.out]
          generalize (botM m (kM n) first b (cutM p)).1 = r1 at *
          generalize (botM m (kM n) first b (cutM p)).2.1 = r2 at *
          generalize (botM m (kM n) first b (cutM p)).2.2 = r3 at *
          generalize endM p = x at *
          generalize cutM p = c at *
          generalize nodM r2 x = R at *
          generalize kM n = k at *
          generalize q - 1 = q1 at *
          clear ih hz hc0 HR ze zr hl h1 hif
          go_enter Try.func32, Try.ntmps32
          go_wp2_with fail
          refine (HE.out _ HC.out).mono ?_
          rintro e w1 ⟨rfl, hb1⟩
          have hB1 := hB0.trans (hb1.mono hB0.size)
          have hT1 := hT.below hb1 hT.lt
          have hc1 := HC.out.below hb1
          clear HC hT hB0 hb1
          go_wp2_with fail
          refine (HP.out _).mono ?_
          rintro e w2 ⟨rfl, hw⟩
          rw [hw]
          clear hw
          have hR1 := tab_run hT1
          go_wp2_with fail
          refine (HL.out _ (HCC.out _ hc1)).mono ?_
          rintro e w3 ⟨rfl, hb3⟩
          have hB3 := hB1.trans (hb3.mono hB1.size)
          have hR3 := tab_run (hT1.below hb3 hT1.lt)
          clear hR1 hT1 hc1 hB1 hb3
          go_wp2_with fail
          refine (HJ.out _).mono ?_
          rintro e w4 ⟨rfl, hb4⟩
          have hB4 := hB3.trans (hb4.mono hB3.size)
          clear hR3 hB3 hb4
          go_wp2
          go_ret3
          exact ⟨rfl, hB4⟩
        · have hik' : ¬ (m : Int) ≤ (kM n : Int) := by omega
          have HR := Lib.hid (botM_right (first := first) (b := b) h2 hmn' (by omega) hik (p := p))
          have HL := Lib.hid (fun W hW => ih (n - kM n) (by omega) (m - kM n) first false oa (q - 1) cap (cutM p) hl (by omega) (by omega) (by omega) (by rw [cutM_length, hq]) (by omega) (by omega) (cutM_sz hz) W hW)
          rw [show ((m - kM n : Nat) : Int) = (m : Int) - (kM n : Int) by omega, show ((n - kM n : Nat) : Int) = (n : Int) - (kM n : Int) by omega] at HL
          have zr := botM_sz (m - kM n) (n - kM n) false hl (cutM_sz hz)
          have HJ := Lib.hid (fun W => mjoin_any (endM p) (botM (m - kM n) (n - kM n) first false (cutM p)).1 ze zr.1 W)
          have HJ2 := Lib.hid (fun W => mjoin_any (endM p) (botM (m - kM n) (n - kM n) first false (cutM p)).2.1 ze zr.2 W)
          rw [HR.out]
          generalize (botM (m - kM n) (n - kM n) first false (cutM p)).1 = r1 at *
          generalize (botM (m - kM n) (n - kM n) first false (cutM p)).2.1 = r2 at *
          generalize (botM (m - kM n) (n - kM n) first false (cutM p)).2.2 = r3 at *
          generalize endM p = x at *
          generalize cutM p = c at *
          generalize nodM x r1 = R at *
          generalize nodM x r2 = R2 at *
          generalize kM n = k at *
          generalize q - 1 = q1 at *
          clear ih hz hc0 HR ze zr hl h1 hif
          go_enter Try.func32, Try.ntmps32
          go_wp2_with fail
          refine (HE.out _ HC.out).mono ?_
          rintro e w1 ⟨rfl, hb1⟩
          have hB1 := hB0.trans (hb1.mono hB0.size)
          have hT1 := hT.below hb1 hT.lt
          have hc1 := HC.out.below hb1
          clear HC hT hB0 hb1
          go_wp2_with fail
          refine (HP.out _).mono ?_
          rintro e w2 ⟨rfl, hw⟩
          rw [hw]
          clear hw
          have hR1 := tab_run hT1
          go_wp2_with fail
          refine (HL.out _ (HCC.out _ hc1)).mono ?_
          rintro e w3 ⟨rfl, hb3⟩
          have hB3 := hB1.trans (hb3.mono hB1.size)
          have hT3 := hT1.below hb3 hT1.lt
          clear hR1 hT1 hc1 hB1 hb3
          go_wp2
          obtain ⟨B, hBB⟩ : ∃ B, w.heap.size = B := ⟨_, rfl⟩
          rw [hBB] at hB3 hT3 ⊢
          have hB3s := hB3.size
          have HKP : Hid (∀ W, Below w3.heap.size w3 W → (loadVar 30 ⟨B, 0, none⟩).run Try.prog W = .ok (.agg tabV) W ∧ Below w3.heap.size w3 W) := Lib.hid fun W hW => ⟨tab_run (hT3.below hW hT3.lt), hW⟩
          have HB3 := Lib.hid hB3
          have HTL := Lib.hid hT3.lt
          have HBB := Lib.hid hBB
          clear hT3 hB3 hBB
          go_region_held3 (fun w' => (loadVar 30 ⟨B, 0, none⟩).run Try.prog w' = .ok (.agg tabV) w' ∧ Below w3.heap.size w3 w')
            ((refine HKP.out _ ?_; first | exact hB5' | exact hB4' | exact (Below.refl _ _).drew | exact Below.refl _ _))
            (first
              | (have := hB4'; go_at_call 35; refine (HJ2.out _).mono ?_; rintro e w5 ⟨rfl, hb5⟩; have hB5' : Below w3.heap.size w3 w5 := hB4'.trans (hb5.mono hB4'.size))
              | (go_at_call 35; refine (HJ.out _).mono ?_; rintro e w4 ⟨rfl, hb4⟩; have hB4' : Below w3.heap.size w3 w4 := (Below.refl _ _).drew.trans hb4))
          have hB6 := HB3.out.trans (hB5'.mono (Nat.le_of_lt HTL.out))
          rw [← HBB.out] at hB6
          go_wp2
          go_ret3
          exact ⟨rfl, hB6⟩
end
end Go.Proofs.Ytigmkhgaoamdkaa

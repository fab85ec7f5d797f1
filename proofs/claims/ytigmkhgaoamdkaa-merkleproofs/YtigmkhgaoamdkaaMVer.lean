/-
  Proofs taken from their end: takeEnd, rebuild, Included: the program's.
-/
import Derived.Test.YtigmkhgaoamdkaaMSub
import Derived.OwnWalk
namespace Go.Proofs.Ytigmkhgaoamdkaa
open Go.RowKit

theorem Strs.cut {w : World} {oa : Option Addr} {p : List ByteArray} (h : Strs w oa p) : Strs w oa (cutM p) := h.take _
theorem Strs.drawn {w : World} {oa : Option Addr} {p : List ByteArray} (h : Strs w oa p) (q : Nat) : Strs (w.drewN q) oa p := h
set_option maxRecDepth 100000 in
set_option maxHeartbeats 1000000 in
theorem takeEnd_any (oa : Option Addr) (n cap : Nat) (p : List ByteArray) (hn : p.length = n) (h1 : 1 ≤ n) (hm : n ≤ 1073741824) (hcap : n ≤ cap) (w : World) (hc : Strs w oa p) :
    Calls Try.prog 43 #[.slice oa n cap] w fun e w' => e = .returned (.tuple #[.slice oa (n - 1 : Nat) cap, .string (endM p), .bool true]) ∧ Below w.heap.size w w' := by
  obtain ⟨a, rfl, hab, hcell⟩ := hc (n - 1) (by omega)
  have he : endM p = p.getD (n - 1) ByteArray.empty := by unfold endM; rw [hn]
  rw [← he] at hcell
  have hsl := slice_to (some a) n cap (n - 1) (by omega)
  have hn0 : ((n : Int) == 0) = false := by rw [beq_eq_false_iff_ne]; omega
  generalize endM p = x at *
  obtain ⟨m, rfl⟩ : ∃ m, n = m + 1 := ⟨n - 1, by omega⟩
  rw [Nat.add_sub_cancel] at *
  have HB := Lib.hid (fun q => below_drewN (Below.refl w.heap.size w) q)
  clear he hc hn hab h1
  have e1 : ((m + 1 : Nat) : Int) - 1 = (m : Int) := by omega
  go_enter Try.func43, Try.ntmps43
  go_wp2
  go_quiet (fail)
  go_wp2
  go_ret3
  exact ⟨rfl, HB.out _⟩
set_option maxRecDepth 100000 in
theorem takeEnd_none (oa : Option Addr) (cap : Nat) (w : World) :
    Calls Try.prog 43 #[.slice oa 0 cap] w fun e w' => e = .returned (.tuple #[.slice none 0 0, .string ⟨#[]⟩, .bool false]) ∧ w' = w := by
  go_enter Try.func43, Try.ntmps43
  go_wp2
  go_ret3
  exact ⟨rfl, rfl⟩

theorem rebM_one {leaf : ByteArray} {i : Nat} (p : List ByteArray) : rebM leaf i 1 p = (leaf, p.length == 0) := by rw [rebM, dif_neg (by omega)]
theorem rebM_none {leaf : ByteArray} {i n : Nat} {p : List ByteArray} (h2 : 2 ≤ n) (hp : p.length = 0) : rebM leaf i n p = (⟨#[]⟩, false) := by rw [rebM, dif_pos h2, if_pos hp]
theorem rebM_left {leaf : ByteArray} {i n : Nat} {p : List ByteArray} (h2 : 2 ≤ n) (hp : p.length ≠ 0) (hi : i < kM n) : rebM leaf i n p = (nodM (rebM leaf i (kM n) (cutM p)).1 (endM p), (rebM leaf i (kM n) (cutM p)).2) := by
  rw [rebM, dif_pos h2, if_neg hp, if_pos hi]
theorem rebM_right {leaf : ByteArray} {i n : Nat} {p : List ByteArray} (h2 : 2 ≤ n) (hp : p.length ≠ 0) (hi : ¬ i < kM n) : rebM leaf i n p = (nodM (endM p) (rebM leaf (i - kM n) (n - kM n) (cutM p)).1, (rebM leaf (i - kM n) (n - kM n) (cutM p)).2) := by
  rw [rebM, dif_pos h2, if_neg hp, if_neg hi]
section
attribute [-go_sem] loadVar
set_option maxRecDepth 100000 in
set_option maxHeartbeats 8000000 in
theorem rebuild_any (n : Nat) : ∀ (leaf : ByteArray) (i : Nat) (oa : Option Addr) (m cap : Nat) (p : List ByteArray) (_ : leaf.size ≤ 1073741824) (_ : i < n) (_ : n ≤ 256) (_ : p.length = m) (_ : m ≤ 1073741824) (_ : m ≤ cap) (_ : Sz p) (w : World) (_ : Strs w oa p),
    Calls Try.prog 37 #[.agg tabV, .string leaf, .int .i64 i, .int .i64 n, .slice oa m cap] w fun e w' => e = .returned (.tuple #[.string (rebM leaf i n p).1, .bool (rebM leaf i n p).2]) ∧ Below w.heap.size w w' := by
  induction n using Nat.strongRecOn with
  | _ n ih =>
  intro leaf i oa m cap p hl hi hn hm hm2 hcap hz w hc
  have hB0 := (Below.refl _ w).alloc (Nat.le_refl _) (.cells tabV 30)
  have hT : Blk (w.alloc (.cells tabV 30)) w.heap.size 30 tabV := Blk.new _ _ _
  have hc0 := hc.below hB0
  clear hc
  by_cases h2 : 2 ≤ n
  · have hn1 : ((n : Int) == 1) = false := by rw [beq_eq_false_iff_ne]; omega
    by_cases hp0 : m = 0
    · subst hp0
      rw [rebM_none h2 hm]
      have HE := Lib.hid (fun W => takeEnd_none oa cap W)
      clear ih hz hc0 hm hT hl
      go_enter Try.func37, Try.ntmps37
      go_wp2_with fail
      refine (HE.out _).mono ?_
      rintro e w' ⟨rfl, rfl⟩
      go_wp2
      go_ret2
      exact ⟨rfl, hB0⟩
    · have HE := Lib.hid (fun W hW => takeEnd_any oa m cap p hm (by omega) hm2 hcap W hW)
      have HP := Lib.hid (fun W => parting_any n h2 hn W)
      have hk1 := kM_lt h2
      have hk0 := kM_pos n
      have HC := Lib.hid hc0
      have ze := endM_sz hz
      by_cases hik : i < kM n
      · have hik' : (i : Int) < (kM n : Int) := by omega
        have HR := Lib.hid (rebM_left (leaf := leaf) h2 (by omega) hik (p := p))
        have HL := Lib.hid (fun W hW => ih (kM n) hk1 leaf i oa (m - 1) cap (cutM p) hl hik (by omega) (by rw [cutM_length, hm]) (by omega) (by omega) (cutM_sz hz) W hW)
        have zr := rebM_sz i (kM n) (p := cutM p) hl
        have HJ := Lib.hid (fun W => mjoin_any (rebM leaf i (kM n) (cutM p)).1 (endM p) zr ze W)
        rw [HR.out]
        have HCC := Lib.hid (fun (W : World) (h : Strs W oa p) => h.cut)
        generalize (rebM leaf i (kM n) (cutM p)).1 = r1 at *
        generalize (rebM leaf i (kM n) (cutM p)).2 = r2 at *
        generalize endM p = x at *
        generalize cutM p = c at *
        generalize nodM r1 x = R at *
        generalize kM n = k at *
        generalize m - 1 = m1 at *
        clear ih hz hc0 HR ze zr hl
        go_enter Try.func37, Try.ntmps37
        go_wp2_with fail
        refine (HE.out _ HC.out).mono ?_
        rintro e w1 ⟨rfl, hb1⟩
        have hB1 := hB0.trans (hb1.mono hB0.size)
        have hT1 := hT.below hb1 hT.lt
        have hc1 := HC.out.below hb1
        clear HC hT hB0 hb1
        go_wp2_with fail
        refine (HP.out _).mono ?_
        rintro e w2 ⟨rfl, hw⟩
        rw [hw]
        clear hw
        have hR1 := tab_run hT1
        go_wp2_with fail
        refine (HL.out _ (HCC.out _ hc1)).mono ?_
        rintro e w3 ⟨rfl, hb3⟩
        have hB3 := hB1.trans (hb3.mono hB1.size)
        have hR3 := tab_run (hT1.below hb3 hT1.lt)
        clear hR1 hT1 hc1 hB1 hb3
        go_wp2_with fail
        refine (HJ.out _).mono ?_
        rintro e w4 ⟨rfl, hb4⟩
        have hB4 := hB3.trans (hb4.mono hB3.size)
        clear hR3 hB3 hb4
        go_wp2
        go_ret2
        exact ⟨rfl, hB4⟩
      · have hik' : ¬ (i : Int) < (kM n : Int) := by omega
        have HR := Lib.hid (rebM_right (leaf := leaf) h2 (by omega) hik (p := p))
        have HL := Lib.hid (fun W hW => ih (n - kM n) (by omega) leaf (i - kM n) oa (m - 1) cap (cutM p) hl (by omega) (by omega) (by rw [cutM_length, hm]) (by omega) (by omega) (cutM_sz hz) W hW)
        rw [show ((i - kM n : Nat) : Int) = (i : Int) - (kM n : Int) by omega, show ((n - kM n : Nat) : Int) = (n : Int) - (kM n : Int) by omega] at HL
        have zr := rebM_sz (i - kM n) (n - kM n) (p := cutM p) hl
        have HJ := Lib.hid (fun W => mjoin_any (endM p) (rebM leaf (i - kM n) (n - kM n) (cutM p)).1 ze zr W)
        rw [HR.out]
        have HCC := Lib.hid (fun (W : World) (h : Strs W oa p) => h.cut)
        generalize (rebM leaf (i - kM n) (n - kM n) (cutM p)).1 = r1 at *
        generalize (rebM leaf (i - kM n) (n - kM n) (cutM p)).2 = r2 at *
        generalize endM p = x at *
        generalize cutM p = c at *
        generalize nodM x r1 = R at *
        generalize kM n = k at *
        generalize m - 1 = m1 at *
        clear ih hz hc0 HR ze zr hl
        go_enter Try.func37, Try.ntmps37
        go_wp2_with fail
        refine (HE.out _ HC.out).mono ?_
        rintro e w1 ⟨rfl, hb1⟩
        have hB1 := hB0.trans (hb1.mono hB0.size)
        have hT1 := hT.below hb1 hT.lt
        have hc1 := HC.out.below hb1
        clear HC hT hB0 hb1
        go_wp2_with fail
        refine (HP.out _).mono ?_
        rintro e w2 ⟨rfl, hw⟩
        rw [hw]
        clear hw
        have hR1 := tab_run hT1
        go_wp2_with fail
        refine (HL.out _ (HCC.out _ hc1)).mono ?_
        rintro e w3 ⟨rfl, hb3⟩
        have hB3 := hB1.trans (hb3.mono hB1.size)
        have hR3 := tab_run (hT1.below hb3 hT1.lt)
        clear hR1 hT1 hc1 hB1 hb3
        go_wp2_with fail
        refine (HJ.out _).mono ?_
        rintro e w4 ⟨rfl, hb4⟩
        have hB4 := hB3.trans (hb4.mono hB3.size)
        clear hR3 hB3 hb4
        go_wp2
        go_ret2
        exact ⟨rfl, hB4⟩
  · obtain rfl : n = 1 := by omega
    rw [rebM_one, hm]
    clear ih hz hc0 hm h2 hT hl
    have HQ := Lib.hid (show ((m : Int) == 0) = (m == 0) by rw [Bool.eq_iff_iff, beq_iff_eq, beq_iff_eq]; omega)
    go_enter Try.func37, Try.ntmps37
    go_wp2
    go_ret2
    refine ⟨?_, hB0⟩
    rw [← HQ.out]
    rfl
end
end Go.Proofs.Ytigmkhgaoamdkaa

/-
  Layer 8, the reference: a claim's root; Few; the law's awake and root.
-/
import Derived.Test.YtfhfmfcmkiobdaaCRef
import Derived.Test.YtfhfmfcmkiobdaaCWeak
namespace Go.Proofs.Ytfhfmfcmkiobdaa
open Go.RowKit

set_option maxRecDepth 100000 in
set_option maxHeartbeats 2000000 in
theorem rroot8_bad (qh : Nat) (hq : qh < 256) (lf : ByteArray) (I N : Int) (oa : Option Addr) (len cap : Nat) (ss : List ByteArray) (hl : ss.length = len) (hm : len ≤ 9223372036854775807) (hsz : ∀ s ∈ ss, s.size ≤ 9223372036854775807) (w : World) (hc : Strs w oa ss)
    (hbad : I < 0 ∨ N < 1 ∨ 1048576 < N ∨ N ≤ I ∨ allC ss = false) :
    Calls Try.prog 10 #[.int .u8 qh, .agg #[.string lf, .int .i64 I, .int .i64 N, .slice oa len cap]] w fun e w' => e = .returned (.tuple #[.string ⟨#[]⟩, .bool false]) ∧ Below w.heap.size w w' := by
  obtain ⟨B, hB⟩ : ∃ B, w.heap.size = B := ⟨_, rfl⟩
  obtain ⟨w0, hw0⟩ : ∃ w0, w.alloc (.cells #[.string lf, .int .i64 I, .int .i64 N, .slice oa len cap] 24) = w0 := ⟨_, rfl⟩
  have hT : Blk w0 B 24 #[.string lf, .int .i64 I, .int .i64 N, .slice oa len cap] := by rw [← hw0, ← hB]; exact Blk.new _ _ _
  have hB0 : Below w.heap.size w w0 := by rw [← hw0]; exact (Below.refl _ w).alloc (Nat.le_refl _) _
  have HW0 := Lib.hid hw0
  have c1 := hT.cell 1
  have c2 := hT.cell 2
  have c3 := hT.cell 3
  have HB0 := Lib.hid hB0
  have HG := Lib.hid (good_any oa len cap ss hl hm hsz w0 (hc.below hB0))
  rw [hB] at HB0 ⊢
  clear hw0 hT hB0 hc hsz hl
  by_cases n1 : I < 0
  · clear hbad
    go_enter Try.func10, Try.ntmps10
    go_wp2_with (rw [HW0.out])
    go_ret2
    exact ⟨rfl, HB0.out⟩
  · by_cases n2 : N < 1
    · clear hbad
      go_enter Try.func10, Try.ntmps10
      go_wp2_with (rw [HW0.out])
      go_ret2
      exact ⟨rfl, HB0.out⟩
    · by_cases n3 : 1048576 < N
      · clear hbad
        go_enter Try.func10, Try.ntmps10
        go_wp2_with (rw [HW0.out])
        go_ret2
        exact ⟨rfl, HB0.out⟩
      · by_cases n4 : N ≤ I
        · clear hbad
          go_enter Try.func10, Try.ntmps10
          go_wp2_with (rw [HW0.out])
          go_ret2
          exact ⟨rfl, HB0.out⟩
        · have n5 : allC ss = false := by
            rcases hbad with h | h | h | h | h
            · omega
            · omega
            · omega
            · omega
            · exact h
          rw [n5] at HG
          clear hbad n5
          go_enter Try.func10, Try.ntmps10
          go_wp2_with (first | rw [HW0.out] | (go_at_call 21; refine HG.out.mono ?_; rintro e w' ⟨rfl, hw'⟩; rw [hw']; clear hw' w'))
          go_ret2
          exact ⟨rfl, HB0.out⟩
theorem rt_up (h : ByteArray → ByteArray) (lf : ByteArray) (P : List ByteArray) (i n : Nat) (h1 : 1 ≤ n) : rtC h (opn h lf i n P) = if (upC h (h lf) i n P).2 = true then ((upC h (h lf) i n P).1, true) else (⟨#[]⟩, false) := by
  rcases up_opn h lf P i n h1 with ⟨a, x, N, b, c⟩ | ⟨a, b⟩
  · rw [if_pos a, b, c]; rfl
  · rw [b, a]; rfl
set_option maxRecDepth 100000 in
set_option maxHeartbeats 4000000 in
theorem rroot8_in {qh : Nat} (hq : qh < 256) {h : ByteArray → ByteArray} (HH : HashC qh h) (h32 : ∀ s, (h s).size = 32) (lf : ByteArray) (hlf : lf.size ≤ 200) (i n : Nat) (hi : i < n) (hn : n ≤ 1048576) (oa : Option Addr) (len cap : Nat) (ss : List ByteArray) (hl : ss.length = len) (hm : len ≤ 40) (hcap : len ≤ cap) (hall : allC ss = true) (w : World) (hc : Strs w oa ss) :
    Calls Try.prog 10 #[.int .u8 qh, .agg #[.string lf, .int .i64 i, .int .i64 n, .slice oa len cap]] w fun e w' => e = .returned (.tuple #[.string (rtC h (opn h (⟨#[0]⟩ ++ lf) i n ss.reverse)).1, .bool (rtC h (opn h (⟨#[0]⟩ ++ lf) i n ss.reverse)).2]) ∧ Below w.heap.size w w' := by
  obtain ⟨B, hB⟩ : ∃ B, w.heap.size = B := ⟨_, rfl⟩
  obtain ⟨w0, hw0⟩ : ∃ w0, w.alloc (.cells #[.string lf, .int .i64 i, .int .i64 n, .slice oa len cap] 24) = w0 := ⟨_, rfl⟩
  have hT : Blk w0 B 24 #[.string lf, .int .i64 i, .int .i64 n, .slice oa len cap] := by rw [← hw0, ← hB]; exact Blk.new _ _ _
  have hB0 : Below w.heap.size w w0 := by rw [← hw0]; exact (Below.refl _ w).alloc (Nat.le_refl _) _
  have HW0 := Lib.hid hw0
  have c1 := hT.cell 1
  have c2 := hT.cell 2
  have c3 := hT.cell 3
  have hc0 := hc.below hB0
  have HG := Lib.hid (good_any oa len cap ss hl (by omega) (fun s hs => by have := allC_at hall hs; omega) w0 hc0)
  rw [hall] at HG
  have z0 : (⟨#[0]⟩ : ByteArray).size = 1 := rfl
  have a1 := addRun (a := ⟨#[0]⟩) (b := lf) (by omega)
  have HJ := Lib.hid (fun W => HH (⟨#[0]⟩ ++ lf) W (by rw [ByteArray.size_append]; omega))
  have HU := Lib.hid (fun W hW => rup_any HH h32 (h (⟨#[0]⟩ ++ lf)) (h32 _) len i n oa cap ss hi hn hl (by omega) hcap (fun s hs => allC_at hall hs) W hW)
  rw [rt_up h _ _ i n (by omega)]
  generalize upC h (h (⟨#[0]⟩ ++ lf)) i n ss.reverse = T at *
  generalize h (⟨#[0]⟩ ++ lf) = X at *
  obtain ⟨r, b⟩ := T
  have HKP : Hid (∀ W, Below w0.heap.size w0 W → (W.cell? ⟨B, 0, none⟩ = some (.string lf) ∧ W.cell? ⟨B, 1, none⟩ = some (.int .i64 (i : Int)) ∧ W.cell? ⟨B, 2, none⟩ = some (.int .i64 (n : Int)) ∧ W.cell? ⟨B, 3, none⟩ = some (.slice oa len cap)) ∧ Below w0.heap.size w0 W) :=
    Lib.hid fun W hW => ⟨⟨(hT.below hW hT.lt).cell 0, (hT.below hW hT.lt).cell 1, (hT.below hW hT.lt).cell 2, (hT.below hW hT.lt).cell 3⟩, hW⟩
  have HB0 := Lib.hid hB0
  have HS0 := Lib.hid hc0
  have n1 : ¬ (n : Int) < 1 := by omega
  have n2 : ¬ (1048576 : Int) < (n : Int) := by omega
  have n3 : ¬ (i : Int) < 0 := by omega
  have n4 : ¬ (n : Int) ≤ (i : Int) := by omega
  clear hw0 hT hB0 hc hl hall hc0 z0 h32
  cases b
  all_goals
    go_enter Try.func10, Try.ntmps10
    go_wp2_with (first | rw [HW0.out] | (go_at_call 21; refine HG.out.mono ?_; rintro e w' ⟨rfl, hw'⟩; rw [hw']; clear hw' w'))
    clear c1 c2 c3 n1 n2 n3 n4
    go_region_held3 (fun W => (W.cell? ⟨B, 0, none⟩ = some (.string lf) ∧ W.cell? ⟨B, 1, none⟩ = some (.int .i64 (i : Int)) ∧ W.cell? ⟨B, 2, none⟩ = some (.int .i64 (n : Int)) ∧ W.cell? ⟨B, 3, none⟩ = some (.slice oa len cap)) ∧ Below w0.heap.size w0 W)
      ((refine HKP.out _ ?_; first | exact hB2' | exact hB1' | exact (Below.refl _ _).drew | exact Below.refl _ _))
      (first
        | (have := hB1'; go_at_call 22; refine (HU.out _ (HS0.out.below hB1')).mono ?_; rintro e w2 ⟨rfl, hb2⟩; have hB2' : Below w0.heap.size w0 w2 := hB1'.trans (hb2.mono hB1'.size))
        | (go_at_call 23; refine (HJ.out _).mono ?_; rintro e w1 ⟨rfl, hb1⟩; have hB1' : Below w0.heap.size w0 w1 := (Below.refl _ _).drew.trans hb1))
    have hBf := HB0.out.trans (hB2'.mono HB0.out.size)
    rw [hB] at hBf
    clear HKP HU HJ hb1 hb2 hB1' hB2'
    go_wp2
    go_ret2
    exact ⟨rfl, hBf⟩
theorem rroot8_any {qh : Nat} (hq : qh < 256) {h : ByteArray → ByteArray} (HH : HashC qh h) (h32 : ∀ s, (h s).size = 32) (c : Clm) (w : World) (hc : c.ok w) :
    Calls Try.prog 10 #[.int .u8 qh, c.val] w fun e w' => e = .returned (.tuple #[.string (rtC h (opC h c)).1, .bool (rtC h (opC h c)).2]) ∧ Below w.heap.size w w' := by
  obtain ⟨lf, I, N, oa, len, cap, ss⟩ := c
  by_cases hf : (⟨lf, I, N, oa, len, cap, ss⟩ : Clm).fits
  · unfold opC
    rw [if_pos hf]
    obtain ⟨n1, n2, n3, ha⟩ := hf
    change 0 ≤ I at n1
    change I < N at n2
    change N ≤ 1048576 at n3
    obtain ⟨i, rfl⟩ := Int.eq_ofNat_of_zero_le n1
    obtain ⟨n, rfl⟩ := Int.eq_ofNat_of_zero_le (a := N) (by omega)
    exact rroot8_in hq HH h32 lf hc.lfs i n (by omega) (by omega) oa len cap ss hc.len hc.sm hc.cl ha w hc.strs
  · unfold opC
    rw [if_neg hf]
    refine rroot8_bad qh hq lf I N oa len cap ss hc.len hc.few hc.sz w hc.strs ?_
    by_cases ha : allC ss = true
    · have : ¬ (0 ≤ I ∧ I < N ∧ N ≤ 1048576) := fun k => hf ⟨k.1, k.2.1, k.2.2, ha⟩
      omega
    · exact .inr (.inr (.inr (.inr (by simpa using ha))))
end Go.Proofs.Ytfhfmfcmkiobdaa

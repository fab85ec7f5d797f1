/-
  Layer 8: Few; the law's awake and root.
-/
import Derived.Test.YtfhfmfcmkiobdaaCRefR
namespace Go.Proofs.Ytfhfmfcmkiobdaa
open Go.RowKit

def RF8 (k m : Nat) (B : Nat) (w : World) (e : Ending) (w' : World) : Prop := (∃ b : Bool, e = .returned (.bool b) ∧ (b = true → k ≤ 40 ∧ m ≤ 100)) ∧ Below B w w'
set_option maxRecDepth 100000 in
set_option maxHeartbeats 2000000 in
theorem few8_any (c : Clm) (w : World) (hc : c.raw w) :
    Calls Try.prog 8 #[c.val] w (RF8 c.len c.lf.size w.heap.size w) := by
  obtain ⟨lf, I, N, oa, len, cap, ss⟩ := c
  show Calls _ _ #[.agg #[.string lf, .int .i64 I, .int .i64 N, .slice oa len cap]] _ (RF8 len lf.size w.heap.size w)
  have hm : len ≤ 9223372036854775807 := hc.few
  have hl : lf.size ≤ 9223372036854775807 := hc.lfs
  have HN : Hid (ss.length = len) := Lib.hid hc.len
  have HSZ := Lib.hid (ss_sizeC (ss := ss) hc.sz)
  obtain ⟨B, hB⟩ : ∃ B, w.heap.size = B := ⟨_, rfl⟩
  obtain ⟨w0, hw0⟩ : ∃ w0, w.alloc (.cells #[.string lf, .int .i64 I, .int .i64 N, .slice oa len cap] 24) = w0 := ⟨_, rfl⟩
  have hT : Blk w0 B 24 #[.string lf, .int .i64 I, .int .i64 N, .slice oa len cap] := by rw [← hw0, ← hB]; exact Blk.new _ _ _
  have hB0 : Below w.heap.size w w0 := by rw [← hw0]; exact (Below.refl _ w).alloc (Nat.le_refl _) _
  have HW0 := Lib.hid hw0
  have HC : Hid (Strs w0 oa ss) := Lib.hid (Strs.below (ss := ss) hc.strs hB0)
  have c0 := hT.cell 0
  have c3 := hT.cell 3
  rw [hB] at hB0 ⊢
  have HB0 := Lib.hid hB0
  clear hw0 hT hc hB0
  go_enter Try.func8, Try.ntmps8
  go_wp2_with (rw [HW0.out])
  go_loop [3] (fun i => ∃ j : Nat, j ≤ len ∧ j ≤ 60 ∧ i = .int .i64 j) (fun i => 61 - (intOf i).toNat)
  case atStart => exact ⟨0, by omega, by omega, rfl⟩
  case round =>
    obtain ⟨j, hj, hj6, rfl⟩ := hrel
    by_cases hlt : j < len
    · have hlt1 : (j : Int) < (len : Int) := by omega
      by_cases hl6 : j < 60
      · have hl6' : (j : Int) < 60 := by omega
        obtain ⟨a, rfl, hab, hcell⟩ := HC.out j (by have := HN.out; omega)
        have hxz := HSZ.out j
        generalize ss.getD j ByteArray.empty = x at *
        by_cases hz : x.size ≤ 40
        · have hz1 : ¬ (40 : Int) < (x.size : Int) := by omega
          go_wp2
          go_round
          case rel => exact ⟨j + 1, by omega, by omega, by go_num⟩
          case measure => simp [intOf]; omega
        · have hz1 : (40 : Int) < (x.size : Int) := by omega
          go_wp2
          go_ret
          exact ⟨⟨false, rfl, fun h => by cases h⟩, HB0.out⟩
      · have hl6' : ¬ (j : Int) < 60 := by omega
        have hn4 : ¬ (len : Int) ≤ 40 := by omega
        go_wp2
        go_ret
        exact ⟨⟨false, rfl, fun h => by cases h⟩, HB0.out⟩
    · have hlt1 : ¬ (j : Int) < (len : Int) := by omega
      by_cases h4 : len ≤ 40
      · have hn4 : (len : Int) ≤ 40 := by omega
        by_cases h1 : lf.size ≤ 100
        · have hn1 : (lf.size : Int) ≤ 100 := by omega
          go_wp2
          go_ret
          exact ⟨⟨true, rfl, fun _ => ⟨h4, h1⟩⟩, HB0.out⟩
        · have hn1 : ¬ (lf.size : Int) ≤ 100 := by omega
          go_wp2
          go_ret
          exact ⟨⟨false, rfl, fun h => by cases h⟩, HB0.out⟩
      · have hn4 : ¬ (len : Int) ≤ 40 := by omega
        go_wp2
        go_ret
        exact ⟨⟨false, rfl, fun h => by cases h⟩, HB0.out⟩
/-- the claim that awake asks of -/
def clA : Clm := ⟨⟨#[97]⟩, 0, 1, none, 0, 0, []⟩
theorem clA_ok (w : World) : clA.ok w := ⟨fun i hi => absurd hi (by simp [clA]), rfl, by decide, by decide, by decide, by decide, fun s hs => by simp [clA] at hs, by decide, by decide⟩
theorem clA_root (h : ByteArray → ByteArray) : (rtC h (opC h clA)).2 = true := by
  unfold opC
  rw [if_pos ⟨by decide, by decide, by decide, by unfold allC; simp [clA]⟩]
  rfl
set_option maxRecDepth 100000 in
theorem awake8_any (w : World) : Calls Try.prog 7 #[] w fun e w' => e = .returned (.bool true) ∧ Below w.heap.size w w' := by
  have H := Lib.hid (fun W => croot_any hsh_two clA W (clA_ok W))
  rw [clA_root] at H
  generalize (rtC (wkH 2) (opC (wkH 2) clA)).1 = R at *
  change Hid (∀ W, Calls _ _ #[_, .agg #[.string ⟨#[97]⟩, .int .i64 0, .int .i64 1, .slice none 0 0]] W _) at H
  go_enter Try.func7, Try.ntmps7
  go_wp2_with fail
  refine (H.out _).mono ?_
  rintro e w' ⟨rfl, hb⟩
  go_wp2
  go_ret
  exact ⟨rfl, hb⟩
section
attribute [-go_sem] loadVar
set_option maxRecDepth 100000 in
set_option maxHeartbeats 1000000 in
theorem lroot_any (q : Nat) (hq : q < 256) (c : Clm) (w : World) (hc : c.ok w) :
    Calls Try.prog 9 #[.int .u8 q, c.val] w fun e w' => e = .returned (.tuple #[.string (rtC (hF q) (opC (hF q) c)).1, .bool (rtC (hF q) (opC (hF q) c)).2]) ∧ Below w.heap.size w w' := by
  have HC := Lib.hid hc
  clear hc
  have H0 := Lib.hid (fun (h0 : q % 3 = 0) W hW => by have := croot_any hsh_two c W hW; rw [← hF0 h0] at this; exact this)
  have H1 := Lib.hid (fun (h0 : q % 3 = 1) W hW => by have := croot_any hsh_five c W hW; rw [← hF1 h0] at this; exact this)
  have H2 := Lib.hid (fun (h0 : q % 3 = 2) W hW => by have := croot_any hsh_full c W hW; rw [← hF2 h0] at this; exact this)
  generalize rtC (hF q) (opC (hF q) c) = T at *
  obtain ⟨r, b⟩ := T
  obtain ⟨lf, I, N, oa, len, cap, ss⟩ := c
  change Hid (_ → ∀ W, _ → Calls _ _ #[_, .agg #[.string lf, .int .i64 I, .int .i64 N, .slice oa len cap]] W fun e w' => e = .returned (.tuple #[.string r, .bool b]) ∧ _) at H0
  change Hid (_ → ∀ W, _ → Calls _ _ #[_, .agg #[.string lf, .int .i64 I, .int .i64 N, .slice oa len cap]] W fun e w' => e = .returned (.tuple #[.string r, .bool b]) ∧ _) at H1
  change Hid (_ → ∀ W, _ → Calls _ _ #[_, .agg #[.string lf, .int .i64 I, .int .i64 N, .slice oa len cap]] W fun e w' => e = .returned (.tuple #[.string r, .bool b]) ∧ _) at H2
  show Calls _ _ #[_, .agg #[.string lf, .int .i64 I, .int .i64 N, .slice oa len cap]] _ fun e w' => e = .returned (.tuple #[.string r, .bool b]) ∧ _
  obtain ⟨B, hB⟩ : ∃ B, w.heap.size = B := ⟨_, rfl⟩
  obtain ⟨w0, hw0⟩ : ∃ w0, w.alloc (.cells #[.string lf, .int .i64 I, .int .i64 N, .slice oa len cap] 24) = w0 := ⟨_, rfl⟩
  have hT : Blk w0 B 24 #[.string lf, .int .i64 I, .int .i64 N, .slice oa len cap] := by rw [← hw0, ← hB]; exact Blk.new _ _ _
  have hB0 : Below w.heap.size w w0 := by rw [← hw0]; exact (Below.refl _ w).alloc (Nat.le_refl _) _
  have HW0 := Lib.hid hw0
  have lc := ld_clm hT
  have hC0 := HC.out.below hB0
  have HB0 := Lib.hid hB0
  clear hw0 hT hB0
  rcases (show q % 3 = 0 ∨ q % 3 = 1 ∨ q % 3 = 2 by omega) with h | h | h
  · have e : (q : Int) % 3 = 0 := by omega
    have H := Lib.hid (H0.out h _ hC0)
    clear H0 H1 H2 h
    go_enter Try.func9, Try.ntmps9
    go_wp2_with (first | rw [HW0.out])
    refine H.out.mono ?_
    rintro e w' ⟨rfl, hb⟩
    go_wp2
    go_ret2
    exact ⟨rfl, HB0.out.trans (hb.mono HB0.out.size)⟩
  · have e : (q : Int) % 3 = 1 := by omega
    have H := Lib.hid (H1.out h _ hC0)
    clear H0 H1 H2 h
    go_enter Try.func9, Try.ntmps9
    go_wp2_with (first | rw [HW0.out])
    refine H.out.mono ?_
    rintro e w' ⟨rfl, hb⟩
    go_wp2
    go_ret2
    exact ⟨rfl, HB0.out.trans (hb.mono HB0.out.size)⟩
  · have e : (q : Int) % 3 = 2 := by omega
    have H := Lib.hid (H2.out h _ hC0)
    clear H0 H1 H2 h
    go_enter Try.func9, Try.ntmps9
    go_wp2_with (first | rw [HW0.out])
    refine H.out.mono ?_
    rintro e w' ⟨rfl, hb⟩
    go_wp2
    go_ret2
    exact ⟨rfl, HB0.out.trans (hb.mono HB0.out.size)⟩
set_option maxRecDepth 100000 in
set_option maxHeartbeats 2000000 in
theorem law_roots8 (q : Int) (hq : 0 ≤ q ∧ q ≤ 255) (c : Clm) (w : World) (hc : c.raw w) :
    Calls Try.prog 3 #[.int .u8 q, c.val] w fun e w' => e = .returned (.bool true) ∧ Below w.heap.size w w' := by
  obtain ⟨q, rfl⟩ := Int.eq_ofNat_of_zero_le hq.1
  have HA := Lib.hid awake8_any
  have HF := Lib.hid (fun W hW => few8_any c W hW)
  have HL := Lib.hid (fun (hs : c.len ≤ 40 ∧ c.lf.size ≤ 100) W (hW : c.raw W) => lroot_any q (by omega) c W (hW.ok hs.2 hs.1))
  have HR := Lib.hid (fun (hs : c.len ≤ 40 ∧ c.lf.size ≤ 100) W (hW : c.raw W) => rroot8_any (by omega) (hash_any q (by omega)) (hF_size q) c W (hW.ok hs.2 hs.1))
  have HC := Lib.hid hc
  clear hc
  generalize rtC (hF q) (opC (hF q) c) = T at *
  obtain ⟨r, b⟩ := T
  obtain ⟨lf, I, N, oa, len, cap, ss⟩ := c
  change Hid (∀ W, _ → Calls _ _ #[.agg #[.string lf, .int .i64 I, .int .i64 N, .slice oa len cap]] W (RF8 len lf.size W.heap.size W)) at HF
  change Hid (len ≤ 40 ∧ lf.size ≤ 100 → ∀ W, _ → Calls _ _ #[_, .agg #[.string lf, .int .i64 I, .int .i64 N, .slice oa len cap]] W fun e w' => e = .returned (.tuple #[.string r, .bool b]) ∧ _) at HL
  change Hid (len ≤ 40 ∧ lf.size ≤ 100 → ∀ W, _ → Calls _ _ #[_, .agg #[.string lf, .int .i64 I, .int .i64 N, .slice oa len cap]] W fun e w' => e = .returned (.tuple #[.string r, .bool b]) ∧ _) at HR
  show Calls _ _ #[_, .agg #[.string lf, .int .i64 I, .int .i64 N, .slice oa len cap]] _ _
  obtain ⟨B, hB⟩ : ∃ B, w.heap.size = B := ⟨_, rfl⟩
  obtain ⟨w0, hw0⟩ : ∃ w0, w.alloc (.cells #[.string lf, .int .i64 I, .int .i64 N, .slice oa len cap] 24) = w0 := ⟨_, rfl⟩
  have hT : Blk w0 B 24 #[.string lf, .int .i64 I, .int .i64 N, .slice oa len cap] := by rw [← hw0, ← hB]; exact Blk.new _ _ _
  have hB0 : Below w.heap.size w w0 := by rw [← hw0]; exact (Below.refl _ w).alloc (Nat.le_refl _) _
  have HW0 := Lib.hid hw0
  have hx : (r.toList == r.toList) = true := by simp
  have hy : (b == b) = true := by simp
  clear hw0
  go_enter Try.func3, Try.ntmps3
  go_wp2_with (first | rw [HW0.out])
  refine (HA.out _).mono ?_
  rintro e w1 ⟨rfl, hb1⟩
  have hT1 := hT.below hb1 hT.lt
  have hB1 := hB0.trans (hb1.mono hB0.size)
  have l1 := ld_clm hT1
  clear hT hb1 hB0
  go_wp2_with fail
  refine (HF.out _ (HC.out.below (hB1))).mono ?_
  rintro e w2 ⟨⟨bf, rfl, hbf⟩, hb2⟩
  have hT2 := hT1.below hb2 hT1.lt
  have hB2 := hB1.trans (hb2.mono hB1.size)
  have l2 := ld_clm hT2
  clear hT1 hb2 hB1 l1
  cases bf
  · clear hbf
    go_wp2_with fail
    refine (HA.out _).mono ?_
    rintro e w3 ⟨rfl, hb3⟩
    have hB3 := hB2.trans (hb3.mono hB2.size)
    go_wp2
    go_ret
    exact ⟨rfl, hB3⟩
  · have hs := hbf rfl
    have HS := Lib.hid hs
    clear hbf hs
    go_wp2_with fail
    refine (HL.out HS.out _ (HC.out.below (hB2))).mono ?_
    rintro e w3 ⟨rfl, hb3⟩
    have hT3 := hT2.below hb3 hT2.lt
    have hB3 := hB2.trans (hb3.mono hB2.size)
    have l3 := ld_clm hT3
    clear hT2 hb3 hB2 l2
    go_wp2_with fail
    refine (HR.out HS.out _ (HC.out.below (hB3))).mono ?_
    rintro e w4 ⟨rfl, hb4⟩
    have hB4 := hB3.trans (hb4.mono hB3.size)
    clear hT3 hb4 hB3 l3
    go_wp2
    go_ret
    exact ⟨rfl, hB4⟩
end
end Go.Proofs.Ytfhfmfcmkiobdaa

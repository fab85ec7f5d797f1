/-
  Layer 8: two leaves at one place of one tree: the program's.
-/
import Derived.Test.YtfhfmfcmkiobdaaCUnlike
import Derived.Test.YtfhfmfcmkiobdaaCWeak
import Derived.Test.YtfhfmfcmkiobdaaCRef
namespace Go.Proofs.Ytfhfmfcmkiobdaa
open Go.RowKit

def clC (a b : Clm) : Bool := decide (a.I = b.I ∧ a.lf ≠ b.lf)
def holC (h : ByteArray → ByteArray) (r : ByteArray) (c : Clm) : Bool := decide (rtC h (opC h c) = (r, true))
set_option maxRecDepth 100000 in
set_option maxHeartbeats 1000000 in
theorem clash_any (a b : Clm) (w : World) : Calls Try.prog 32 #[a.val, b.val] w fun e w' => e = .returned (.bool (clC a b)) ∧ Below w.heap.size w w' := by
  obtain ⟨lf, I, N, oa, len, cap, ss⟩ := a
  obtain ⟨lf', I', N', oa', len', cap', ss'⟩ := b
  obtain ⟨c, hcc⟩ : ∃ c, clC ⟨lf, I, N, oa, len, cap, ss⟩ ⟨lf', I', N', oa', len', cap', ss'⟩ = c := ⟨_, rfl⟩
  rw [hcc]
  show Calls _ _ #[.agg #[.string lf, .int .i64 I, .int .i64 N, .slice oa len cap], .agg #[.string lf', .int .i64 I', .int .i64 N', .slice oa' len' cap']] _ _
  obtain ⟨B, hB⟩ : ∃ B, w.heap.size = B := ⟨_, rfl⟩
  obtain ⟨w0, hw0⟩ : ∃ w0, w.alloc (.cells #[.string lf, .int .i64 I, .int .i64 N, .slice oa len cap] 24) = w0 := ⟨_, rfl⟩
  obtain ⟨w1, hw1⟩ : ∃ w1, w0.alloc (.cells #[.string lf', .int .i64 I', .int .i64 N', .slice oa' len' cap'] 24) = w1 := ⟨_, rfl⟩
  have z0 : w0.heap.size = B + 1 := by rw [← hw0]; simp [hB]
  have kA : Blk w1 B 24 #[.string lf, .int .i64 I, .int .i64 N, .slice oa len cap] := by rw [← hw1, ← hw0, ← hB]; exact (Blk.new _ _ _).alloc _
  have kB : Blk w1 (B + 1) 24 #[.string lf', .int .i64 I', .int .i64 N', .slice oa' len' cap'] := by rw [← hw1]; exact Blk.new_at z0.symm
  have hB1 : Below w.heap.size w w1 := by rw [← hw1, ← hw0]; exact ((Below.refl _ w).alloc (Nat.le_refl _) _).alloc (by simp) _
  have HW0 := Lib.hid hw0
  have HW1 := Lib.hid hw1
  have x0 : w1.cell? ⟨B, 0, none⟩ = some (.string lf) := kA.cell 0
  have x1 : w1.cell? ⟨B, 1, none⟩ = some (.int .i64 I) := kA.cell 1
  have x2 : w1.cell? ⟨B, 2, none⟩ = some (.int .i64 N) := kA.cell 2
  have x3 : w1.cell? ⟨B, 3, none⟩ = some (.slice oa len cap) := kA.cell 3
  have y0 : w1.cell? ⟨B + 1, 0, none⟩ = some (.string lf') := kB.cell 0
  have y1 : w1.cell? ⟨B + 1, 1, none⟩ = some (.int .i64 I') := kB.cell 1
  have y2 : w1.cell? ⟨B + 1, 2, none⟩ = some (.int .i64 N') := kB.cell 2
  have y3 : w1.cell? ⟨B + 1, 3, none⟩ = some (.slice oa' len' cap') := kB.cell 3
  have HC := Lib.hid hcc
  have HB1 := Lib.hid hB1
  clear hw0 hw1 kA kB hcc hB1
  by_cases hI : I = I'
  · have hi : (I == I') = true := by rw [hI]; simp
    by_cases hl : lf = lf'
    · obtain ⟨b1, b2⟩ := beqT hl
      have HF := Lib.hid (show c = false by rw [← HC.out]; exact decide_eq_false (fun k => k.2 hl))
      subst hI
      clear hl
      go_enter Try.func32, Try.ntmps32
      go_wp2_with (first | rw [HW0.out] | rw [HW1.out])
      go_ret
      exact ⟨by rw [HF.out]; rfl, HB1.out⟩
    · obtain ⟨b1, b2⟩ := beqF hl
      have HF := Lib.hid (show c = true by rw [← HC.out]; exact decide_eq_true ⟨hI, hl⟩)
      subst hI
      clear hl
      go_enter Try.func32, Try.ntmps32
      go_wp2_with (first | rw [HW0.out] | rw [HW1.out])
      go_ret
      exact ⟨by rw [HF.out]; rfl, HB1.out⟩
  · have hi : (I == I') = false := by rw [beq_eq_false_iff_ne]; exact hI
    have HF := Lib.hid (show c = false by rw [← HC.out]; exact decide_eq_false (fun k => hI k.1))
    clear hI
    go_enter Try.func32, Try.ntmps32
    go_wp2_with (first | rw [HW0.out] | rw [HW1.out])
    go_ret
    exact ⟨by rw [HF.out]; rfl, HB1.out⟩
set_option maxRecDepth 100000 in
set_option maxHeartbeats 1000000 in
theorem holds_any {g : Nat} {h : ByteArray → ByteArray} (H : Hsh g h) (r : ByteArray) (c : Clm) (w : World) (hc : c.ok w) : Calls Try.prog 33 #[.func (.func g) #[] #[], .string r, c.val] w fun e w' => e = .returned (.bool (holC h r c)) ∧ Below w.heap.size w w' := by
  have HR := Lib.hid (fun W hW => croot_any H c W hW)
  have HK := Lib.hid hc
  clear hc
  unfold holC
  generalize rtC h (opC h c) = T at *
  obtain ⟨s, b⟩ := T
  obtain ⟨lf, I, N, oa, len, cap, ss⟩ := c
  change Hid (∀ W, _ → Calls _ _ #[_, .agg #[.string lf, .int .i64 I, .int .i64 N, .slice oa len cap]] W fun e w' => e = .returned (.tuple #[.string s, .bool b]) ∧ _) at HR
  show Calls _ _ #[_, _, .agg #[.string lf, .int .i64 I, .int .i64 N, .slice oa len cap]] _ _
  obtain ⟨B, hB⟩ : ∃ B, w.heap.size = B := ⟨_, rfl⟩
  obtain ⟨w0, hw0⟩ : ∃ w0, w.alloc (.cells #[.string lf, .int .i64 I, .int .i64 N, .slice oa len cap] 24) = w0 := ⟨_, rfl⟩
  have kA : Blk w0 B 24 #[.string lf, .int .i64 I, .int .i64 N, .slice oa len cap] := by rw [← hw0, ← hB]; exact Blk.new _ _ _
  have hB0 : Below w.heap.size w w0 := by rw [← hw0]; exact (Below.refl _ w).alloc (Nat.le_refl _) _
  have HW0 := Lib.hid hw0
  have x0 : w0.cell? ⟨B, 0, none⟩ = some (.string lf) := kA.cell 0
  have x1 : w0.cell? ⟨B, 1, none⟩ = some (.int .i64 I) := kA.cell 1
  have x2 : w0.cell? ⟨B, 2, none⟩ = some (.int .i64 N) := kA.cell 2
  have x3 : w0.cell? ⟨B, 3, none⟩ = some (.slice oa len cap) := kA.cell 3
  have HB0 := Lib.hid hB0
  have hK0 := HK.out.below hB0
  clear hw0 kA hB0
  obtain ⟨d, hd⟩ : ∃ d, decide ((s, b) = (r, true)) = d := ⟨_, rfl⟩
  rw [hd]
  have HD := Lib.hid hd
  clear hd
  cases b with
  | false =>
    have HF := Lib.hid (show d = false by rw [← HD.out]; simp)
    go_enter Try.func33, Try.ntmps33
    go_wp2_with (first | rw [HW0.out])
    refine (HR.out _ hK0).mono ?_
    rintro e w1 ⟨rfl, hb1⟩
    have hBf := HB0.out.trans (hb1.mono HB0.out.size)
    go_wp2
    go_ret
    exact ⟨by rw [HF.out]; rfl, hBf⟩
  | true =>
    by_cases hs : s = r
    · obtain ⟨b1, b2⟩ := beqT hs
      have HF := Lib.hid (show d = true by rw [← HD.out, hs]; simp)
      clear hs
      go_enter Try.func33, Try.ntmps33
      go_wp2_with (first | rw [HW0.out])
      refine (HR.out _ hK0).mono ?_
      rintro e w1 ⟨rfl, hb1⟩
      have hBf := HB0.out.trans (hb1.mono HB0.out.size)
      go_wp2
      go_ret
      exact ⟨by rw [HF.out]; rfl, hBf⟩
    · obtain ⟨b1, b2⟩ := beqF hs
      have HF := Lib.hid (show d = false by rw [← HD.out]; simp [hs])
      clear hs
      go_enter Try.func33, Try.ntmps33
      go_wp2_with (first | rw [HW0.out])
      refine (HR.out _ hK0).mono ?_
      rintro e w1 ⟨rfl, hb1⟩
      have hBf := HB0.out.trans (hb1.mono HB0.out.size)
      go_wp2
      go_ret
      exact ⟨by rw [HF.out]; rfl, hBf⟩
/-- what Leaves and Prefix answer -/
def RLv (h : ByteArray → ByteArray) (ok : Bool) (w : World) (e : Ending) (w' : World) : Prop :=
  (if ok then ∃ A D : ByteArray, e = .returned (.tuple #[.agg #[.string A, .string D], .bool true]) ∧ A ≠ D ∧ h A = h D ∧ A.size ≤ 1000 ∧ D.size ≤ 1000 else e = .returned (.tuple #[.agg zpair, .bool false])) ∧ Below w.heap.size w w'
def okL (h : ByteArray → ByteArray) (r : ByteArray) (a b : Clm) : Bool := decide (a.N = b.N) && clC a b && holC h r a && holC h r b
theorem lfn_ne {a b : Clm} (h : a.lf ≠ b.lf) : a.lfn ≠ b.lfn := fun e => h (app_inj rfl e).2
set_option maxRecDepth 100000 in
set_option maxHeartbeats 4000000 in
theorem leaves_any {g : Nat} {h : ByteArray → ByteArray} (H : Hsh g h) (r : ByteArray) (a b : Clm) (w : World) (hoa : a.ok w) (hob : b.ok w) : Calls Try.prog 24 #[.func (.func g) #[] #[], .string r, a.val, b.val] w (RLv h (okL h r a b) w) := by
  have HCl := Lib.hid (fun W => clash_any a b W)
  have HHa := Lib.hid (fun W hW => holds_any H r a W hW)
  have HHb := Lib.hid (fun W hW => holds_any H r b W hW)
  have HU : Hid (okL h r a b = true → ∀ W, a.ok W → b.ok W → Calls Try.prog 34 #[.func (.func g) #[] #[], a.val, b.val, .agg #[.string ⟨#[]⟩, .string ⟨#[]⟩, .slice none 0 0, .slice none 0 0]] W (RU h W)) := Lib.hid (fun hok W hA hB => by
    unfold okL clC holC at hok
    simp only [Bool.and_eq_true, decide_eq_true_iff] at hok
    obtain ⟨⟨⟨e1, e2, e3⟩, e4⟩, e5⟩ := hok
    cases ha : opC h a with
    | nil => rw [ha] at e4; cases e4
    | cons x X =>
      cases hb : opC h b with
      | nil => rw [hb] at e5; cases e5
      | cons y Y =>
        rw [ha] at e4
        rw [hb] at e5
        have hx : h x = r := congrArg Prod.fst e4
        have hy : h y = r := congrArg Prod.fst e5
        exact unlike_any H a b (lfn_ne e3) x X y Y ha hb e2 [] [] (by rw [hx, hy, e1]; exact Gr.stay (by rw [← hx]; exact H.size x)) (by omega) _ _ none none 0 0 (Nat.le_refl _) (Nat.le_refl _) W hA hB (fun i hi => absurd hi (by simp)) (fun i hi => absurd hi (by simp)))
  have HKa := Lib.hid hoa
  have HKb := Lib.hid hob
  clear hoa hob H
  obtain ⟨k, hk⟩ : ∃ k, okL h r a b = k := ⟨_, rfl⟩
  rw [hk] at HU ⊢
  unfold okL at hk
  generalize holC h r a = p at *
  generalize holC h r b = q at *
  generalize clC a b = c at *
  obtain ⟨lf, I, N, oa, len, cap, ss⟩ := a
  obtain ⟨lf', I', N', oa', len', cap', ss'⟩ := b
  change (decide (N = N') && c && p && q) = k at hk
  change Hid (∀ W, Calls _ _ #[.agg #[.string lf, .int .i64 I, .int .i64 N, .slice oa len cap], .agg #[.string lf', .int .i64 I', .int .i64 N', .slice oa' len' cap']] W _) at HCl
  change Hid (∀ W, _ → Calls _ _ #[_, _, .agg #[.string lf, .int .i64 I, .int .i64 N, .slice oa len cap]] W _) at HHa
  change Hid (∀ W, _ → Calls _ _ #[_, _, .agg #[.string lf', .int .i64 I', .int .i64 N', .slice oa' len' cap']] W _) at HHb
  change Hid (k = true → ∀ W, _ → _ → Calls _ _ #[_, .agg #[.string lf, .int .i64 I, .int .i64 N, .slice oa len cap], .agg #[.string lf', .int .i64 I', .int .i64 N', .slice oa' len' cap'], _] W _) at HU
  show Calls _ _ #[_, _, .agg #[.string lf, .int .i64 I, .int .i64 N, .slice oa len cap], .agg #[.string lf', .int .i64 I', .int .i64 N', .slice oa' len' cap']] _ _
  obtain ⟨B, hB⟩ : ∃ B, w.heap.size = B := ⟨_, rfl⟩
  obtain ⟨w0, hw0⟩ : ∃ w0, w.alloc (.cells #[.string lf, .int .i64 I, .int .i64 N, .slice oa len cap] 24) = w0 := ⟨_, rfl⟩
  obtain ⟨w1, hw1⟩ : ∃ w1, w0.alloc (.cells #[.string lf', .int .i64 I', .int .i64 N', .slice oa' len' cap'] 24) = w1 := ⟨_, rfl⟩
  obtain ⟨w2, hw2⟩ : ∃ w2, w1.alloc (.cells zpair 31) = w2 := ⟨_, rfl⟩
  have z0 : w0.heap.size = B + 1 := by rw [← hw0]; simp [hB]
  have z1 : w1.heap.size = B + 1 + 1 := by rw [← hw1]; simp [z0]
  have kA : Blk w2 B 24 #[.string lf, .int .i64 I, .int .i64 N, .slice oa len cap] := by rw [← hw2, ← hw1, ← hw0, ← hB]; exact ((Blk.new _ _ _).alloc _).alloc _
  have kB : Blk w2 (B + 1) 24 #[.string lf', .int .i64 I', .int .i64 N', .slice oa' len' cap'] := by rw [← hw2, ← hw1]; exact (Blk.new_at z0.symm).alloc _
  have kP : Blk w2 (B + 1 + 1) 31 zpair := by rw [← hw2]; exact Blk.new_at z1.symm
  have hB2 : Below w.heap.size w w2 := by rw [← hw2, ← hw1, ← hw0]; exact (((Below.refl _ w).alloc (Nat.le_refl _) _).alloc (by simp) _).alloc (by simp; omega) _
  have HW0 := Lib.hid hw0
  have HW1 := Lib.hid hw1
  have HW2 := Lib.hid hw2
  have HA2 := Lib.hid kA
  have HB2 := Lib.hid kB
  have HP2 := Lib.hid kP
  have HBl := Lib.hid hB2
  have x0 : w2.cell? ⟨B, 0, none⟩ = some (.string lf) := kA.cell 0
  have x1 : w2.cell? ⟨B, 1, none⟩ = some (.int .i64 I) := kA.cell 1
  have x2 : w2.cell? ⟨B, 2, none⟩ = some (.int .i64 N) := kA.cell 2
  have x3 : w2.cell? ⟨B, 3, none⟩ = some (.slice oa len cap) := kA.cell 3
  have y0 : w2.cell? ⟨B + 1, 0, none⟩ = some (.string lf') := kB.cell 0
  have y1 : w2.cell? ⟨B + 1, 1, none⟩ = some (.int .i64 I') := kB.cell 1
  have y2 : w2.cell? ⟨B + 1, 2, none⟩ = some (.int .i64 N') := kB.cell 2
  have y3 : w2.cell? ⟨B + 1, 3, none⟩ = some (.slice oa' len' cap') := kB.cell 3
  have HKK := Lib.hid hk
  clear hw0 hw1 hw2 kA kB kP hB2 hk
  by_cases hN : N = N'
  · have hn : (N != N') = false := by rw [hN]; simp
    have HNN := Lib.hid (decide_eq_true hN)
    clear hN
    cases c with
    | false =>
      have HF := Lib.hid (show k = false by rw [← HKK.out]; simp)
      rw [HF.out]
      go_enter Try.func24, Try.ntmps24
      go_wp2_with (first | rw [HW0.out] | rw [HW1.out] | rw [HW2.out])
      refine (HCl.out _).mono ?_
      rintro e w3 ⟨rfl, hb3⟩
      have hA3 := HA2.out.below hb3 HA2.out.lt
      have hB3' := HB2.out.below hb3 HB2.out.lt
      have hP3 := HP2.out.below hb3 HP2.out.lt
      have hB3 := HBl.out.trans (hb3.mono HBl.out.size)
      clear x0 x1 x2 x3 y0 y1 y2 y3 hb3
      have x0 : w3.cell? ⟨B, 0, none⟩ = some (.string lf) := hA3.cell 0
      have x1 : w3.cell? ⟨B, 1, none⟩ = some (.int .i64 I) := hA3.cell 1
      have x2 : w3.cell? ⟨B, 2, none⟩ = some (.int .i64 N) := hA3.cell 2
      have x3 : w3.cell? ⟨B, 3, none⟩ = some (.slice oa len cap) := hA3.cell 3
      have y0 : w3.cell? ⟨B + 1, 0, none⟩ = some (.string lf') := hB3'.cell 0
      have y1 : w3.cell? ⟨B + 1, 1, none⟩ = some (.int .i64 I') := hB3'.cell 1
      have y2 : w3.cell? ⟨B + 1, 2, none⟩ = some (.int .i64 N') := hB3'.cell 2
      have y3 : w3.cell? ⟨B + 1, 3, none⟩ = some (.slice oa' len' cap') := hB3'.cell 3
      have p0 : w3.cell? ⟨B + 1 + 1, 0, none⟩ = some (.string ⟨#[]⟩) := hP3.cell 0
      have p1 : w3.cell? ⟨B + 1 + 1, 1, none⟩ = some (.string ⟨#[]⟩) := hP3.cell 1
      have t0 := hP3.frozen 0
      have t1 := hP3.frozen 1
      have HRES := Lib.hid ((hP3.set_ 0 (.string ⟨#[]⟩)).set_ 1 (.string ⟨#[]⟩))
      have HBF := Lib.hid ((hB3.setCell (p := ⟨B + 1 + 1, 0, none⟩) (by show w.heap.size ≤ B + 1 + 1; omega) (.string ⟨#[]⟩)).setCell (p := ⟨B + 1 + 1, 1, none⟩) (by show w.heap.size ≤ B + 1 + 1; omega) (.string ⟨#[]⟩))
      go_wp2
      refine bodyPost_ret (results_grw rfl _ _ (B + 1 + 1) 31 zpair _ rfl HRES.out Try.underlying31 rfl infoPair) rfl ?_
      exact ⟨rfl, HBF.out⟩
    | true =>
      cases p with
      | false =>
        have HF := Lib.hid (show k = false by rw [← HKK.out]; simp)
        rw [HF.out]
        go_enter Try.func24, Try.ntmps24
        go_wp2_with (first | rw [HW0.out] | rw [HW1.out] | rw [HW2.out])
        refine (HCl.out _).mono ?_
        rintro e w3 ⟨rfl, hb3⟩
        have hA3 := HA2.out.below hb3 HA2.out.lt
        have hB3' := HB2.out.below hb3 HB2.out.lt
        have hP3 := HP2.out.below hb3 HP2.out.lt
        have hB3 := HBl.out.trans (hb3.mono HBl.out.size)
        clear x0 x1 x2 x3 y0 y1 y2 y3 hb3
        have x0 : w3.cell? ⟨B, 0, none⟩ = some (.string lf) := hA3.cell 0
        have x1 : w3.cell? ⟨B, 1, none⟩ = some (.int .i64 I) := hA3.cell 1
        have x2 : w3.cell? ⟨B, 2, none⟩ = some (.int .i64 N) := hA3.cell 2
        have x3 : w3.cell? ⟨B, 3, none⟩ = some (.slice oa len cap) := hA3.cell 3
        have y0 : w3.cell? ⟨B + 1, 0, none⟩ = some (.string lf') := hB3'.cell 0
        have y1 : w3.cell? ⟨B + 1, 1, none⟩ = some (.int .i64 I') := hB3'.cell 1
        have y2 : w3.cell? ⟨B + 1, 2, none⟩ = some (.int .i64 N') := hB3'.cell 2
        have y3 : w3.cell? ⟨B + 1, 3, none⟩ = some (.slice oa' len' cap') := hB3'.cell 3
        go_wp2_with fail
        refine (HHa.out _ (HKa.out.below hB3)).mono ?_
        rintro e w4 ⟨rfl, hb4⟩
        have hA4 := hA3.below hb4 hA3.lt
        have hB4' := hB3'.below hb4 hB3'.lt
        have hP4 := hP3.below hb4 hP3.lt
        have hB4 := hB3.trans (hb4.mono hB3.size)
        clear x0 x1 x2 x3 y0 y1 y2 y3 hb4
        have x0 : w4.cell? ⟨B, 0, none⟩ = some (.string lf) := hA4.cell 0
        have x1 : w4.cell? ⟨B, 1, none⟩ = some (.int .i64 I) := hA4.cell 1
        have x2 : w4.cell? ⟨B, 2, none⟩ = some (.int .i64 N) := hA4.cell 2
        have x3 : w4.cell? ⟨B, 3, none⟩ = some (.slice oa len cap) := hA4.cell 3
        have y0 : w4.cell? ⟨B + 1, 0, none⟩ = some (.string lf') := hB4'.cell 0
        have y1 : w4.cell? ⟨B + 1, 1, none⟩ = some (.int .i64 I') := hB4'.cell 1
        have y2 : w4.cell? ⟨B + 1, 2, none⟩ = some (.int .i64 N') := hB4'.cell 2
        have y3 : w4.cell? ⟨B + 1, 3, none⟩ = some (.slice oa' len' cap') := hB4'.cell 3
        have p0 : w4.cell? ⟨B + 1 + 1, 0, none⟩ = some (.string ⟨#[]⟩) := hP4.cell 0
        have p1 : w4.cell? ⟨B + 1 + 1, 1, none⟩ = some (.string ⟨#[]⟩) := hP4.cell 1
        have t0 := hP4.frozen 0
        have t1 := hP4.frozen 1
        have HRES := Lib.hid ((hP4.set_ 0 (.string ⟨#[]⟩)).set_ 1 (.string ⟨#[]⟩))
        have HBF := Lib.hid ((hB4.setCell (p := ⟨B + 1 + 1, 0, none⟩) (by show w.heap.size ≤ B + 1 + 1; omega) (.string ⟨#[]⟩)).setCell (p := ⟨B + 1 + 1, 1, none⟩) (by show w.heap.size ≤ B + 1 + 1; omega) (.string ⟨#[]⟩))
        go_wp2
        refine bodyPost_ret (results_grw rfl _ _ (B + 1 + 1) 31 zpair _ rfl HRES.out Try.underlying31 rfl infoPair) rfl ?_
        exact ⟨rfl, HBF.out⟩
      | true =>
        cases q with
        | false =>
          have HF := Lib.hid (show k = false by rw [← HKK.out]; simp)
          rw [HF.out]
          go_enter Try.func24, Try.ntmps24
          go_wp2_with (first | rw [HW0.out] | rw [HW1.out] | rw [HW2.out])
          refine (HCl.out _).mono ?_
          rintro e w3 ⟨rfl, hb3⟩
          have hA3 := HA2.out.below hb3 HA2.out.lt
          have hB3' := HB2.out.below hb3 HB2.out.lt
          have hP3 := HP2.out.below hb3 HP2.out.lt
          have hB3 := HBl.out.trans (hb3.mono HBl.out.size)
          clear x0 x1 x2 x3 y0 y1 y2 y3 hb3
          have x0 : w3.cell? ⟨B, 0, none⟩ = some (.string lf) := hA3.cell 0
          have x1 : w3.cell? ⟨B, 1, none⟩ = some (.int .i64 I) := hA3.cell 1
          have x2 : w3.cell? ⟨B, 2, none⟩ = some (.int .i64 N) := hA3.cell 2
          have x3 : w3.cell? ⟨B, 3, none⟩ = some (.slice oa len cap) := hA3.cell 3
          have y0 : w3.cell? ⟨B + 1, 0, none⟩ = some (.string lf') := hB3'.cell 0
          have y1 : w3.cell? ⟨B + 1, 1, none⟩ = some (.int .i64 I') := hB3'.cell 1
          have y2 : w3.cell? ⟨B + 1, 2, none⟩ = some (.int .i64 N') := hB3'.cell 2
          have y3 : w3.cell? ⟨B + 1, 3, none⟩ = some (.slice oa' len' cap') := hB3'.cell 3
          go_wp2_with fail
          refine (HHa.out _ (HKa.out.below hB3)).mono ?_
          rintro e w4 ⟨rfl, hb4⟩
          have hA4 := hA3.below hb4 hA3.lt
          have hB4' := hB3'.below hb4 hB3'.lt
          have hP4 := hP3.below hb4 hP3.lt
          have hB4 := hB3.trans (hb4.mono hB3.size)
          clear x0 x1 x2 x3 y0 y1 y2 y3 hb4
          have x0 : w4.cell? ⟨B, 0, none⟩ = some (.string lf) := hA4.cell 0
          have x1 : w4.cell? ⟨B, 1, none⟩ = some (.int .i64 I) := hA4.cell 1
          have x2 : w4.cell? ⟨B, 2, none⟩ = some (.int .i64 N) := hA4.cell 2
          have x3 : w4.cell? ⟨B, 3, none⟩ = some (.slice oa len cap) := hA4.cell 3
          have y0 : w4.cell? ⟨B + 1, 0, none⟩ = some (.string lf') := hB4'.cell 0
          have y1 : w4.cell? ⟨B + 1, 1, none⟩ = some (.int .i64 I') := hB4'.cell 1
          have y2 : w4.cell? ⟨B + 1, 2, none⟩ = some (.int .i64 N') := hB4'.cell 2
          have y3 : w4.cell? ⟨B + 1, 3, none⟩ = some (.slice oa' len' cap') := hB4'.cell 3
          go_wp2_with fail
          refine (HHb.out _ (HKb.out.below hB4)).mono ?_
          rintro e w5 ⟨rfl, hb5⟩
          have hA5 := hA4.below hb5 hA4.lt
          have hB5' := hB4'.below hb5 hB4'.lt
          have hP5 := hP4.below hb5 hP4.lt
          have hB5 := hB4.trans (hb5.mono hB4.size)
          clear x0 x1 x2 x3 y0 y1 y2 y3 hb5
          have x0 : w5.cell? ⟨B, 0, none⟩ = some (.string lf) := hA5.cell 0
          have x1 : w5.cell? ⟨B, 1, none⟩ = some (.int .i64 I) := hA5.cell 1
          have x2 : w5.cell? ⟨B, 2, none⟩ = some (.int .i64 N) := hA5.cell 2
          have x3 : w5.cell? ⟨B, 3, none⟩ = some (.slice oa len cap) := hA5.cell 3
          have y0 : w5.cell? ⟨B + 1, 0, none⟩ = some (.string lf') := hB5'.cell 0
          have y1 : w5.cell? ⟨B + 1, 1, none⟩ = some (.int .i64 I') := hB5'.cell 1
          have y2 : w5.cell? ⟨B + 1, 2, none⟩ = some (.int .i64 N') := hB5'.cell 2
          have y3 : w5.cell? ⟨B + 1, 3, none⟩ = some (.slice oa' len' cap') := hB5'.cell 3
          have p0 : w5.cell? ⟨B + 1 + 1, 0, none⟩ = some (.string ⟨#[]⟩) := hP5.cell 0
          have p1 : w5.cell? ⟨B + 1 + 1, 1, none⟩ = some (.string ⟨#[]⟩) := hP5.cell 1
          have t0 := hP5.frozen 0
          have t1 := hP5.frozen 1
          have HRES := Lib.hid ((hP5.set_ 0 (.string ⟨#[]⟩)).set_ 1 (.string ⟨#[]⟩))
          have HBF := Lib.hid ((hB5.setCell (p := ⟨B + 1 + 1, 0, none⟩) (by show w.heap.size ≤ B + 1 + 1; omega) (.string ⟨#[]⟩)).setCell (p := ⟨B + 1 + 1, 1, none⟩) (by show w.heap.size ≤ B + 1 + 1; omega) (.string ⟨#[]⟩))
          go_wp2
          refine bodyPost_ret (results_grw rfl _ _ (B + 1 + 1) 31 zpair _ rfl HRES.out Try.underlying31 rfl infoPair) rfl ?_
          exact ⟨rfl, HBF.out⟩
        | true =>
          have HF := Lib.hid (show k = true by rw [← HKK.out, HNN.out]; rfl)
          rw [HF.out]
          have HUU := Lib.hid (HU.out HF.out)
          go_enter Try.func24, Try.ntmps24
          go_wp2_with (first | rw [HW0.out] | rw [HW1.out] | rw [HW2.out])
          refine (HCl.out _).mono ?_
          rintro e w3 ⟨rfl, hb3⟩
          have hA3 := HA2.out.below hb3 HA2.out.lt
          have hB3' := HB2.out.below hb3 HB2.out.lt
          have hP3 := HP2.out.below hb3 HP2.out.lt
          have hB3 := HBl.out.trans (hb3.mono HBl.out.size)
          clear x0 x1 x2 x3 y0 y1 y2 y3 hb3
          have x0 : w3.cell? ⟨B, 0, none⟩ = some (.string lf) := hA3.cell 0
          have x1 : w3.cell? ⟨B, 1, none⟩ = some (.int .i64 I) := hA3.cell 1
          have x2 : w3.cell? ⟨B, 2, none⟩ = some (.int .i64 N) := hA3.cell 2
          have x3 : w3.cell? ⟨B, 3, none⟩ = some (.slice oa len cap) := hA3.cell 3
          have y0 : w3.cell? ⟨B + 1, 0, none⟩ = some (.string lf') := hB3'.cell 0
          have y1 : w3.cell? ⟨B + 1, 1, none⟩ = some (.int .i64 I') := hB3'.cell 1
          have y2 : w3.cell? ⟨B + 1, 2, none⟩ = some (.int .i64 N') := hB3'.cell 2
          have y3 : w3.cell? ⟨B + 1, 3, none⟩ = some (.slice oa' len' cap') := hB3'.cell 3
          go_wp2_with fail
          refine (HHa.out _ (HKa.out.below hB3)).mono ?_
          rintro e w4 ⟨rfl, hb4⟩
          have hA4 := hA3.below hb4 hA3.lt
          have hB4' := hB3'.below hb4 hB3'.lt
          have hP4 := hP3.below hb4 hP3.lt
          have hB4 := hB3.trans (hb4.mono hB3.size)
          clear x0 x1 x2 x3 y0 y1 y2 y3 hb4
          have x0 : w4.cell? ⟨B, 0, none⟩ = some (.string lf) := hA4.cell 0
          have x1 : w4.cell? ⟨B, 1, none⟩ = some (.int .i64 I) := hA4.cell 1
          have x2 : w4.cell? ⟨B, 2, none⟩ = some (.int .i64 N) := hA4.cell 2
          have x3 : w4.cell? ⟨B, 3, none⟩ = some (.slice oa len cap) := hA4.cell 3
          have y0 : w4.cell? ⟨B + 1, 0, none⟩ = some (.string lf') := hB4'.cell 0
          have y1 : w4.cell? ⟨B + 1, 1, none⟩ = some (.int .i64 I') := hB4'.cell 1
          have y2 : w4.cell? ⟨B + 1, 2, none⟩ = some (.int .i64 N') := hB4'.cell 2
          have y3 : w4.cell? ⟨B + 1, 3, none⟩ = some (.slice oa' len' cap') := hB4'.cell 3
          go_wp2_with fail
          refine (HHb.out _ (HKb.out.below hB4)).mono ?_
          rintro e w5 ⟨rfl, hb5⟩
          have hA5 := hA4.below hb5 hA4.lt
          have hB5' := hB4'.below hb5 hB4'.lt
          have hP5 := hP4.below hb5 hP4.lt
          have hB5 := hB4.trans (hb5.mono hB4.size)
          clear x0 x1 x2 x3 y0 y1 y2 y3 hb5
          have x0 : w5.cell? ⟨B, 0, none⟩ = some (.string lf) := hA5.cell 0
          have x1 : w5.cell? ⟨B, 1, none⟩ = some (.int .i64 I) := hA5.cell 1
          have x2 : w5.cell? ⟨B, 2, none⟩ = some (.int .i64 N) := hA5.cell 2
          have x3 : w5.cell? ⟨B, 3, none⟩ = some (.slice oa len cap) := hA5.cell 3
          have y0 : w5.cell? ⟨B + 1, 0, none⟩ = some (.string lf') := hB5'.cell 0
          have y1 : w5.cell? ⟨B + 1, 1, none⟩ = some (.int .i64 I') := hB5'.cell 1
          have y2 : w5.cell? ⟨B + 1, 2, none⟩ = some (.int .i64 N') := hB5'.cell 2
          have y3 : w5.cell? ⟨B + 1, 3, none⟩ = some (.slice oa' len' cap') := hB5'.cell 3
          go_wp2_with fail
          refine (HUU.out _ (HKa.out.below hB5) (HKb.out.below hB5)).mono ?_
          rintro e w6 ⟨tA, tD, rfl, hne, hh, hsA, hsD, hb6⟩
          have hB6 := hB5.trans (hb6.mono hB5.size)
          have hP6 := hP5.below hb6 hP5.lt
          have p0 : w6.cell? ⟨B + 1 + 1, 0, none⟩ = some (.string ⟨#[]⟩) := hP6.cell 0
          have p1 : w6.cell? ⟨B + 1 + 1, 1, none⟩ = some (.string ⟨#[]⟩) := hP6.cell 1
          have t0 := hP6.frozen 0
          have t1 := hP6.frozen 1
          have HRES := Lib.hid ((hP6.set_ 0 (.string tA)).set_ 1 (.string tD))
          have HBF := Lib.hid ((hB6.setCell (p := ⟨B + 1 + 1, 0, none⟩) (by show w.heap.size ≤ B + 1 + 1; omega) (.string tA)).setCell (p := ⟨B + 1 + 1, 1, none⟩) (by show w.heap.size ≤ B + 1 + 1; omega) (.string tD))
          have HPO := Lib.hid (show tA ≠ tD ∧ h tA = h tD ∧ tA.size ≤ 1000 ∧ tD.size ≤ 1000 from ⟨hne, hh, hsA, hsD⟩)
          clear hP6 hB6 hb6 hB5 hP5 x0 x1 x2 x3 y0 y1 y2 y3 hne hh hA5 hB5'
          go_wp2
          refine bodyPost_ret (results_grw rfl _ _ (B + 1 + 1) 31 #[.string tA, .string tD] _ rfl HRES.out Try.underlying31 rfl infoPair) rfl ?_
          exact ⟨⟨tA, tD, rfl, HPO.out⟩, HBF.out⟩
  · have hn : (N != N') = true := by rw [bne_iff_ne]; exact hN
    have HF := Lib.hid (show k = false by rw [← HKK.out, decide_eq_false hN]; simp)
    rw [HF.out]
    clear hN
    have p0 : w2.cell? ⟨B + 1 + 1, 0, none⟩ = some (.string ⟨#[]⟩) := HP2.out.cell 0
    have p1 : w2.cell? ⟨B + 1 + 1, 1, none⟩ = some (.string ⟨#[]⟩) := HP2.out.cell 1
    have t0 := HP2.out.frozen 0
    have t1 := HP2.out.frozen 1
    have HRES := Lib.hid ((HP2.out.set_ 0 (.string ⟨#[]⟩)).set_ 1 (.string ⟨#[]⟩))
    have HBF := Lib.hid ((HBl.out.setCell (p := ⟨B + 1 + 1, 0, none⟩) (by show w.heap.size ≤ B + 1 + 1; omega) (.string ⟨#[]⟩)).setCell (p := ⟨B + 1 + 1, 1, none⟩) (by show w.heap.size ≤ B + 1 + 1; omega) (.string ⟨#[]⟩))
    go_enter Try.func24, Try.ntmps24
    go_wp2_with (first | rw [HW0.out] | rw [HW1.out] | rw [HW2.out])
    refine bodyPost_ret (results_grw rfl _ _ (B + 1 + 1) 31 zpair _ rfl HRES.out Try.underlying31 rfl infoPair) rfl ?_
    exact ⟨rfl, HBF.out⟩
end Go.Proofs.Ytfhfmfcmkiobdaa

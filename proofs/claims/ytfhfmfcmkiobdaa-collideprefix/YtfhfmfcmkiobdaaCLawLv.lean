/-
  Layer 8: two leaves at one place of one tree: the law.
-/
import Derived.Test.YtfhfmfcmkiobdaaCLeaves
import Derived.Test.YtfhfmfcmkiobdaaCFew
namespace Go.Proofs.Ytfhfmfcmkiobdaa
open Go.RowKit

set_option maxRecDepth 100000 in
theorem eq_pair (W : World) : (binOp .eql 31 (.agg zpair) (.agg zpair)).run Try.prog W = .ok (.bool true) W := by kernel_rfl
set_option maxRecDepth 100000 in
set_option maxHeartbeats 2000000 in
theorem collides_any {qh : Nat} {h : ByteArray → ByteArray} (HH : HashC qh h) (A D : ByteArray) (hA : A.size ≤ 1000) (hD : D.size ≤ 1000) (hne : A ≠ D) (he : h A = h D) (w : World) :
    Calls Try.prog 12 #[.int .u8 qh, .agg #[.string A, .string D]] w fun e w' => e = .returned (.bool true) ∧ Below w.heap.size w w' := by
  obtain ⟨b1, b2⟩ := beqF hne
  obtain ⟨b3, b4⟩ := beqT he
  have HJ1 := Lib.hid (fun W => HH A W hA)
  have HJ2 := Lib.hid (fun W => HH D W hD)
  generalize h A = R1 at *
  generalize h D = R2 at *
  obtain ⟨B, hB⟩ : ∃ B, w.heap.size = B := ⟨_, rfl⟩
  obtain ⟨w0, hw0⟩ : ∃ w0, w.alloc (.cells #[.string A, .string D] 31) = w0 := ⟨_, rfl⟩
  have kP : Blk w0 B 31 #[.string A, .string D] := by rw [← hw0, ← hB]; exact Blk.new _ _ _
  have hB0 : Below w.heap.size w w0 := by rw [← hw0]; exact (Below.refl _ w).alloc (Nat.le_refl _) _
  have HW0 := Lib.hid hw0
  have HB0 := Lib.hid hB0
  have HKP : Hid (∀ W, Below w0.heap.size w0 W → (W.cell? ⟨B, 0, none⟩ = some (.string A) ∧ W.cell? ⟨B, 1, none⟩ = some (.string D)) ∧ Below w0.heap.size w0 W) :=
    Lib.hid fun W hW => ⟨⟨(kP.below hW kP.lt).cell 0, (kP.below hW kP.lt).cell 1⟩, hW⟩
  clear hw0 kP hB0 hne he
  go_enter Try.func12, Try.ntmps12
  go_wp2_with (first | rw [HW0.out])
  go_region_held3 (fun W => (W.cell? ⟨B, 0, none⟩ = some (.string A) ∧ W.cell? ⟨B, 1, none⟩ = some (.string D)) ∧ Below w0.heap.size w0 W)
    ((refine HKP.out _ ?_; first | exact hB2' | exact hB1' | exact (Below.refl _ _).drew | exact Below.refl _ _))
    (first
      | (have := hB1'; go_at_call 23; refine (HJ2.out _).mono ?_; rintro e w2 ⟨rfl, hb2⟩; have hB2' : Below w0.heap.size w0 w2 := hB1'.trans (hb2.mono hB1'.size))
      | (go_at_call 23; refine (HJ1.out _).mono ?_; rintro e w1 ⟨rfl, hb1⟩; have hB1' : Below w0.heap.size w0 w1 := (Below.refl _ _).drew.trans hb1))
  have hBf := HB0.out.trans (hB2'.mono HB0.out.size)
  clear HKP HJ1 HJ2 hb1 hb2 hB1' hB2'
  go_wp2
  go_ret
  exact ⟨rfl, hBf⟩
set_option maxRecDepth 100000 in
set_option maxHeartbeats 4000000 in
theorem lleaves_any (q : Nat) (hq : q < 256) (r : ByteArray) (a b : Clm) (w : World) (hoa : a.ok w) (hob : b.ok w) : Calls Try.prog 11 #[.int .u8 q, .string r, a.val, b.val] w (RLv (hF q) (okL (hF q) r a b) w) := by
  have H0 := Lib.hid (fun (h0 : q % 3 = 0) W hA hB => by have := leaves_any hsh_two r a b W hA hB; rw [← hF0 h0] at this; exact this)
  have H1 := Lib.hid (fun (h0 : q % 3 = 1) W hA hB => by have := leaves_any hsh_five r a b W hA hB; rw [← hF1 h0] at this; exact this)
  have H2 := Lib.hid (fun (h0 : q % 3 = 2) W hA hB => by have := leaves_any hsh_full r a b W hA hB; rw [← hF2 h0] at this; exact this)
  have HKa := Lib.hid hoa
  have HKb := Lib.hid hob
  clear hoa hob
  generalize okL (hF q) r a b = k at *
  generalize hF q = h at *
  obtain ⟨lf, I, N, oa, len, cap, ss⟩ := a
  obtain ⟨lf', I', N', oa', len', cap', ss'⟩ := b
  change Hid (_ → ∀ W, _ → _ → Calls _ _ #[_, _, .agg #[.string lf, .int .i64 I, .int .i64 N, .slice oa len cap], .agg #[.string lf', .int .i64 I', .int .i64 N', .slice oa' len' cap']] W _) at H0
  change Hid (_ → ∀ W, _ → _ → Calls _ _ #[_, _, .agg #[.string lf, .int .i64 I, .int .i64 N, .slice oa len cap], .agg #[.string lf', .int .i64 I', .int .i64 N', .slice oa' len' cap']] W _) at H1
  change Hid (_ → ∀ W, _ → _ → Calls _ _ #[_, _, .agg #[.string lf, .int .i64 I, .int .i64 N, .slice oa len cap], .agg #[.string lf', .int .i64 I', .int .i64 N', .slice oa' len' cap']] W _) at H2
  show Calls _ _ #[_, _, .agg #[.string lf, .int .i64 I, .int .i64 N, .slice oa len cap], .agg #[.string lf', .int .i64 I', .int .i64 N', .slice oa' len' cap']] _ _
  obtain ⟨B, hB⟩ : ∃ B, w.heap.size = B := ⟨_, rfl⟩
  obtain ⟨w0, hw0⟩ : ∃ w0, w.alloc (.cells #[.string lf, .int .i64 I, .int .i64 N, .slice oa len cap] 24) = w0 := ⟨_, rfl⟩
  obtain ⟨w1, hw1⟩ : ∃ w1, w0.alloc (.cells #[.string lf', .int .i64 I', .int .i64 N', .slice oa' len' cap'] 24) = w1 := ⟨_, rfl⟩
  obtain ⟨w2, hw2⟩ : ∃ w2, w1.alloc (.cells zpair 31) = w2 := ⟨_, rfl⟩
  have z0 : w0.heap.size = B + 1 := by rw [← hw0]; simp [hB]
  have z1 : w1.heap.size = B + 1 + 1 := by rw [← hw1]; simp [z0]
  have kA : Blk w2 B 24 #[.string lf, .int .i64 I, .int .i64 N, .slice oa len cap] := by rw [← hw2, ← hw1, ← hw0, ← hB]; exact ((Blk.new _ _ _).alloc _).alloc _
  have kB : Blk w2 (B + 1) 24 #[.string lf', .int .i64 I', .int .i64 N', .slice oa' len' cap'] := by rw [← hw2, ← hw1]; exact (Blk.new_at z0.symm).alloc _
  have kP : Blk w2 (B + 1 + 1) 31 zpair := by rw [← hw2]; exact Blk.new_at z1.symm
  have hB2 : Below w.heap.size w w2 := by rw [← hw2, ← hw1, ← hw0]; exact (((Below.refl _ w).alloc (Nat.le_refl _) _).alloc (by simp) _).alloc (by simp; omega) _
  have HW0 := Lib.hid hw0
  have HW1 := Lib.hid hw1
  have HW2 := Lib.hid hw2
  have HP2 := Lib.hid kP
  have HBl := Lib.hid hB2
  have hK1 := HKa.out.below hB2
  have hK2 := HKb.out.below hB2
  have x0 : w2.cell? ⟨B, 0, none⟩ = some (.string lf) := kA.cell 0
  have x1 : w2.cell? ⟨B, 1, none⟩ = some (.int .i64 I) := kA.cell 1
  have x2 : w2.cell? ⟨B, 2, none⟩ = some (.int .i64 N) := kA.cell 2
  have x3 : w2.cell? ⟨B, 3, none⟩ = some (.slice oa len cap) := kA.cell 3
  have y0 : w2.cell? ⟨B + 1, 0, none⟩ = some (.string lf') := kB.cell 0
  have y1 : w2.cell? ⟨B + 1, 1, none⟩ = some (.int .i64 I') := kB.cell 1
  have y2 : w2.cell? ⟨B + 1, 2, none⟩ = some (.int .i64 N') := kB.cell 2
  have y3 : w2.cell? ⟨B + 1, 3, none⟩ = some (.slice oa' len' cap') := kB.cell 3
  clear hw0 hw1 hw2 kA kB kP hB2
  rcases (show q % 3 = 0 ∨ q % 3 = 1 ∨ q % 3 = 2 by omega) with h3 | h3 | h3
  · have e3 : (q : Int) % 3 = 0 := by omega
    have H := Lib.hid (H0.out h3 _ hK1 hK2)
    clear H0 H1 H2 h3
    cases k with
    | false =>
      go_enter Try.func11, Try.ntmps11
      go_wp2_with (first | rw [HW0.out] | rw [HW1.out] | rw [HW2.out])
      refine H.out.mono ?_
      rintro e w3 ⟨rfl, hb3⟩
      have hP3 := HP2.out.below hb3 HP2.out.lt
      have hB3 := HBl.out.trans (hb3.mono HBl.out.size)
      have p0 : w3.cell? ⟨B + 1 + 1, 0, none⟩ = some (.string ⟨#[]⟩) := hP3.cell 0
      have p1 : w3.cell? ⟨B + 1 + 1, 1, none⟩ = some (.string ⟨#[]⟩) := hP3.cell 1
      have t0 := hP3.frozen 0
      have t1 := hP3.frozen 1
      have HRES := Lib.hid ((hP3.set_ 0 (.string ⟨#[]⟩)).set_ 1 (.string ⟨#[]⟩))
      have HBF := Lib.hid ((hB3.setCell (p := ⟨B + 1 + 1, 0, none⟩) (by show w.heap.size ≤ B + 1 + 1; omega) (.string ⟨#[]⟩)).setCell (p := ⟨B + 1 + 1, 1, none⟩) (by show w.heap.size ≤ B + 1 + 1; omega) (.string ⟨#[]⟩))
      clear hP3 hB3 hb3 x0 x1 x2 x3 y0 y1 y2 y3
      go_wp2
      refine bodyPost_ret (results_grw rfl _ _ (B + 1 + 1) 31 zpair _ rfl HRES.out Try.underlying31 rfl infoPair) rfl ?_
      exact ⟨rfl, HBF.out⟩
    | true =>
      go_enter Try.func11, Try.ntmps11
      go_wp2_with (first | rw [HW0.out] | rw [HW1.out] | rw [HW2.out])
      refine H.out.mono ?_
      rintro e w3 ⟨⟨tA, tD, rfl, hpo⟩, hb3⟩
      have hP3 := HP2.out.below hb3 HP2.out.lt
      have hB3 := HBl.out.trans (hb3.mono HBl.out.size)
      have p0 : w3.cell? ⟨B + 1 + 1, 0, none⟩ = some (.string ⟨#[]⟩) := hP3.cell 0
      have p1 : w3.cell? ⟨B + 1 + 1, 1, none⟩ = some (.string ⟨#[]⟩) := hP3.cell 1
      have t0 := hP3.frozen 0
      have t1 := hP3.frozen 1
      have HRES := Lib.hid ((hP3.set_ 0 (.string tA)).set_ 1 (.string tD))
      have HBF := Lib.hid ((hB3.setCell (p := ⟨B + 1 + 1, 0, none⟩) (by show w.heap.size ≤ B + 1 + 1; omega) (.string tA)).setCell (p := ⟨B + 1 + 1, 1, none⟩) (by show w.heap.size ≤ B + 1 + 1; omega) (.string tD))
      have HPO := Lib.hid hpo
      clear hP3 hB3 hb3 hpo x0 x1 x2 x3 y0 y1 y2 y3
      go_wp2
      refine bodyPost_ret (results_grw rfl _ _ (B + 1 + 1) 31 #[.string tA, .string tD] _ rfl HRES.out Try.underlying31 rfl infoPair) rfl ?_
      exact ⟨⟨tA, tD, rfl, HPO.out⟩, HBF.out⟩
  · have e3 : (q : Int) % 3 = 1 := by omega
    have H := Lib.hid (H1.out h3 _ hK1 hK2)
    clear H0 H1 H2 h3
    cases k with
    | false =>
      go_enter Try.func11, Try.ntmps11
      go_wp2_with (first | rw [HW0.out] | rw [HW1.out] | rw [HW2.out])
      refine H.out.mono ?_
      rintro e w3 ⟨rfl, hb3⟩
      have hP3 := HP2.out.below hb3 HP2.out.lt
      have hB3 := HBl.out.trans (hb3.mono HBl.out.size)
      have p0 : w3.cell? ⟨B + 1 + 1, 0, none⟩ = some (.string ⟨#[]⟩) := hP3.cell 0
      have p1 : w3.cell? ⟨B + 1 + 1, 1, none⟩ = some (.string ⟨#[]⟩) := hP3.cell 1
      have t0 := hP3.frozen 0
      have t1 := hP3.frozen 1
      have HRES := Lib.hid ((hP3.set_ 0 (.string ⟨#[]⟩)).set_ 1 (.string ⟨#[]⟩))
      have HBF := Lib.hid ((hB3.setCell (p := ⟨B + 1 + 1, 0, none⟩) (by show w.heap.size ≤ B + 1 + 1; omega) (.string ⟨#[]⟩)).setCell (p := ⟨B + 1 + 1, 1, none⟩) (by show w.heap.size ≤ B + 1 + 1; omega) (.string ⟨#[]⟩))
      clear hP3 hB3 hb3 x0 x1 x2 x3 y0 y1 y2 y3
      go_wp2
      refine bodyPost_ret (results_grw rfl _ _ (B + 1 + 1) 31 zpair _ rfl HRES.out Try.underlying31 rfl infoPair) rfl ?_
      exact ⟨rfl, HBF.out⟩
    | true =>
      go_enter Try.func11, Try.ntmps11
      go_wp2_with (first | rw [HW0.out] | rw [HW1.out] | rw [HW2.out])
      refine H.out.mono ?_
      rintro e w3 ⟨⟨tA, tD, rfl, hpo⟩, hb3⟩
      have hP3 := HP2.out.below hb3 HP2.out.lt
      have hB3 := HBl.out.trans (hb3.mono HBl.out.size)
      have p0 : w3.cell? ⟨B + 1 + 1, 0, none⟩ = some (.string ⟨#[]⟩) := hP3.cell 0
      have p1 : w3.cell? ⟨B + 1 + 1, 1, none⟩ = some (.string ⟨#[]⟩) := hP3.cell 1
      have t0 := hP3.frozen 0
      have t1 := hP3.frozen 1
      have HRES := Lib.hid ((hP3.set_ 0 (.string tA)).set_ 1 (.string tD))
      have HBF := Lib.hid ((hB3.setCell (p := ⟨B + 1 + 1, 0, none⟩) (by show w.heap.size ≤ B + 1 + 1; omega) (.string tA)).setCell (p := ⟨B + 1 + 1, 1, none⟩) (by show w.heap.size ≤ B + 1 + 1; omega) (.string tD))
      have HPO := Lib.hid hpo
      clear hP3 hB3 hb3 hpo x0 x1 x2 x3 y0 y1 y2 y3
      go_wp2
      refine bodyPost_ret (results_grw rfl _ _ (B + 1 + 1) 31 #[.string tA, .string tD] _ rfl HRES.out Try.underlying31 rfl infoPair) rfl ?_
      exact ⟨⟨tA, tD, rfl, HPO.out⟩, HBF.out⟩
  · have e3 : (q : Int) % 3 = 2 := by omega
    have H := Lib.hid (H2.out h3 _ hK1 hK2)
    clear H0 H1 H2 h3
    cases k with
    | false =>
      go_enter Try.func11, Try.ntmps11
      go_wp2_with (first | rw [HW0.out] | rw [HW1.out] | rw [HW2.out])
      refine H.out.mono ?_
      rintro e w3 ⟨rfl, hb3⟩
      have hP3 := HP2.out.below hb3 HP2.out.lt
      have hB3 := HBl.out.trans (hb3.mono HBl.out.size)
      have p0 : w3.cell? ⟨B + 1 + 1, 0, none⟩ = some (.string ⟨#[]⟩) := hP3.cell 0
      have p1 : w3.cell? ⟨B + 1 + 1, 1, none⟩ = some (.string ⟨#[]⟩) := hP3.cell 1
      have t0 := hP3.frozen 0
      have t1 := hP3.frozen 1
      have HRES := Lib.hid ((hP3.set_ 0 (.string ⟨#[]⟩)).set_ 1 (.string ⟨#[]⟩))
      have HBF := Lib.hid ((hB3.setCell (p := ⟨B + 1 + 1, 0, none⟩) (by show w.heap.size ≤ B + 1 + 1; omega) (.string ⟨#[]⟩)).setCell (p := ⟨B + 1 + 1, 1, none⟩) (by show w.heap.size ≤ B + 1 + 1; omega) (.string ⟨#[]⟩))
      clear hP3 hB3 hb3 x0 x1 x2 x3 y0 y1 y2 y3
      go_wp2
      refine bodyPost_ret (results_grw rfl _ _ (B + 1 + 1) 31 zpair _ rfl HRES.out Try.underlying31 rfl infoPair) rfl ?_
      exact ⟨rfl, HBF.out⟩
    | true =>
      go_enter Try.func11, Try.ntmps11
      go_wp2_with (first | rw [HW0.out] | rw [HW1.out] | rw [HW2.out])
      refine H.out.mono ?_
      rintro e w3 ⟨⟨tA, tD, rfl, hpo⟩, hb3⟩
      have hP3 := HP2.out.below hb3 HP2.out.lt
      have hB3 := HBl.out.trans (hb3.mono HBl.out.size)
      have p0 : w3.cell? ⟨B + 1 + 1, 0, none⟩ = some (.string ⟨#[]⟩) := hP3.cell 0
      have p1 : w3.cell? ⟨B + 1 + 1, 1, none⟩ = some (.string ⟨#[]⟩) := hP3.cell 1
      have t0 := hP3.frozen 0
      have t1 := hP3.frozen 1
      have HRES := Lib.hid ((hP3.set_ 0 (.string tA)).set_ 1 (.string tD))
      have HBF := Lib.hid ((hB3.setCell (p := ⟨B + 1 + 1, 0, none⟩) (by show w.heap.size ≤ B + 1 + 1; omega) (.string tA)).setCell (p := ⟨B + 1 + 1, 1, none⟩) (by show w.heap.size ≤ B + 1 + 1; omega) (.string tD))
      have HPO := Lib.hid hpo
      clear hP3 hB3 hb3 hpo x0 x1 x2 x3 y0 y1 y2 y3
      go_wp2
      refine bodyPost_ret (results_grw rfl _ _ (B + 1 + 1) 31 #[.string tA, .string tD] _ rfl HRES.out Try.underlying31 rfl infoPair) rfl ?_
      exact ⟨⟨tA, tD, rfl, HPO.out⟩, HBF.out⟩
set_option maxRecDepth 100000 in
set_option maxHeartbeats 16000000 in
theorem law_leaves8 (q : Int) (hq : 0 ≤ q ∧ q ≤ 255) (a b : Clm) (w : World) (hca : a.raw w) (hcb : b.raw w) :
    Calls Try.prog 4 #[.int .u8 q, a.val, b.val] w fun e w' => e = .returned (.bool true) ∧ Below w.heap.size w w' := by
  obtain ⟨q, rfl⟩ := Int.eq_ofNat_of_zero_le hq.1
  have HA := Lib.hid awake8_any
  have HFa := Lib.hid (fun W hW => few8_any a W hW)
  have HFb := Lib.hid (fun W hW => few8_any b W hW)
  have HRa := Lib.hid (fun (hs : a.len ≤ 40 ∧ a.lf.size ≤ 100) W (hW : a.raw W) => rroot8_any (by omega) (hash_any q (by omega)) (hF_size q) a W (hW.ok hs.2 hs.1))
  have HRb := Lib.hid (fun (hs : b.len ≤ 40 ∧ b.lf.size ≤ 100) W (hW : b.raw W) => rroot8_any (by omega) (hash_any q (by omega)) (hF_size q) b W (hW.ok hs.2 hs.1))
  have HLv := Lib.hid (fun (hs : a.len ≤ 40 ∧ a.lf.size ≤ 100) (hs' : b.len ≤ 40 ∧ b.lf.size ≤ 100) W (hW : a.raw W) (hW' : b.raw W) => lleaves_any q (by omega) (rtC (hF q) (opC (hF q) a)).1 a b W (hW.ok hs.2 hs.1) (hW'.ok hs'.2 hs'.1))
  have HCo := Lib.hid (fun A D (h1 : A.size ≤ 1000) (h2 : D.size ≤ 1000) (h3 : A ≠ D) (h4 : hF q A = hF q D) W => collides_any (hash_any q (by omega)) A D h1 h2 h3 h4 W)
  have HKa := Lib.hid hca
  have HKb := Lib.hid hcb
  clear hca hcb
  obtain ⟨k, hk⟩ : ∃ k, okL (hF q) (rtC (hF q) (opC (hF q) a)).1 a b = k := ⟨_, rfl⟩
  rw [hk] at HLv
  unfold okL clC holC at hk
  generalize rtC (hF q) (opC (hF q) a) = Ta at *
  generalize rtC (hF q) (opC (hF q) b) = Tb at *
  generalize hF q = h at *
  obtain ⟨r, ka⟩ := Ta
  obtain ⟨s, kb⟩ := Tb
  obtain ⟨lf, I, N, oa, len, cap, ss⟩ := a
  obtain ⟨lf', I', N', oa', len', cap', ss'⟩ := b
  change (decide (N = N') && decide (I = I' ∧ lf ≠ lf') && decide ((r, ka) = (r, true)) && decide ((s, kb) = (r, true))) = k at hk
  change Hid (∀ W, _ → Calls _ _ #[.agg #[.string lf, .int .i64 I, .int .i64 N, .slice oa len cap]] W (RF8 len lf.size W.heap.size W)) at HFa
  change Hid (∀ W, _ → Calls _ _ #[.agg #[.string lf', .int .i64 I', .int .i64 N', .slice oa' len' cap']] W (RF8 len' lf'.size W.heap.size W)) at HFb
  change Hid (len ≤ 40 ∧ lf.size ≤ 100 → ∀ W, _ → Calls _ _ #[_, .agg #[.string lf, .int .i64 I, .int .i64 N, .slice oa len cap]] W fun e w' => e = .returned (.tuple #[.string r, .bool ka]) ∧ _) at HRa
  change Hid (len' ≤ 40 ∧ lf'.size ≤ 100 → ∀ W, _ → Calls _ _ #[_, .agg #[.string lf', .int .i64 I', .int .i64 N', .slice oa' len' cap']] W fun e w' => e = .returned (.tuple #[.string s, .bool kb]) ∧ _) at HRb
  change Hid (len ≤ 40 ∧ lf.size ≤ 100 → len' ≤ 40 ∧ lf'.size ≤ 100 → ∀ W, _ → _ → Calls _ _ #[_, .string r, .agg #[.string lf, .int .i64 I, .int .i64 N, .slice oa len cap], .agg #[.string lf', .int .i64 I', .int .i64 N', .slice oa' len' cap']] W _) at HLv
  show Calls _ _ #[_, .agg #[.string lf, .int .i64 I, .int .i64 N, .slice oa len cap], .agg #[.string lf', .int .i64 I', .int .i64 N', .slice oa' len' cap']] _ _
  obtain ⟨B, hB⟩ : ∃ B, w.heap.size = B := ⟨_, rfl⟩
  obtain ⟨w0, hw0⟩ : ∃ w0, w.alloc (.cells #[.string lf, .int .i64 I, .int .i64 N, .slice oa len cap] 24) = w0 := ⟨_, rfl⟩
  obtain ⟨w1, hw1⟩ : ∃ w1, w0.alloc (.cells #[.string lf', .int .i64 I', .int .i64 N', .slice oa' len' cap'] 24) = w1 := ⟨_, rfl⟩
  have z0 : w0.heap.size = B + 1 := by rw [← hw0]; simp [hB]
  have kA : Blk w1 B 24 #[.string lf, .int .i64 I, .int .i64 N, .slice oa len cap] := by rw [← hw1, ← hw0, ← hB]; exact (Blk.new _ _ _).alloc _
  have kB : Blk w1 (B + 1) 24 #[.string lf', .int .i64 I', .int .i64 N', .slice oa' len' cap'] := by rw [← hw1]; exact Blk.new_at z0.symm
  have hB1 : Below w.heap.size w w1 := by rw [← hw1, ← hw0]; exact ((Below.refl _ w).alloc (Nat.le_refl _) _).alloc (by simp) _
  have HW0 := Lib.hid hw0
  have HW1 := Lib.hid hw1
  have HA1 := Lib.hid kA
  have HB1 := Lib.hid kB
  have HBl := Lib.hid hB1
  have HKK := Lib.hid hk
  have heq := eq_pair
  clear hw0 hw1 kA kB hB1 hk
  cases ka with
  | false =>
    have HF := Lib.hid (show k = false by rw [← HKK.out]; simp)
    rw [HF.out] at HLv
    go_enter Try.func4, Try.ntmps4
    go_wp2_with (first | rw [HW0.out] | rw [HW1.out])
    refine (HA.out _).mono ?_
    rintro e w2 ⟨rfl, hb2⟩
    have hA2 := HA1.out.below hb2 HA1.out.lt
    have hB2' := HB1.out.below hb2 HB1.out.lt
    have hB2 := HBl.out.trans (hb2.mono HBl.out.size)
    clear hb2
    have x0 : w2.cell? ⟨B, 0, none⟩ = some (.string lf) := hA2.cell 0
    have x1 : w2.cell? ⟨B, 1, none⟩ = some (.int .i64 I) := hA2.cell 1
    have x2 : w2.cell? ⟨B, 2, none⟩ = some (.int .i64 N) := hA2.cell 2
    have x3 : w2.cell? ⟨B, 3, none⟩ = some (.slice oa len cap) := hA2.cell 3
    have y0 : w2.cell? ⟨B + 1, 0, none⟩ = some (.string lf') := hB2'.cell 0
    have y1 : w2.cell? ⟨B + 1, 1, none⟩ = some (.int .i64 I') := hB2'.cell 1
    have y2 : w2.cell? ⟨B + 1, 2, none⟩ = some (.int .i64 N') := hB2'.cell 2
    have y3 : w2.cell? ⟨B + 1, 3, none⟩ = some (.slice oa' len' cap') := hB2'.cell 3
    go_wp2_with fail
    refine (HFa.out _ (HKa.out.below hB2)).mono ?_
    rintro e w3 ⟨⟨bf, rfl, hbf⟩, hb3⟩
    have hA3 := hA2.below hb3 hA2.lt
    have hB3' := hB2'.below hb3 hB2'.lt
    have hB3 := hB2.trans (hb3.mono hB2.size)
    clear hb3 x0 x1 x2 x3 y0 y1 y2 y3
    have x0 : w3.cell? ⟨B, 0, none⟩ = some (.string lf) := hA3.cell 0
    have x1 : w3.cell? ⟨B, 1, none⟩ = some (.int .i64 I) := hA3.cell 1
    have x2 : w3.cell? ⟨B, 2, none⟩ = some (.int .i64 N) := hA3.cell 2
    have x3 : w3.cell? ⟨B, 3, none⟩ = some (.slice oa len cap) := hA3.cell 3
    have y0 : w3.cell? ⟨B + 1, 0, none⟩ = some (.string lf') := hB3'.cell 0
    have y1 : w3.cell? ⟨B + 1, 1, none⟩ = some (.int .i64 I') := hB3'.cell 1
    have y2 : w3.cell? ⟨B + 1, 2, none⟩ = some (.int .i64 N') := hB3'.cell 2
    have y3 : w3.cell? ⟨B + 1, 3, none⟩ = some (.slice oa' len' cap') := hB3'.cell 3
    cases bf
    · clear hbf
      go_wp2_with fail
      refine (HA.out _).mono ?_
      rintro e wz ⟨rfl, hbz⟩
      have hBz := hB3.trans (hbz.mono hB3.size)
      go_wp2
      go_ret
      exact ⟨rfl, hBz⟩
    have HS := Lib.hid (hbf rfl)
    clear hbf
    go_wp2_with fail
    refine (HFb.out _ (HKb.out.below hB3)).mono ?_
    rintro e w4 ⟨⟨bg, rfl, hbg⟩, hb4⟩
    have hA4 := hA3.below hb4 hA3.lt
    have hB4' := hB3'.below hb4 hB3'.lt
    have hB4 := hB3.trans (hb4.mono hB3.size)
    clear hb4 x0 x1 x2 x3 y0 y1 y2 y3
    have x0 : w4.cell? ⟨B, 0, none⟩ = some (.string lf) := hA4.cell 0
    have x1 : w4.cell? ⟨B, 1, none⟩ = some (.int .i64 I) := hA4.cell 1
    have x2 : w4.cell? ⟨B, 2, none⟩ = some (.int .i64 N) := hA4.cell 2
    have x3 : w4.cell? ⟨B, 3, none⟩ = some (.slice oa len cap) := hA4.cell 3
    have y0 : w4.cell? ⟨B + 1, 0, none⟩ = some (.string lf') := hB4'.cell 0
    have y1 : w4.cell? ⟨B + 1, 1, none⟩ = some (.int .i64 I') := hB4'.cell 1
    have y2 : w4.cell? ⟨B + 1, 2, none⟩ = some (.int .i64 N') := hB4'.cell 2
    have y3 : w4.cell? ⟨B + 1, 3, none⟩ = some (.slice oa' len' cap') := hB4'.cell 3
    cases bg
    · clear hbg
      go_wp2_with fail
      refine (HA.out _).mono ?_
      rintro e wz ⟨rfl, hbz⟩
      have hBz := hB4.trans (hbz.mono hB4.size)
      go_wp2
      go_ret
      exact ⟨rfl, hBz⟩
    have HS2 := Lib.hid (hbg rfl)
    clear hbg
    go_wp2_with fail
    refine (HRa.out HS.out _ (HKa.out.below hB4)).mono ?_
    rintro e w5 ⟨rfl, hb5⟩
    have hA5 := hA4.below hb5 hA4.lt
    have hB5' := hB4'.below hb5 hB4'.lt
    have hB5 := hB4.trans (hb5.mono hB4.size)
    clear hb5 x0 x1 x2 x3 y0 y1 y2 y3
    have x0 : w5.cell? ⟨B, 0, none⟩ = some (.string lf) := hA5.cell 0
    have x1 : w5.cell? ⟨B, 1, none⟩ = some (.int .i64 I) := hA5.cell 1
    have x2 : w5.cell? ⟨B, 2, none⟩ = some (.int .i64 N) := hA5.cell 2
    have x3 : w5.cell? ⟨B, 3, none⟩ = some (.slice oa len cap) := hA5.cell 3
    have y0 : w5.cell? ⟨B + 1, 0, none⟩ = some (.string lf') := hB5'.cell 0
    have y1 : w5.cell? ⟨B + 1, 1, none⟩ = some (.int .i64 I') := hB5'.cell 1
    have y2 : w5.cell? ⟨B + 1, 2, none⟩ = some (.int .i64 N') := hB5'.cell 2
    have y3 : w5.cell? ⟨B + 1, 3, none⟩ = some (.slice oa' len' cap') := hB5'.cell 3
    go_wp2_with fail
    refine (HRb.out HS2.out _ (HKb.out.below hB5)).mono ?_
    rintro e w6 ⟨rfl, hb6⟩
    have hA6 := hA5.below hb6 hA5.lt
    have hB6' := hB5'.below hb6 hB5'.lt
    have hB6 := hB5.trans (hb6.mono hB5.size)
    clear hb6 x0 x1 x2 x3 y0 y1 y2 y3
    have x0 : w6.cell? ⟨B, 0, none⟩ = some (.string lf) := hA6.cell 0
    have x1 : w6.cell? ⟨B, 1, none⟩ = some (.int .i64 I) := hA6.cell 1
    have x2 : w6.cell? ⟨B, 2, none⟩ = some (.int .i64 N) := hA6.cell 2
    have x3 : w6.cell? ⟨B, 3, none⟩ = some (.slice oa len cap) := hA6.cell 3
    have y0 : w6.cell? ⟨B + 1, 0, none⟩ = some (.string lf') := hB6'.cell 0
    have y1 : w6.cell? ⟨B + 1, 1, none⟩ = some (.int .i64 I') := hB6'.cell 1
    have y2 : w6.cell? ⟨B + 1, 2, none⟩ = some (.int .i64 N') := hB6'.cell 2
    have y3 : w6.cell? ⟨B + 1, 3, none⟩ = some (.slice oa' len' cap') := hB6'.cell 3
    go_wp2_with fail
    refine (HLv.out HS.out HS2.out _ (HKa.out.below hB6) (HKb.out.below hB6)).mono ?_
    rintro e w7 ⟨rfl, hb7⟩
    skip
    have hA7 := hA6.below hb7 hA6.lt
    have hB7' := hB6'.below hb7 hB6'.lt
    have hB7 := hB6.trans (hb7.mono hB6.size)
    clear hb7 x0 x1 x2 x3 y0 y1 y2 y3
    have x0 : w7.cell? ⟨B, 0, none⟩ = some (.string lf) := hA7.cell 0
    have x1 : w7.cell? ⟨B, 1, none⟩ = some (.int .i64 I) := hA7.cell 1
    have x2 : w7.cell? ⟨B, 2, none⟩ = some (.int .i64 N) := hA7.cell 2
    have x3 : w7.cell? ⟨B, 3, none⟩ = some (.slice oa len cap) := hA7.cell 3
    have y0 : w7.cell? ⟨B + 1, 0, none⟩ = some (.string lf') := hB7'.cell 0
    have y1 : w7.cell? ⟨B + 1, 1, none⟩ = some (.int .i64 I') := hB7'.cell 1
    have y2 : w7.cell? ⟨B + 1, 2, none⟩ = some (.int .i64 N') := hB7'.cell 2
    have y3 : w7.cell? ⟨B + 1, 3, none⟩ = some (.slice oa' len' cap') := hB7'.cell 3
    obtain ⟨P, hP⟩ : ∃ P, w7.heap.size = P := ⟨_, rfl⟩
    have hBo := hB7.alloc hB7.size (.cells zpair 31)
    have kO : Blk (w7.alloc (.cells zpair 31)) P 31 zpair := by rw [← hP]; exact Blk.new _ _ _
    have hAo := hA7.alloc (.cells zpair 31)
    have hBz := hB7'.alloc (.cells zpair 31)
    have hwP : w.heap.size ≤ P := by rw [← hP]; exact hB7.size
    have hAP : B ≠ P := by have := hA7.lt; omega
    have hBP : B + 1 ≠ P := by have := hB7'.lt; omega
    obtain ⟨wo, hwo⟩ : ∃ wo, w7.alloc (.cells zpair 31) = wo := ⟨_, rfl⟩
    rw [hwo] at hBo kO hAo hBz
    have HWO := Lib.hid hwo
    have hBx := (hBo.setCell (p := ⟨P, 0, none⟩) hwP (.string ⟨#[]⟩)).setCell (p := ⟨P, 1, none⟩) hwP (.string ⟨#[]⟩)
    have kP := (kO.set_ 0 (.string ⟨#[]⟩)).set_ 1 (.string ⟨#[]⟩)
    have hAx := (hAo.far (p := ⟨P, 0, none⟩) hAP (.string ⟨#[]⟩)).far (p := ⟨P, 1, none⟩) hAP (.string ⟨#[]⟩)
    have hBy := (hBz.far (p := ⟨P, 0, none⟩) hBP (.string ⟨#[]⟩)).far (p := ⟨P, 1, none⟩) hBP (.string ⟨#[]⟩)
    obtain ⟨wp, hwp⟩ : ∃ wp, (wo.setCell ⟨P, 0, none⟩ (.string ⟨#[]⟩)).setCell ⟨P, 1, none⟩ (.string ⟨#[]⟩) = wp := ⟨_, rfl⟩
    rw [hwp] at hBx kP hAx hBy
    have HWP := Lib.hid hwp
    have s2 : wo.cell? ⟨P, 0, none⟩ = some (.string ⟨#[]⟩) := kO.cell 0
    have s3 : wo.cell? ⟨P, 1, none⟩ = some (.string ⟨#[]⟩) := kO.cell 1
    have f2 := kO.frozen 0
    have f3 := kO.frozen 1
    clear hwp hwo hAo hBz hBo kO hAP hBP hwP x0 x1 x2 x3 y0 y1 y2 y3
    have x0 : wp.cell? ⟨B, 0, none⟩ = some (.string lf) := hAx.cell 0
    have x1 : wp.cell? ⟨B, 1, none⟩ = some (.int .i64 I) := hAx.cell 1
    have x2 : wp.cell? ⟨B, 2, none⟩ = some (.int .i64 N) := hAx.cell 2
    have x3 : wp.cell? ⟨B, 3, none⟩ = some (.slice oa len cap) := hAx.cell 3
    have y0 : wp.cell? ⟨B + 1, 0, none⟩ = some (.string lf') := hBy.cell 0
    have y1 : wp.cell? ⟨B + 1, 1, none⟩ = some (.int .i64 I') := hBy.cell 1
    have y2 : wp.cell? ⟨B + 1, 2, none⟩ = some (.int .i64 N') := hBy.cell 2
    have y3 : wp.cell? ⟨B + 1, 3, none⟩ = some (.slice oa' len' cap') := hBy.cell 3
    have s0 : wp.cell? ⟨P, 0, none⟩ = some (.string ⟨#[]⟩) := kP.cell 0
    have s1 : wp.cell? ⟨P, 1, none⟩ = some (.string ⟨#[]⟩) := kP.cell 1
    have f0 := kP.frozen 0
    have f1 := kP.frozen 1
    go_wp2_with (first | rw [HWO.out] | rw [HWP.out])
    go_ret
    exact ⟨rfl, hBx⟩
  | true =>
    cases kb with
    | false =>
      have HF := Lib.hid (show k = false by rw [← HKK.out]; simp)
      rw [HF.out] at HLv
      go_enter Try.func4, Try.ntmps4
      go_wp2_with (first | rw [HW0.out] | rw [HW1.out])
      refine (HA.out _).mono ?_
      rintro e w2 ⟨rfl, hb2⟩
      have hA2 := HA1.out.below hb2 HA1.out.lt
      have hB2' := HB1.out.below hb2 HB1.out.lt
      have hB2 := HBl.out.trans (hb2.mono HBl.out.size)
      clear hb2
      have x0 : w2.cell? ⟨B, 0, none⟩ = some (.string lf) := hA2.cell 0
      have x1 : w2.cell? ⟨B, 1, none⟩ = some (.int .i64 I) := hA2.cell 1
      have x2 : w2.cell? ⟨B, 2, none⟩ = some (.int .i64 N) := hA2.cell 2
      have x3 : w2.cell? ⟨B, 3, none⟩ = some (.slice oa len cap) := hA2.cell 3
      have y0 : w2.cell? ⟨B + 1, 0, none⟩ = some (.string lf') := hB2'.cell 0
      have y1 : w2.cell? ⟨B + 1, 1, none⟩ = some (.int .i64 I') := hB2'.cell 1
      have y2 : w2.cell? ⟨B + 1, 2, none⟩ = some (.int .i64 N') := hB2'.cell 2
      have y3 : w2.cell? ⟨B + 1, 3, none⟩ = some (.slice oa' len' cap') := hB2'.cell 3
      go_wp2_with fail
      refine (HFa.out _ (HKa.out.below hB2)).mono ?_
      rintro e w3 ⟨⟨bf, rfl, hbf⟩, hb3⟩
      have hA3 := hA2.below hb3 hA2.lt
      have hB3' := hB2'.below hb3 hB2'.lt
      have hB3 := hB2.trans (hb3.mono hB2.size)
      clear hb3 x0 x1 x2 x3 y0 y1 y2 y3
      have x0 : w3.cell? ⟨B, 0, none⟩ = some (.string lf) := hA3.cell 0
      have x1 : w3.cell? ⟨B, 1, none⟩ = some (.int .i64 I) := hA3.cell 1
      have x2 : w3.cell? ⟨B, 2, none⟩ = some (.int .i64 N) := hA3.cell 2
      have x3 : w3.cell? ⟨B, 3, none⟩ = some (.slice oa len cap) := hA3.cell 3
      have y0 : w3.cell? ⟨B + 1, 0, none⟩ = some (.string lf') := hB3'.cell 0
      have y1 : w3.cell? ⟨B + 1, 1, none⟩ = some (.int .i64 I') := hB3'.cell 1
      have y2 : w3.cell? ⟨B + 1, 2, none⟩ = some (.int .i64 N') := hB3'.cell 2
      have y3 : w3.cell? ⟨B + 1, 3, none⟩ = some (.slice oa' len' cap') := hB3'.cell 3
      cases bf
      · clear hbf
        go_wp2_with fail
        refine (HA.out _).mono ?_
        rintro e wz ⟨rfl, hbz⟩
        have hBz := hB3.trans (hbz.mono hB3.size)
        go_wp2
        go_ret
        exact ⟨rfl, hBz⟩
      have HS := Lib.hid (hbf rfl)
      clear hbf
      go_wp2_with fail
      refine (HFb.out _ (HKb.out.below hB3)).mono ?_
      rintro e w4 ⟨⟨bg, rfl, hbg⟩, hb4⟩
      have hA4 := hA3.below hb4 hA3.lt
      have hB4' := hB3'.below hb4 hB3'.lt
      have hB4 := hB3.trans (hb4.mono hB3.size)
      clear hb4 x0 x1 x2 x3 y0 y1 y2 y3
      have x0 : w4.cell? ⟨B, 0, none⟩ = some (.string lf) := hA4.cell 0
      have x1 : w4.cell? ⟨B, 1, none⟩ = some (.int .i64 I) := hA4.cell 1
      have x2 : w4.cell? ⟨B, 2, none⟩ = some (.int .i64 N) := hA4.cell 2
      have x3 : w4.cell? ⟨B, 3, none⟩ = some (.slice oa len cap) := hA4.cell 3
      have y0 : w4.cell? ⟨B + 1, 0, none⟩ = some (.string lf') := hB4'.cell 0
      have y1 : w4.cell? ⟨B + 1, 1, none⟩ = some (.int .i64 I') := hB4'.cell 1
      have y2 : w4.cell? ⟨B + 1, 2, none⟩ = some (.int .i64 N') := hB4'.cell 2
      have y3 : w4.cell? ⟨B + 1, 3, none⟩ = some (.slice oa' len' cap') := hB4'.cell 3
      cases bg
      · clear hbg
        go_wp2_with fail
        refine (HA.out _).mono ?_
        rintro e wz ⟨rfl, hbz⟩
        have hBz := hB4.trans (hbz.mono hB4.size)
        go_wp2
        go_ret
        exact ⟨rfl, hBz⟩
      have HS2 := Lib.hid (hbg rfl)
      clear hbg
      go_wp2_with fail
      refine (HRa.out HS.out _ (HKa.out.below hB4)).mono ?_
      rintro e w5 ⟨rfl, hb5⟩
      have hA5 := hA4.below hb5 hA4.lt
      have hB5' := hB4'.below hb5 hB4'.lt
      have hB5 := hB4.trans (hb5.mono hB4.size)
      clear hb5 x0 x1 x2 x3 y0 y1 y2 y3
      have x0 : w5.cell? ⟨B, 0, none⟩ = some (.string lf) := hA5.cell 0
      have x1 : w5.cell? ⟨B, 1, none⟩ = some (.int .i64 I) := hA5.cell 1
      have x2 : w5.cell? ⟨B, 2, none⟩ = some (.int .i64 N) := hA5.cell 2
      have x3 : w5.cell? ⟨B, 3, none⟩ = some (.slice oa len cap) := hA5.cell 3
      have y0 : w5.cell? ⟨B + 1, 0, none⟩ = some (.string lf') := hB5'.cell 0
      have y1 : w5.cell? ⟨B + 1, 1, none⟩ = some (.int .i64 I') := hB5'.cell 1
      have y2 : w5.cell? ⟨B + 1, 2, none⟩ = some (.int .i64 N') := hB5'.cell 2
      have y3 : w5.cell? ⟨B + 1, 3, none⟩ = some (.slice oa' len' cap') := hB5'.cell 3
      go_wp2_with fail
      refine (HRb.out HS2.out _ (HKb.out.below hB5)).mono ?_
      rintro e w6 ⟨rfl, hb6⟩
      have hA6 := hA5.below hb6 hA5.lt
      have hB6' := hB5'.below hb6 hB5'.lt
      have hB6 := hB5.trans (hb6.mono hB5.size)
      clear hb6 x0 x1 x2 x3 y0 y1 y2 y3
      have x0 : w6.cell? ⟨B, 0, none⟩ = some (.string lf) := hA6.cell 0
      have x1 : w6.cell? ⟨B, 1, none⟩ = some (.int .i64 I) := hA6.cell 1
      have x2 : w6.cell? ⟨B, 2, none⟩ = some (.int .i64 N) := hA6.cell 2
      have x3 : w6.cell? ⟨B, 3, none⟩ = some (.slice oa len cap) := hA6.cell 3
      have y0 : w6.cell? ⟨B + 1, 0, none⟩ = some (.string lf') := hB6'.cell 0
      have y1 : w6.cell? ⟨B + 1, 1, none⟩ = some (.int .i64 I') := hB6'.cell 1
      have y2 : w6.cell? ⟨B + 1, 2, none⟩ = some (.int .i64 N') := hB6'.cell 2
      have y3 : w6.cell? ⟨B + 1, 3, none⟩ = some (.slice oa' len' cap') := hB6'.cell 3
      go_wp2_with fail
      refine (HLv.out HS.out HS2.out _ (HKa.out.below hB6) (HKb.out.below hB6)).mono ?_
      rintro e w7 ⟨rfl, hb7⟩
      skip
      have hA7 := hA6.below hb7 hA6.lt
      have hB7' := hB6'.below hb7 hB6'.lt
      have hB7 := hB6.trans (hb7.mono hB6.size)
      clear hb7 x0 x1 x2 x3 y0 y1 y2 y3
      have x0 : w7.cell? ⟨B, 0, none⟩ = some (.string lf) := hA7.cell 0
      have x1 : w7.cell? ⟨B, 1, none⟩ = some (.int .i64 I) := hA7.cell 1
      have x2 : w7.cell? ⟨B, 2, none⟩ = some (.int .i64 N) := hA7.cell 2
      have x3 : w7.cell? ⟨B, 3, none⟩ = some (.slice oa len cap) := hA7.cell 3
      have y0 : w7.cell? ⟨B + 1, 0, none⟩ = some (.string lf') := hB7'.cell 0
      have y1 : w7.cell? ⟨B + 1, 1, none⟩ = some (.int .i64 I') := hB7'.cell 1
      have y2 : w7.cell? ⟨B + 1, 2, none⟩ = some (.int .i64 N') := hB7'.cell 2
      have y3 : w7.cell? ⟨B + 1, 3, none⟩ = some (.slice oa' len' cap') := hB7'.cell 3
      obtain ⟨P, hP⟩ : ∃ P, w7.heap.size = P := ⟨_, rfl⟩
      have hBo := hB7.alloc hB7.size (.cells zpair 31)
      have kO : Blk (w7.alloc (.cells zpair 31)) P 31 zpair := by rw [← hP]; exact Blk.new _ _ _
      have hAo := hA7.alloc (.cells zpair 31)
      have hBz := hB7'.alloc (.cells zpair 31)
      have hwP : w.heap.size ≤ P := by rw [← hP]; exact hB7.size
      have hAP : B ≠ P := by have := hA7.lt; omega
      have hBP : B + 1 ≠ P := by have := hB7'.lt; omega
      obtain ⟨wo, hwo⟩ : ∃ wo, w7.alloc (.cells zpair 31) = wo := ⟨_, rfl⟩
      rw [hwo] at hBo kO hAo hBz
      have HWO := Lib.hid hwo
      have hBx := (hBo.setCell (p := ⟨P, 0, none⟩) hwP (.string ⟨#[]⟩)).setCell (p := ⟨P, 1, none⟩) hwP (.string ⟨#[]⟩)
      have kP := (kO.set_ 0 (.string ⟨#[]⟩)).set_ 1 (.string ⟨#[]⟩)
      have hAx := (hAo.far (p := ⟨P, 0, none⟩) hAP (.string ⟨#[]⟩)).far (p := ⟨P, 1, none⟩) hAP (.string ⟨#[]⟩)
      have hBy := (hBz.far (p := ⟨P, 0, none⟩) hBP (.string ⟨#[]⟩)).far (p := ⟨P, 1, none⟩) hBP (.string ⟨#[]⟩)
      obtain ⟨wp, hwp⟩ : ∃ wp, (wo.setCell ⟨P, 0, none⟩ (.string ⟨#[]⟩)).setCell ⟨P, 1, none⟩ (.string ⟨#[]⟩) = wp := ⟨_, rfl⟩
      rw [hwp] at hBx kP hAx hBy
      have HWP := Lib.hid hwp
      have s2 : wo.cell? ⟨P, 0, none⟩ = some (.string ⟨#[]⟩) := kO.cell 0
      have s3 : wo.cell? ⟨P, 1, none⟩ = some (.string ⟨#[]⟩) := kO.cell 1
      have f2 := kO.frozen 0
      have f3 := kO.frozen 1
      clear hwp hwo hAo hBz hBo kO hAP hBP hwP x0 x1 x2 x3 y0 y1 y2 y3
      have x0 : wp.cell? ⟨B, 0, none⟩ = some (.string lf) := hAx.cell 0
      have x1 : wp.cell? ⟨B, 1, none⟩ = some (.int .i64 I) := hAx.cell 1
      have x2 : wp.cell? ⟨B, 2, none⟩ = some (.int .i64 N) := hAx.cell 2
      have x3 : wp.cell? ⟨B, 3, none⟩ = some (.slice oa len cap) := hAx.cell 3
      have y0 : wp.cell? ⟨B + 1, 0, none⟩ = some (.string lf') := hBy.cell 0
      have y1 : wp.cell? ⟨B + 1, 1, none⟩ = some (.int .i64 I') := hBy.cell 1
      have y2 : wp.cell? ⟨B + 1, 2, none⟩ = some (.int .i64 N') := hBy.cell 2
      have y3 : wp.cell? ⟨B + 1, 3, none⟩ = some (.slice oa' len' cap') := hBy.cell 3
      have s0 : wp.cell? ⟨P, 0, none⟩ = some (.string ⟨#[]⟩) := kP.cell 0
      have s1 : wp.cell? ⟨P, 1, none⟩ = some (.string ⟨#[]⟩) := kP.cell 1
      have f0 := kP.frozen 0
      have f1 := kP.frozen 1
      go_wp2_with (first | rw [HWO.out] | rw [HWP.out])
      go_ret
      exact ⟨rfl, hBx⟩
    | true =>
      by_cases hrs : r = s
      rotate_left
      · obtain ⟨u1, u2⟩ := beqF hrs
        have HF := Lib.hid (show k = false by rw [← HKK.out]; simp only [Prod.mk.injEq, and_true, decide_eq_false (fun e : s = r => hrs e.symm), Bool.and_false])
        rw [HF.out] at HLv
        clear hrs
        go_enter Try.func4, Try.ntmps4
        go_wp2_with (first | rw [HW0.out] | rw [HW1.out])
        refine (HA.out _).mono ?_
        rintro e w2 ⟨rfl, hb2⟩
        have hA2 := HA1.out.below hb2 HA1.out.lt
        have hB2' := HB1.out.below hb2 HB1.out.lt
        have hB2 := HBl.out.trans (hb2.mono HBl.out.size)
        clear hb2
        have x0 : w2.cell? ⟨B, 0, none⟩ = some (.string lf) := hA2.cell 0
        have x1 : w2.cell? ⟨B, 1, none⟩ = some (.int .i64 I) := hA2.cell 1
        have x2 : w2.cell? ⟨B, 2, none⟩ = some (.int .i64 N) := hA2.cell 2
        have x3 : w2.cell? ⟨B, 3, none⟩ = some (.slice oa len cap) := hA2.cell 3
        have y0 : w2.cell? ⟨B + 1, 0, none⟩ = some (.string lf') := hB2'.cell 0
        have y1 : w2.cell? ⟨B + 1, 1, none⟩ = some (.int .i64 I') := hB2'.cell 1
        have y2 : w2.cell? ⟨B + 1, 2, none⟩ = some (.int .i64 N') := hB2'.cell 2
        have y3 : w2.cell? ⟨B + 1, 3, none⟩ = some (.slice oa' len' cap') := hB2'.cell 3
        go_wp2_with fail
        refine (HFa.out _ (HKa.out.below hB2)).mono ?_
        rintro e w3 ⟨⟨bf, rfl, hbf⟩, hb3⟩
        have hA3 := hA2.below hb3 hA2.lt
        have hB3' := hB2'.below hb3 hB2'.lt
        have hB3 := hB2.trans (hb3.mono hB2.size)
        clear hb3 x0 x1 x2 x3 y0 y1 y2 y3
        have x0 : w3.cell? ⟨B, 0, none⟩ = some (.string lf) := hA3.cell 0
        have x1 : w3.cell? ⟨B, 1, none⟩ = some (.int .i64 I) := hA3.cell 1
        have x2 : w3.cell? ⟨B, 2, none⟩ = some (.int .i64 N) := hA3.cell 2
        have x3 : w3.cell? ⟨B, 3, none⟩ = some (.slice oa len cap) := hA3.cell 3
        have y0 : w3.cell? ⟨B + 1, 0, none⟩ = some (.string lf') := hB3'.cell 0
        have y1 : w3.cell? ⟨B + 1, 1, none⟩ = some (.int .i64 I') := hB3'.cell 1
        have y2 : w3.cell? ⟨B + 1, 2, none⟩ = some (.int .i64 N') := hB3'.cell 2
        have y3 : w3.cell? ⟨B + 1, 3, none⟩ = some (.slice oa' len' cap') := hB3'.cell 3
        cases bf
        · clear hbf
          go_wp2_with fail
          refine (HA.out _).mono ?_
          rintro e wz ⟨rfl, hbz⟩
          have hBz := hB3.trans (hbz.mono hB3.size)
          go_wp2
          go_ret
          exact ⟨rfl, hBz⟩
        have HS := Lib.hid (hbf rfl)
        clear hbf
        go_wp2_with fail
        refine (HFb.out _ (HKb.out.below hB3)).mono ?_
        rintro e w4 ⟨⟨bg, rfl, hbg⟩, hb4⟩
        have hA4 := hA3.below hb4 hA3.lt
        have hB4' := hB3'.below hb4 hB3'.lt
        have hB4 := hB3.trans (hb4.mono hB3.size)
        clear hb4 x0 x1 x2 x3 y0 y1 y2 y3
        have x0 : w4.cell? ⟨B, 0, none⟩ = some (.string lf) := hA4.cell 0
        have x1 : w4.cell? ⟨B, 1, none⟩ = some (.int .i64 I) := hA4.cell 1
        have x2 : w4.cell? ⟨B, 2, none⟩ = some (.int .i64 N) := hA4.cell 2
        have x3 : w4.cell? ⟨B, 3, none⟩ = some (.slice oa len cap) := hA4.cell 3
        have y0 : w4.cell? ⟨B + 1, 0, none⟩ = some (.string lf') := hB4'.cell 0
        have y1 : w4.cell? ⟨B + 1, 1, none⟩ = some (.int .i64 I') := hB4'.cell 1
        have y2 : w4.cell? ⟨B + 1, 2, none⟩ = some (.int .i64 N') := hB4'.cell 2
        have y3 : w4.cell? ⟨B + 1, 3, none⟩ = some (.slice oa' len' cap') := hB4'.cell 3
        cases bg
        · clear hbg
          go_wp2_with fail
          refine (HA.out _).mono ?_
          rintro e wz ⟨rfl, hbz⟩
          have hBz := hB4.trans (hbz.mono hB4.size)
          go_wp2
          go_ret
          exact ⟨rfl, hBz⟩
        have HS2 := Lib.hid (hbg rfl)
        clear hbg
        go_wp2_with fail
        refine (HRa.out HS.out _ (HKa.out.below hB4)).mono ?_
        rintro e w5 ⟨rfl, hb5⟩
        have hA5 := hA4.below hb5 hA4.lt
        have hB5' := hB4'.below hb5 hB4'.lt
        have hB5 := hB4.trans (hb5.mono hB4.size)
        clear hb5 x0 x1 x2 x3 y0 y1 y2 y3
        have x0 : w5.cell? ⟨B, 0, none⟩ = some (.string lf) := hA5.cell 0
        have x1 : w5.cell? ⟨B, 1, none⟩ = some (.int .i64 I) := hA5.cell 1
        have x2 : w5.cell? ⟨B, 2, none⟩ = some (.int .i64 N) := hA5.cell 2
        have x3 : w5.cell? ⟨B, 3, none⟩ = some (.slice oa len cap) := hA5.cell 3
        have y0 : w5.cell? ⟨B + 1, 0, none⟩ = some (.string lf') := hB5'.cell 0
        have y1 : w5.cell? ⟨B + 1, 1, none⟩ = some (.int .i64 I') := hB5'.cell 1
        have y2 : w5.cell? ⟨B + 1, 2, none⟩ = some (.int .i64 N') := hB5'.cell 2
        have y3 : w5.cell? ⟨B + 1, 3, none⟩ = some (.slice oa' len' cap') := hB5'.cell 3
        go_wp2_with fail
        refine (HRb.out HS2.out _ (HKb.out.below hB5)).mono ?_
        rintro e w6 ⟨rfl, hb6⟩
        have hA6 := hA5.below hb6 hA5.lt
        have hB6' := hB5'.below hb6 hB5'.lt
        have hB6 := hB5.trans (hb6.mono hB5.size)
        clear hb6 x0 x1 x2 x3 y0 y1 y2 y3
        have x0 : w6.cell? ⟨B, 0, none⟩ = some (.string lf) := hA6.cell 0
        have x1 : w6.cell? ⟨B, 1, none⟩ = some (.int .i64 I) := hA6.cell 1
        have x2 : w6.cell? ⟨B, 2, none⟩ = some (.int .i64 N) := hA6.cell 2
        have x3 : w6.cell? ⟨B, 3, none⟩ = some (.slice oa len cap) := hA6.cell 3
        have y0 : w6.cell? ⟨B + 1, 0, none⟩ = some (.string lf') := hB6'.cell 0
        have y1 : w6.cell? ⟨B + 1, 1, none⟩ = some (.int .i64 I') := hB6'.cell 1
        have y2 : w6.cell? ⟨B + 1, 2, none⟩ = some (.int .i64 N') := hB6'.cell 2
        have y3 : w6.cell? ⟨B + 1, 3, none⟩ = some (.slice oa' len' cap') := hB6'.cell 3
        go_wp2_with fail
        refine (HLv.out HS.out HS2.out _ (HKa.out.below hB6) (HKb.out.below hB6)).mono ?_
        rintro e w7 ⟨rfl, hb7⟩
        skip
        have hA7 := hA6.below hb7 hA6.lt
        have hB7' := hB6'.below hb7 hB6'.lt
        have hB7 := hB6.trans (hb7.mono hB6.size)
        clear hb7 x0 x1 x2 x3 y0 y1 y2 y3
        have x0 : w7.cell? ⟨B, 0, none⟩ = some (.string lf) := hA7.cell 0
        have x1 : w7.cell? ⟨B, 1, none⟩ = some (.int .i64 I) := hA7.cell 1
        have x2 : w7.cell? ⟨B, 2, none⟩ = some (.int .i64 N) := hA7.cell 2
        have x3 : w7.cell? ⟨B, 3, none⟩ = some (.slice oa len cap) := hA7.cell 3
        have y0 : w7.cell? ⟨B + 1, 0, none⟩ = some (.string lf') := hB7'.cell 0
        have y1 : w7.cell? ⟨B + 1, 1, none⟩ = some (.int .i64 I') := hB7'.cell 1
        have y2 : w7.cell? ⟨B + 1, 2, none⟩ = some (.int .i64 N') := hB7'.cell 2
        have y3 : w7.cell? ⟨B + 1, 3, none⟩ = some (.slice oa' len' cap') := hB7'.cell 3
        obtain ⟨P, hP⟩ : ∃ P, w7.heap.size = P := ⟨_, rfl⟩
        have hBo := hB7.alloc hB7.size (.cells zpair 31)
        have kO : Blk (w7.alloc (.cells zpair 31)) P 31 zpair := by rw [← hP]; exact Blk.new _ _ _
        have hAo := hA7.alloc (.cells zpair 31)
        have hBz := hB7'.alloc (.cells zpair 31)
        have hwP : w.heap.size ≤ P := by rw [← hP]; exact hB7.size
        have hAP : B ≠ P := by have := hA7.lt; omega
        have hBP : B + 1 ≠ P := by have := hB7'.lt; omega
        obtain ⟨wo, hwo⟩ : ∃ wo, w7.alloc (.cells zpair 31) = wo := ⟨_, rfl⟩
        rw [hwo] at hBo kO hAo hBz
        have HWO := Lib.hid hwo
        have hBx := (hBo.setCell (p := ⟨P, 0, none⟩) hwP (.string ⟨#[]⟩)).setCell (p := ⟨P, 1, none⟩) hwP (.string ⟨#[]⟩)
        have kP := (kO.set_ 0 (.string ⟨#[]⟩)).set_ 1 (.string ⟨#[]⟩)
        have hAx := (hAo.far (p := ⟨P, 0, none⟩) hAP (.string ⟨#[]⟩)).far (p := ⟨P, 1, none⟩) hAP (.string ⟨#[]⟩)
        have hBy := (hBz.far (p := ⟨P, 0, none⟩) hBP (.string ⟨#[]⟩)).far (p := ⟨P, 1, none⟩) hBP (.string ⟨#[]⟩)
        obtain ⟨wp, hwp⟩ : ∃ wp, (wo.setCell ⟨P, 0, none⟩ (.string ⟨#[]⟩)).setCell ⟨P, 1, none⟩ (.string ⟨#[]⟩) = wp := ⟨_, rfl⟩
        rw [hwp] at hBx kP hAx hBy
        have HWP := Lib.hid hwp
        have s2 : wo.cell? ⟨P, 0, none⟩ = some (.string ⟨#[]⟩) := kO.cell 0
        have s3 : wo.cell? ⟨P, 1, none⟩ = some (.string ⟨#[]⟩) := kO.cell 1
        have f2 := kO.frozen 0
        have f3 := kO.frozen 1
        clear hwp hwo hAo hBz hBo kO hAP hBP hwP x0 x1 x2 x3 y0 y1 y2 y3
        have x0 : wp.cell? ⟨B, 0, none⟩ = some (.string lf) := hAx.cell 0
        have x1 : wp.cell? ⟨B, 1, none⟩ = some (.int .i64 I) := hAx.cell 1
        have x2 : wp.cell? ⟨B, 2, none⟩ = some (.int .i64 N) := hAx.cell 2
        have x3 : wp.cell? ⟨B, 3, none⟩ = some (.slice oa len cap) := hAx.cell 3
        have y0 : wp.cell? ⟨B + 1, 0, none⟩ = some (.string lf') := hBy.cell 0
        have y1 : wp.cell? ⟨B + 1, 1, none⟩ = some (.int .i64 I') := hBy.cell 1
        have y2 : wp.cell? ⟨B + 1, 2, none⟩ = some (.int .i64 N') := hBy.cell 2
        have y3 : wp.cell? ⟨B + 1, 3, none⟩ = some (.slice oa' len' cap') := hBy.cell 3
        have s0 : wp.cell? ⟨P, 0, none⟩ = some (.string ⟨#[]⟩) := kP.cell 0
        have s1 : wp.cell? ⟨P, 1, none⟩ = some (.string ⟨#[]⟩) := kP.cell 1
        have f0 := kP.frozen 0
        have f1 := kP.frozen 1
        go_wp2_with (first | rw [HWO.out] | rw [HWP.out])
        go_ret
        exact ⟨rfl, hBx⟩
      obtain ⟨u1, u2⟩ := beqT hrs
      by_cases hI : I = I'
      rotate_left
      · have v1 : (I == I') = false := by rw [beq_eq_false_iff_ne]; exact hI
        have HF := Lib.hid (show k = false by rw [← HKK.out]; simp [hI])
        rw [HF.out] at HLv
        clear hI hrs
        go_enter Try.func4, Try.ntmps4
        go_wp2_with (first | rw [HW0.out] | rw [HW1.out])
        refine (HA.out _).mono ?_
        rintro e w2 ⟨rfl, hb2⟩
        have hA2 := HA1.out.below hb2 HA1.out.lt
        have hB2' := HB1.out.below hb2 HB1.out.lt
        have hB2 := HBl.out.trans (hb2.mono HBl.out.size)
        clear hb2
        have x0 : w2.cell? ⟨B, 0, none⟩ = some (.string lf) := hA2.cell 0
        have x1 : w2.cell? ⟨B, 1, none⟩ = some (.int .i64 I) := hA2.cell 1
        have x2 : w2.cell? ⟨B, 2, none⟩ = some (.int .i64 N) := hA2.cell 2
        have x3 : w2.cell? ⟨B, 3, none⟩ = some (.slice oa len cap) := hA2.cell 3
        have y0 : w2.cell? ⟨B + 1, 0, none⟩ = some (.string lf') := hB2'.cell 0
        have y1 : w2.cell? ⟨B + 1, 1, none⟩ = some (.int .i64 I') := hB2'.cell 1
        have y2 : w2.cell? ⟨B + 1, 2, none⟩ = some (.int .i64 N') := hB2'.cell 2
        have y3 : w2.cell? ⟨B + 1, 3, none⟩ = some (.slice oa' len' cap') := hB2'.cell 3
        go_wp2_with fail
        refine (HFa.out _ (HKa.out.below hB2)).mono ?_
        rintro e w3 ⟨⟨bf, rfl, hbf⟩, hb3⟩
        have hA3 := hA2.below hb3 hA2.lt
        have hB3' := hB2'.below hb3 hB2'.lt
        have hB3 := hB2.trans (hb3.mono hB2.size)
        clear hb3 x0 x1 x2 x3 y0 y1 y2 y3
        have x0 : w3.cell? ⟨B, 0, none⟩ = some (.string lf) := hA3.cell 0
        have x1 : w3.cell? ⟨B, 1, none⟩ = some (.int .i64 I) := hA3.cell 1
        have x2 : w3.cell? ⟨B, 2, none⟩ = some (.int .i64 N) := hA3.cell 2
        have x3 : w3.cell? ⟨B, 3, none⟩ = some (.slice oa len cap) := hA3.cell 3
        have y0 : w3.cell? ⟨B + 1, 0, none⟩ = some (.string lf') := hB3'.cell 0
        have y1 : w3.cell? ⟨B + 1, 1, none⟩ = some (.int .i64 I') := hB3'.cell 1
        have y2 : w3.cell? ⟨B + 1, 2, none⟩ = some (.int .i64 N') := hB3'.cell 2
        have y3 : w3.cell? ⟨B + 1, 3, none⟩ = some (.slice oa' len' cap') := hB3'.cell 3
        cases bf
        · clear hbf
          go_wp2_with fail
          refine (HA.out _).mono ?_
          rintro e wz ⟨rfl, hbz⟩
          have hBz := hB3.trans (hbz.mono hB3.size)
          go_wp2
          go_ret
          exact ⟨rfl, hBz⟩
        have HS := Lib.hid (hbf rfl)
        clear hbf
        go_wp2_with fail
        refine (HFb.out _ (HKb.out.below hB3)).mono ?_
        rintro e w4 ⟨⟨bg, rfl, hbg⟩, hb4⟩
        have hA4 := hA3.below hb4 hA3.lt
        have hB4' := hB3'.below hb4 hB3'.lt
        have hB4 := hB3.trans (hb4.mono hB3.size)
        clear hb4 x0 x1 x2 x3 y0 y1 y2 y3
        have x0 : w4.cell? ⟨B, 0, none⟩ = some (.string lf) := hA4.cell 0
        have x1 : w4.cell? ⟨B, 1, none⟩ = some (.int .i64 I) := hA4.cell 1
        have x2 : w4.cell? ⟨B, 2, none⟩ = some (.int .i64 N) := hA4.cell 2
        have x3 : w4.cell? ⟨B, 3, none⟩ = some (.slice oa len cap) := hA4.cell 3
        have y0 : w4.cell? ⟨B + 1, 0, none⟩ = some (.string lf') := hB4'.cell 0
        have y1 : w4.cell? ⟨B + 1, 1, none⟩ = some (.int .i64 I') := hB4'.cell 1
        have y2 : w4.cell? ⟨B + 1, 2, none⟩ = some (.int .i64 N') := hB4'.cell 2
        have y3 : w4.cell? ⟨B + 1, 3, none⟩ = some (.slice oa' len' cap') := hB4'.cell 3
        cases bg
        · clear hbg
          go_wp2_with fail
          refine (HA.out _).mono ?_
          rintro e wz ⟨rfl, hbz⟩
          have hBz := hB4.trans (hbz.mono hB4.size)
          go_wp2
          go_ret
          exact ⟨rfl, hBz⟩
        have HS2 := Lib.hid (hbg rfl)
        clear hbg
        go_wp2_with fail
        refine (HRa.out HS.out _ (HKa.out.below hB4)).mono ?_
        rintro e w5 ⟨rfl, hb5⟩
        have hA5 := hA4.below hb5 hA4.lt
        have hB5' := hB4'.below hb5 hB4'.lt
        have hB5 := hB4.trans (hb5.mono hB4.size)
        clear hb5 x0 x1 x2 x3 y0 y1 y2 y3
        have x0 : w5.cell? ⟨B, 0, none⟩ = some (.string lf) := hA5.cell 0
        have x1 : w5.cell? ⟨B, 1, none⟩ = some (.int .i64 I) := hA5.cell 1
        have x2 : w5.cell? ⟨B, 2, none⟩ = some (.int .i64 N) := hA5.cell 2
        have x3 : w5.cell? ⟨B, 3, none⟩ = some (.slice oa len cap) := hA5.cell 3
        have y0 : w5.cell? ⟨B + 1, 0, none⟩ = some (.string lf') := hB5'.cell 0
        have y1 : w5.cell? ⟨B + 1, 1, none⟩ = some (.int .i64 I') := hB5'.cell 1
        have y2 : w5.cell? ⟨B + 1, 2, none⟩ = some (.int .i64 N') := hB5'.cell 2
        have y3 : w5.cell? ⟨B + 1, 3, none⟩ = some (.slice oa' len' cap') := hB5'.cell 3
        go_wp2_with fail
        refine (HRb.out HS2.out _ (HKb.out.below hB5)).mono ?_
        rintro e w6 ⟨rfl, hb6⟩
        have hA6 := hA5.below hb6 hA5.lt
        have hB6' := hB5'.below hb6 hB5'.lt
        have hB6 := hB5.trans (hb6.mono hB5.size)
        clear hb6 x0 x1 x2 x3 y0 y1 y2 y3
        have x0 : w6.cell? ⟨B, 0, none⟩ = some (.string lf) := hA6.cell 0
        have x1 : w6.cell? ⟨B, 1, none⟩ = some (.int .i64 I) := hA6.cell 1
        have x2 : w6.cell? ⟨B, 2, none⟩ = some (.int .i64 N) := hA6.cell 2
        have x3 : w6.cell? ⟨B, 3, none⟩ = some (.slice oa len cap) := hA6.cell 3
        have y0 : w6.cell? ⟨B + 1, 0, none⟩ = some (.string lf') := hB6'.cell 0
        have y1 : w6.cell? ⟨B + 1, 1, none⟩ = some (.int .i64 I') := hB6'.cell 1
        have y2 : w6.cell? ⟨B + 1, 2, none⟩ = some (.int .i64 N') := hB6'.cell 2
        have y3 : w6.cell? ⟨B + 1, 3, none⟩ = some (.slice oa' len' cap') := hB6'.cell 3
        go_wp2_with fail
        refine (HLv.out HS.out HS2.out _ (HKa.out.below hB6) (HKb.out.below hB6)).mono ?_
        rintro e w7 ⟨rfl, hb7⟩
        skip
        have hA7 := hA6.below hb7 hA6.lt
        have hB7' := hB6'.below hb7 hB6'.lt
        have hB7 := hB6.trans (hb7.mono hB6.size)
        clear hb7 x0 x1 x2 x3 y0 y1 y2 y3
        have x0 : w7.cell? ⟨B, 0, none⟩ = some (.string lf) := hA7.cell 0
        have x1 : w7.cell? ⟨B, 1, none⟩ = some (.int .i64 I) := hA7.cell 1
        have x2 : w7.cell? ⟨B, 2, none⟩ = some (.int .i64 N) := hA7.cell 2
        have x3 : w7.cell? ⟨B, 3, none⟩ = some (.slice oa len cap) := hA7.cell 3
        have y0 : w7.cell? ⟨B + 1, 0, none⟩ = some (.string lf') := hB7'.cell 0
        have y1 : w7.cell? ⟨B + 1, 1, none⟩ = some (.int .i64 I') := hB7'.cell 1
        have y2 : w7.cell? ⟨B + 1, 2, none⟩ = some (.int .i64 N') := hB7'.cell 2
        have y3 : w7.cell? ⟨B + 1, 3, none⟩ = some (.slice oa' len' cap') := hB7'.cell 3
        obtain ⟨P, hP⟩ : ∃ P, w7.heap.size = P := ⟨_, rfl⟩
        have hBo := hB7.alloc hB7.size (.cells zpair 31)
        have kO : Blk (w7.alloc (.cells zpair 31)) P 31 zpair := by rw [← hP]; exact Blk.new _ _ _
        have hAo := hA7.alloc (.cells zpair 31)
        have hBz := hB7'.alloc (.cells zpair 31)
        have hwP : w.heap.size ≤ P := by rw [← hP]; exact hB7.size
        have hAP : B ≠ P := by have := hA7.lt; omega
        have hBP : B + 1 ≠ P := by have := hB7'.lt; omega
        obtain ⟨wo, hwo⟩ : ∃ wo, w7.alloc (.cells zpair 31) = wo := ⟨_, rfl⟩
        rw [hwo] at hBo kO hAo hBz
        have HWO := Lib.hid hwo
        have hBx := (hBo.setCell (p := ⟨P, 0, none⟩) hwP (.string ⟨#[]⟩)).setCell (p := ⟨P, 1, none⟩) hwP (.string ⟨#[]⟩)
        have kP := (kO.set_ 0 (.string ⟨#[]⟩)).set_ 1 (.string ⟨#[]⟩)
        have hAx := (hAo.far (p := ⟨P, 0, none⟩) hAP (.string ⟨#[]⟩)).far (p := ⟨P, 1, none⟩) hAP (.string ⟨#[]⟩)
        have hBy := (hBz.far (p := ⟨P, 0, none⟩) hBP (.string ⟨#[]⟩)).far (p := ⟨P, 1, none⟩) hBP (.string ⟨#[]⟩)
        obtain ⟨wp, hwp⟩ : ∃ wp, (wo.setCell ⟨P, 0, none⟩ (.string ⟨#[]⟩)).setCell ⟨P, 1, none⟩ (.string ⟨#[]⟩) = wp := ⟨_, rfl⟩
        rw [hwp] at hBx kP hAx hBy
        have HWP := Lib.hid hwp
        have s2 : wo.cell? ⟨P, 0, none⟩ = some (.string ⟨#[]⟩) := kO.cell 0
        have s3 : wo.cell? ⟨P, 1, none⟩ = some (.string ⟨#[]⟩) := kO.cell 1
        have f2 := kO.frozen 0
        have f3 := kO.frozen 1
        clear hwp hwo hAo hBz hBo kO hAP hBP hwP x0 x1 x2 x3 y0 y1 y2 y3
        have x0 : wp.cell? ⟨B, 0, none⟩ = some (.string lf) := hAx.cell 0
        have x1 : wp.cell? ⟨B, 1, none⟩ = some (.int .i64 I) := hAx.cell 1
        have x2 : wp.cell? ⟨B, 2, none⟩ = some (.int .i64 N) := hAx.cell 2
        have x3 : wp.cell? ⟨B, 3, none⟩ = some (.slice oa len cap) := hAx.cell 3
        have y0 : wp.cell? ⟨B + 1, 0, none⟩ = some (.string lf') := hBy.cell 0
        have y1 : wp.cell? ⟨B + 1, 1, none⟩ = some (.int .i64 I') := hBy.cell 1
        have y2 : wp.cell? ⟨B + 1, 2, none⟩ = some (.int .i64 N') := hBy.cell 2
        have y3 : wp.cell? ⟨B + 1, 3, none⟩ = some (.slice oa' len' cap') := hBy.cell 3
        have s0 : wp.cell? ⟨P, 0, none⟩ = some (.string ⟨#[]⟩) := kP.cell 0
        have s1 : wp.cell? ⟨P, 1, none⟩ = some (.string ⟨#[]⟩) := kP.cell 1
        have f0 := kP.frozen 0
        have f1 := kP.frozen 1
        go_wp2_with (first | rw [HWO.out] | rw [HWP.out])
        go_ret
        exact ⟨rfl, hBx⟩
      have v1 : (I == I') = true := by rw [hI]; simp
      by_cases hN : N = N'
      rotate_left
      · have v2 : (N == N') = false := by rw [beq_eq_false_iff_ne]; exact hN
        have HF := Lib.hid (show k = false by rw [← HKK.out]; simp [hN])
        rw [HF.out] at HLv
        clear hN hI hrs
        go_enter Try.func4, Try.ntmps4
        go_wp2_with (first | rw [HW0.out] | rw [HW1.out])
        refine (HA.out _).mono ?_
        rintro e w2 ⟨rfl, hb2⟩
        have hA2 := HA1.out.below hb2 HA1.out.lt
        have hB2' := HB1.out.below hb2 HB1.out.lt
        have hB2 := HBl.out.trans (hb2.mono HBl.out.size)
        clear hb2
        have x0 : w2.cell? ⟨B, 0, none⟩ = some (.string lf) := hA2.cell 0
        have x1 : w2.cell? ⟨B, 1, none⟩ = some (.int .i64 I) := hA2.cell 1
        have x2 : w2.cell? ⟨B, 2, none⟩ = some (.int .i64 N) := hA2.cell 2
        have x3 : w2.cell? ⟨B, 3, none⟩ = some (.slice oa len cap) := hA2.cell 3
        have y0 : w2.cell? ⟨B + 1, 0, none⟩ = some (.string lf') := hB2'.cell 0
        have y1 : w2.cell? ⟨B + 1, 1, none⟩ = some (.int .i64 I') := hB2'.cell 1
        have y2 : w2.cell? ⟨B + 1, 2, none⟩ = some (.int .i64 N') := hB2'.cell 2
        have y3 : w2.cell? ⟨B + 1, 3, none⟩ = some (.slice oa' len' cap') := hB2'.cell 3
        go_wp2_with fail
        refine (HFa.out _ (HKa.out.below hB2)).mono ?_
        rintro e w3 ⟨⟨bf, rfl, hbf⟩, hb3⟩
        have hA3 := hA2.below hb3 hA2.lt
        have hB3' := hB2'.below hb3 hB2'.lt
        have hB3 := hB2.trans (hb3.mono hB2.size)
        clear hb3 x0 x1 x2 x3 y0 y1 y2 y3
        have x0 : w3.cell? ⟨B, 0, none⟩ = some (.string lf) := hA3.cell 0
        have x1 : w3.cell? ⟨B, 1, none⟩ = some (.int .i64 I) := hA3.cell 1
        have x2 : w3.cell? ⟨B, 2, none⟩ = some (.int .i64 N) := hA3.cell 2
        have x3 : w3.cell? ⟨B, 3, none⟩ = some (.slice oa len cap) := hA3.cell 3
        have y0 : w3.cell? ⟨B + 1, 0, none⟩ = some (.string lf') := hB3'.cell 0
        have y1 : w3.cell? ⟨B + 1, 1, none⟩ = some (.int .i64 I') := hB3'.cell 1
        have y2 : w3.cell? ⟨B + 1, 2, none⟩ = some (.int .i64 N') := hB3'.cell 2
        have y3 : w3.cell? ⟨B + 1, 3, none⟩ = some (.slice oa' len' cap') := hB3'.cell 3
        cases bf
        · clear hbf
          go_wp2_with fail
          refine (HA.out _).mono ?_
          rintro e wz ⟨rfl, hbz⟩
          have hBz := hB3.trans (hbz.mono hB3.size)
          go_wp2
          go_ret
          exact ⟨rfl, hBz⟩
        have HS := Lib.hid (hbf rfl)
        clear hbf
        go_wp2_with fail
        refine (HFb.out _ (HKb.out.below hB3)).mono ?_
        rintro e w4 ⟨⟨bg, rfl, hbg⟩, hb4⟩
        have hA4 := hA3.below hb4 hA3.lt
        have hB4' := hB3'.below hb4 hB3'.lt
        have hB4 := hB3.trans (hb4.mono hB3.size)
        clear hb4 x0 x1 x2 x3 y0 y1 y2 y3
        have x0 : w4.cell? ⟨B, 0, none⟩ = some (.string lf) := hA4.cell 0
        have x1 : w4.cell? ⟨B, 1, none⟩ = some (.int .i64 I) := hA4.cell 1
        have x2 : w4.cell? ⟨B, 2, none⟩ = some (.int .i64 N) := hA4.cell 2
        have x3 : w4.cell? ⟨B, 3, none⟩ = some (.slice oa len cap) := hA4.cell 3
        have y0 : w4.cell? ⟨B + 1, 0, none⟩ = some (.string lf') := hB4'.cell 0
        have y1 : w4.cell? ⟨B + 1, 1, none⟩ = some (.int .i64 I') := hB4'.cell 1
        have y2 : w4.cell? ⟨B + 1, 2, none⟩ = some (.int .i64 N') := hB4'.cell 2
        have y3 : w4.cell? ⟨B + 1, 3, none⟩ = some (.slice oa' len' cap') := hB4'.cell 3
        cases bg
        · clear hbg
          go_wp2_with fail
          refine (HA.out _).mono ?_
          rintro e wz ⟨rfl, hbz⟩
          have hBz := hB4.trans (hbz.mono hB4.size)
          go_wp2
          go_ret
          exact ⟨rfl, hBz⟩
        have HS2 := Lib.hid (hbg rfl)
        clear hbg
        go_wp2_with fail
        refine (HRa.out HS.out _ (HKa.out.below hB4)).mono ?_
        rintro e w5 ⟨rfl, hb5⟩
        have hA5 := hA4.below hb5 hA4.lt
        have hB5' := hB4'.below hb5 hB4'.lt
        have hB5 := hB4.trans (hb5.mono hB4.size)
        clear hb5 x0 x1 x2 x3 y0 y1 y2 y3
        have x0 : w5.cell? ⟨B, 0, none⟩ = some (.string lf) := hA5.cell 0
        have x1 : w5.cell? ⟨B, 1, none⟩ = some (.int .i64 I) := hA5.cell 1
        have x2 : w5.cell? ⟨B, 2, none⟩ = some (.int .i64 N) := hA5.cell 2
        have x3 : w5.cell? ⟨B, 3, none⟩ = some (.slice oa len cap) := hA5.cell 3
        have y0 : w5.cell? ⟨B + 1, 0, none⟩ = some (.string lf') := hB5'.cell 0
        have y1 : w5.cell? ⟨B + 1, 1, none⟩ = some (.int .i64 I') := hB5'.cell 1
        have y2 : w5.cell? ⟨B + 1, 2, none⟩ = some (.int .i64 N') := hB5'.cell 2
        have y3 : w5.cell? ⟨B + 1, 3, none⟩ = some (.slice oa' len' cap') := hB5'.cell 3
        go_wp2_with fail
        refine (HRb.out HS2.out _ (HKb.out.below hB5)).mono ?_
        rintro e w6 ⟨rfl, hb6⟩
        have hA6 := hA5.below hb6 hA5.lt
        have hB6' := hB5'.below hb6 hB5'.lt
        have hB6 := hB5.trans (hb6.mono hB5.size)
        clear hb6 x0 x1 x2 x3 y0 y1 y2 y3
        have x0 : w6.cell? ⟨B, 0, none⟩ = some (.string lf) := hA6.cell 0
        have x1 : w6.cell? ⟨B, 1, none⟩ = some (.int .i64 I) := hA6.cell 1
        have x2 : w6.cell? ⟨B, 2, none⟩ = some (.int .i64 N) := hA6.cell 2
        have x3 : w6.cell? ⟨B, 3, none⟩ = some (.slice oa len cap) := hA6.cell 3
        have y0 : w6.cell? ⟨B + 1, 0, none⟩ = some (.string lf') := hB6'.cell 0
        have y1 : w6.cell? ⟨B + 1, 1, none⟩ = some (.int .i64 I') := hB6'.cell 1
        have y2 : w6.cell? ⟨B + 1, 2, none⟩ = some (.int .i64 N') := hB6'.cell 2
        have y3 : w6.cell? ⟨B + 1, 3, none⟩ = some (.slice oa' len' cap') := hB6'.cell 3
        go_wp2_with fail
        refine (HLv.out HS.out HS2.out _ (HKa.out.below hB6) (HKb.out.below hB6)).mono ?_
        rintro e w7 ⟨rfl, hb7⟩
        skip
        have hA7 := hA6.below hb7 hA6.lt
        have hB7' := hB6'.below hb7 hB6'.lt
        have hB7 := hB6.trans (hb7.mono hB6.size)
        clear hb7 x0 x1 x2 x3 y0 y1 y2 y3
        have x0 : w7.cell? ⟨B, 0, none⟩ = some (.string lf) := hA7.cell 0
        have x1 : w7.cell? ⟨B, 1, none⟩ = some (.int .i64 I) := hA7.cell 1
        have x2 : w7.cell? ⟨B, 2, none⟩ = some (.int .i64 N) := hA7.cell 2
        have x3 : w7.cell? ⟨B, 3, none⟩ = some (.slice oa len cap) := hA7.cell 3
        have y0 : w7.cell? ⟨B + 1, 0, none⟩ = some (.string lf') := hB7'.cell 0
        have y1 : w7.cell? ⟨B + 1, 1, none⟩ = some (.int .i64 I') := hB7'.cell 1
        have y2 : w7.cell? ⟨B + 1, 2, none⟩ = some (.int .i64 N') := hB7'.cell 2
        have y3 : w7.cell? ⟨B + 1, 3, none⟩ = some (.slice oa' len' cap') := hB7'.cell 3
        obtain ⟨P, hP⟩ : ∃ P, w7.heap.size = P := ⟨_, rfl⟩
        have hBo := hB7.alloc hB7.size (.cells zpair 31)
        have kO : Blk (w7.alloc (.cells zpair 31)) P 31 zpair := by rw [← hP]; exact Blk.new _ _ _
        have hAo := hA7.alloc (.cells zpair 31)
        have hBz := hB7'.alloc (.cells zpair 31)
        have hwP : w.heap.size ≤ P := by rw [← hP]; exact hB7.size
        have hAP : B ≠ P := by have := hA7.lt; omega
        have hBP : B + 1 ≠ P := by have := hB7'.lt; omega
        obtain ⟨wo, hwo⟩ : ∃ wo, w7.alloc (.cells zpair 31) = wo := ⟨_, rfl⟩
        rw [hwo] at hBo kO hAo hBz
        have HWO := Lib.hid hwo
        have hBx := (hBo.setCell (p := ⟨P, 0, none⟩) hwP (.string ⟨#[]⟩)).setCell (p := ⟨P, 1, none⟩) hwP (.string ⟨#[]⟩)
        have kP := (kO.set_ 0 (.string ⟨#[]⟩)).set_ 1 (.string ⟨#[]⟩)
        have hAx := (hAo.far (p := ⟨P, 0, none⟩) hAP (.string ⟨#[]⟩)).far (p := ⟨P, 1, none⟩) hAP (.string ⟨#[]⟩)
        have hBy := (hBz.far (p := ⟨P, 0, none⟩) hBP (.string ⟨#[]⟩)).far (p := ⟨P, 1, none⟩) hBP (.string ⟨#[]⟩)
        obtain ⟨wp, hwp⟩ : ∃ wp, (wo.setCell ⟨P, 0, none⟩ (.string ⟨#[]⟩)).setCell ⟨P, 1, none⟩ (.string ⟨#[]⟩) = wp := ⟨_, rfl⟩
        rw [hwp] at hBx kP hAx hBy
        have HWP := Lib.hid hwp
        have s2 : wo.cell? ⟨P, 0, none⟩ = some (.string ⟨#[]⟩) := kO.cell 0
        have s3 : wo.cell? ⟨P, 1, none⟩ = some (.string ⟨#[]⟩) := kO.cell 1
        have f2 := kO.frozen 0
        have f3 := kO.frozen 1
        clear hwp hwo hAo hBz hBo kO hAP hBP hwP x0 x1 x2 x3 y0 y1 y2 y3
        have x0 : wp.cell? ⟨B, 0, none⟩ = some (.string lf) := hAx.cell 0
        have x1 : wp.cell? ⟨B, 1, none⟩ = some (.int .i64 I) := hAx.cell 1
        have x2 : wp.cell? ⟨B, 2, none⟩ = some (.int .i64 N) := hAx.cell 2
        have x3 : wp.cell? ⟨B, 3, none⟩ = some (.slice oa len cap) := hAx.cell 3
        have y0 : wp.cell? ⟨B + 1, 0, none⟩ = some (.string lf') := hBy.cell 0
        have y1 : wp.cell? ⟨B + 1, 1, none⟩ = some (.int .i64 I') := hBy.cell 1
        have y2 : wp.cell? ⟨B + 1, 2, none⟩ = some (.int .i64 N') := hBy.cell 2
        have y3 : wp.cell? ⟨B + 1, 3, none⟩ = some (.slice oa' len' cap') := hBy.cell 3
        have s0 : wp.cell? ⟨P, 0, none⟩ = some (.string ⟨#[]⟩) := kP.cell 0
        have s1 : wp.cell? ⟨P, 1, none⟩ = some (.string ⟨#[]⟩) := kP.cell 1
        have f0 := kP.frozen 0
        have f1 := kP.frozen 1
        go_wp2_with (first | rw [HWO.out] | rw [HWP.out])
        go_ret
        exact ⟨rfl, hBx⟩
      have v2 : (N == N') = true := by rw [hN]; simp
      by_cases hl : lf = lf'
      · obtain ⟨v3, v4⟩ := beqT hl
        have HF := Lib.hid (show k = false by rw [← HKK.out]; simp [hl])
        rw [HF.out] at HLv
        clear hl hN hI hrs
        go_enter Try.func4, Try.ntmps4
        go_wp2_with (first | rw [HW0.out] | rw [HW1.out])
        refine (HA.out _).mono ?_
        rintro e w2 ⟨rfl, hb2⟩
        have hA2 := HA1.out.below hb2 HA1.out.lt
        have hB2' := HB1.out.below hb2 HB1.out.lt
        have hB2 := HBl.out.trans (hb2.mono HBl.out.size)
        clear hb2
        have x0 : w2.cell? ⟨B, 0, none⟩ = some (.string lf) := hA2.cell 0
        have x1 : w2.cell? ⟨B, 1, none⟩ = some (.int .i64 I) := hA2.cell 1
        have x2 : w2.cell? ⟨B, 2, none⟩ = some (.int .i64 N) := hA2.cell 2
        have x3 : w2.cell? ⟨B, 3, none⟩ = some (.slice oa len cap) := hA2.cell 3
        have y0 : w2.cell? ⟨B + 1, 0, none⟩ = some (.string lf') := hB2'.cell 0
        have y1 : w2.cell? ⟨B + 1, 1, none⟩ = some (.int .i64 I') := hB2'.cell 1
        have y2 : w2.cell? ⟨B + 1, 2, none⟩ = some (.int .i64 N') := hB2'.cell 2
        have y3 : w2.cell? ⟨B + 1, 3, none⟩ = some (.slice oa' len' cap') := hB2'.cell 3
        go_wp2_with fail
        refine (HFa.out _ (HKa.out.below hB2)).mono ?_
        rintro e w3 ⟨⟨bf, rfl, hbf⟩, hb3⟩
        have hA3 := hA2.below hb3 hA2.lt
        have hB3' := hB2'.below hb3 hB2'.lt
        have hB3 := hB2.trans (hb3.mono hB2.size)
        clear hb3 x0 x1 x2 x3 y0 y1 y2 y3
        have x0 : w3.cell? ⟨B, 0, none⟩ = some (.string lf) := hA3.cell 0
        have x1 : w3.cell? ⟨B, 1, none⟩ = some (.int .i64 I) := hA3.cell 1
        have x2 : w3.cell? ⟨B, 2, none⟩ = some (.int .i64 N) := hA3.cell 2
        have x3 : w3.cell? ⟨B, 3, none⟩ = some (.slice oa len cap) := hA3.cell 3
        have y0 : w3.cell? ⟨B + 1, 0, none⟩ = some (.string lf') := hB3'.cell 0
        have y1 : w3.cell? ⟨B + 1, 1, none⟩ = some (.int .i64 I') := hB3'.cell 1
        have y2 : w3.cell? ⟨B + 1, 2, none⟩ = some (.int .i64 N') := hB3'.cell 2
        have y3 : w3.cell? ⟨B + 1, 3, none⟩ = some (.slice oa' len' cap') := hB3'.cell 3
        cases bf
        · clear hbf
          go_wp2_with fail
          refine (HA.out _).mono ?_
          rintro e wz ⟨rfl, hbz⟩
          have hBz := hB3.trans (hbz.mono hB3.size)
          go_wp2
          go_ret
          exact ⟨rfl, hBz⟩
        have HS := Lib.hid (hbf rfl)
        clear hbf
        go_wp2_with fail
        refine (HFb.out _ (HKb.out.below hB3)).mono ?_
        rintro e w4 ⟨⟨bg, rfl, hbg⟩, hb4⟩
        have hA4 := hA3.below hb4 hA3.lt
        have hB4' := hB3'.below hb4 hB3'.lt
        have hB4 := hB3.trans (hb4.mono hB3.size)
        clear hb4 x0 x1 x2 x3 y0 y1 y2 y3
        have x0 : w4.cell? ⟨B, 0, none⟩ = some (.string lf) := hA4.cell 0
        have x1 : w4.cell? ⟨B, 1, none⟩ = some (.int .i64 I) := hA4.cell 1
        have x2 : w4.cell? ⟨B, 2, none⟩ = some (.int .i64 N) := hA4.cell 2
        have x3 : w4.cell? ⟨B, 3, none⟩ = some (.slice oa len cap) := hA4.cell 3
        have y0 : w4.cell? ⟨B + 1, 0, none⟩ = some (.string lf') := hB4'.cell 0
        have y1 : w4.cell? ⟨B + 1, 1, none⟩ = some (.int .i64 I') := hB4'.cell 1
        have y2 : w4.cell? ⟨B + 1, 2, none⟩ = some (.int .i64 N') := hB4'.cell 2
        have y3 : w4.cell? ⟨B + 1, 3, none⟩ = some (.slice oa' len' cap') := hB4'.cell 3
        cases bg
        · clear hbg
          go_wp2_with fail
          refine (HA.out _).mono ?_
          rintro e wz ⟨rfl, hbz⟩
          have hBz := hB4.trans (hbz.mono hB4.size)
          go_wp2
          go_ret
          exact ⟨rfl, hBz⟩
        have HS2 := Lib.hid (hbg rfl)
        clear hbg
        go_wp2_with fail
        refine (HRa.out HS.out _ (HKa.out.below hB4)).mono ?_
        rintro e w5 ⟨rfl, hb5⟩
        have hA5 := hA4.below hb5 hA4.lt
        have hB5' := hB4'.below hb5 hB4'.lt
        have hB5 := hB4.trans (hb5.mono hB4.size)
        clear hb5 x0 x1 x2 x3 y0 y1 y2 y3
        have x0 : w5.cell? ⟨B, 0, none⟩ = some (.string lf) := hA5.cell 0
        have x1 : w5.cell? ⟨B, 1, none⟩ = some (.int .i64 I) := hA5.cell 1
        have x2 : w5.cell? ⟨B, 2, none⟩ = some (.int .i64 N) := hA5.cell 2
        have x3 : w5.cell? ⟨B, 3, none⟩ = some (.slice oa len cap) := hA5.cell 3
        have y0 : w5.cell? ⟨B + 1, 0, none⟩ = some (.string lf') := hB5'.cell 0
        have y1 : w5.cell? ⟨B + 1, 1, none⟩ = some (.int .i64 I') := hB5'.cell 1
        have y2 : w5.cell? ⟨B + 1, 2, none⟩ = some (.int .i64 N') := hB5'.cell 2
        have y3 : w5.cell? ⟨B + 1, 3, none⟩ = some (.slice oa' len' cap') := hB5'.cell 3
        go_wp2_with fail
        refine (HRb.out HS2.out _ (HKb.out.below hB5)).mono ?_
        rintro e w6 ⟨rfl, hb6⟩
        have hA6 := hA5.below hb6 hA5.lt
        have hB6' := hB5'.below hb6 hB5'.lt
        have hB6 := hB5.trans (hb6.mono hB5.size)
        clear hb6 x0 x1 x2 x3 y0 y1 y2 y3
        have x0 : w6.cell? ⟨B, 0, none⟩ = some (.string lf) := hA6.cell 0
        have x1 : w6.cell? ⟨B, 1, none⟩ = some (.int .i64 I) := hA6.cell 1
        have x2 : w6.cell? ⟨B, 2, none⟩ = some (.int .i64 N) := hA6.cell 2
        have x3 : w6.cell? ⟨B, 3, none⟩ = some (.slice oa len cap) := hA6.cell 3
        have y0 : w6.cell? ⟨B + 1, 0, none⟩ = some (.string lf') := hB6'.cell 0
        have y1 : w6.cell? ⟨B + 1, 1, none⟩ = some (.int .i64 I') := hB6'.cell 1
        have y2 : w6.cell? ⟨B + 1, 2, none⟩ = some (.int .i64 N') := hB6'.cell 2
        have y3 : w6.cell? ⟨B + 1, 3, none⟩ = some (.slice oa' len' cap') := hB6'.cell 3
        go_wp2_with fail
        refine (HLv.out HS.out HS2.out _ (HKa.out.below hB6) (HKb.out.below hB6)).mono ?_
        rintro e w7 ⟨rfl, hb7⟩
        skip
        have hA7 := hA6.below hb7 hA6.lt
        have hB7' := hB6'.below hb7 hB6'.lt
        have hB7 := hB6.trans (hb7.mono hB6.size)
        clear hb7 x0 x1 x2 x3 y0 y1 y2 y3
        have x0 : w7.cell? ⟨B, 0, none⟩ = some (.string lf) := hA7.cell 0
        have x1 : w7.cell? ⟨B, 1, none⟩ = some (.int .i64 I) := hA7.cell 1
        have x2 : w7.cell? ⟨B, 2, none⟩ = some (.int .i64 N) := hA7.cell 2
        have x3 : w7.cell? ⟨B, 3, none⟩ = some (.slice oa len cap) := hA7.cell 3
        have y0 : w7.cell? ⟨B + 1, 0, none⟩ = some (.string lf') := hB7'.cell 0
        have y1 : w7.cell? ⟨B + 1, 1, none⟩ = some (.int .i64 I') := hB7'.cell 1
        have y2 : w7.cell? ⟨B + 1, 2, none⟩ = some (.int .i64 N') := hB7'.cell 2
        have y3 : w7.cell? ⟨B + 1, 3, none⟩ = some (.slice oa' len' cap') := hB7'.cell 3
        obtain ⟨P, hP⟩ : ∃ P, w7.heap.size = P := ⟨_, rfl⟩
        have hBo := hB7.alloc hB7.size (.cells zpair 31)
        have kO : Blk (w7.alloc (.cells zpair 31)) P 31 zpair := by rw [← hP]; exact Blk.new _ _ _
        have hAo := hA7.alloc (.cells zpair 31)
        have hBz := hB7'.alloc (.cells zpair 31)
        have hwP : w.heap.size ≤ P := by rw [← hP]; exact hB7.size
        have hAP : B ≠ P := by have := hA7.lt; omega
        have hBP : B + 1 ≠ P := by have := hB7'.lt; omega
        obtain ⟨wo, hwo⟩ : ∃ wo, w7.alloc (.cells zpair 31) = wo := ⟨_, rfl⟩
        rw [hwo] at hBo kO hAo hBz
        have HWO := Lib.hid hwo
        have hBx := (hBo.setCell (p := ⟨P, 0, none⟩) hwP (.string ⟨#[]⟩)).setCell (p := ⟨P, 1, none⟩) hwP (.string ⟨#[]⟩)
        have kP := (kO.set_ 0 (.string ⟨#[]⟩)).set_ 1 (.string ⟨#[]⟩)
        have hAx := (hAo.far (p := ⟨P, 0, none⟩) hAP (.string ⟨#[]⟩)).far (p := ⟨P, 1, none⟩) hAP (.string ⟨#[]⟩)
        have hBy := (hBz.far (p := ⟨P, 0, none⟩) hBP (.string ⟨#[]⟩)).far (p := ⟨P, 1, none⟩) hBP (.string ⟨#[]⟩)
        obtain ⟨wp, hwp⟩ : ∃ wp, (wo.setCell ⟨P, 0, none⟩ (.string ⟨#[]⟩)).setCell ⟨P, 1, none⟩ (.string ⟨#[]⟩) = wp := ⟨_, rfl⟩
        rw [hwp] at hBx kP hAx hBy
        have HWP := Lib.hid hwp
        have s2 : wo.cell? ⟨P, 0, none⟩ = some (.string ⟨#[]⟩) := kO.cell 0
        have s3 : wo.cell? ⟨P, 1, none⟩ = some (.string ⟨#[]⟩) := kO.cell 1
        have f2 := kO.frozen 0
        have f3 := kO.frozen 1
        clear hwp hwo hAo hBz hBo kO hAP hBP hwP x0 x1 x2 x3 y0 y1 y2 y3
        have x0 : wp.cell? ⟨B, 0, none⟩ = some (.string lf) := hAx.cell 0
        have x1 : wp.cell? ⟨B, 1, none⟩ = some (.int .i64 I) := hAx.cell 1
        have x2 : wp.cell? ⟨B, 2, none⟩ = some (.int .i64 N) := hAx.cell 2
        have x3 : wp.cell? ⟨B, 3, none⟩ = some (.slice oa len cap) := hAx.cell 3
        have y0 : wp.cell? ⟨B + 1, 0, none⟩ = some (.string lf') := hBy.cell 0
        have y1 : wp.cell? ⟨B + 1, 1, none⟩ = some (.int .i64 I') := hBy.cell 1
        have y2 : wp.cell? ⟨B + 1, 2, none⟩ = some (.int .i64 N') := hBy.cell 2
        have y3 : wp.cell? ⟨B + 1, 3, none⟩ = some (.slice oa' len' cap') := hBy.cell 3
        have s0 : wp.cell? ⟨P, 0, none⟩ = some (.string ⟨#[]⟩) := kP.cell 0
        have s1 : wp.cell? ⟨P, 1, none⟩ = some (.string ⟨#[]⟩) := kP.cell 1
        have f0 := kP.frozen 0
        have f1 := kP.frozen 1
        go_wp2_with (first | rw [HWO.out] | rw [HWP.out])
        go_ret
        exact ⟨rfl, hBx⟩
      · obtain ⟨v3, v4⟩ := beqF hl
        have HF := Lib.hid (show k = true by rw [← HKK.out]; simp [hl, hN, hI, hrs])
        rw [HF.out] at HLv
        clear hl hN hI hrs
        go_enter Try.func4, Try.ntmps4
        go_wp2_with (first | rw [HW0.out] | rw [HW1.out])
        refine (HA.out _).mono ?_
        rintro e w2 ⟨rfl, hb2⟩
        have hA2 := HA1.out.below hb2 HA1.out.lt
        have hB2' := HB1.out.below hb2 HB1.out.lt
        have hB2 := HBl.out.trans (hb2.mono HBl.out.size)
        clear hb2
        have x0 : w2.cell? ⟨B, 0, none⟩ = some (.string lf) := hA2.cell 0
        have x1 : w2.cell? ⟨B, 1, none⟩ = some (.int .i64 I) := hA2.cell 1
        have x2 : w2.cell? ⟨B, 2, none⟩ = some (.int .i64 N) := hA2.cell 2
        have x3 : w2.cell? ⟨B, 3, none⟩ = some (.slice oa len cap) := hA2.cell 3
        have y0 : w2.cell? ⟨B + 1, 0, none⟩ = some (.string lf') := hB2'.cell 0
        have y1 : w2.cell? ⟨B + 1, 1, none⟩ = some (.int .i64 I') := hB2'.cell 1
        have y2 : w2.cell? ⟨B + 1, 2, none⟩ = some (.int .i64 N') := hB2'.cell 2
        have y3 : w2.cell? ⟨B + 1, 3, none⟩ = some (.slice oa' len' cap') := hB2'.cell 3
        go_wp2_with fail
        refine (HFa.out _ (HKa.out.below hB2)).mono ?_
        rintro e w3 ⟨⟨bf, rfl, hbf⟩, hb3⟩
        have hA3 := hA2.below hb3 hA2.lt
        have hB3' := hB2'.below hb3 hB2'.lt
        have hB3 := hB2.trans (hb3.mono hB2.size)
        clear hb3 x0 x1 x2 x3 y0 y1 y2 y3
        have x0 : w3.cell? ⟨B, 0, none⟩ = some (.string lf) := hA3.cell 0
        have x1 : w3.cell? ⟨B, 1, none⟩ = some (.int .i64 I) := hA3.cell 1
        have x2 : w3.cell? ⟨B, 2, none⟩ = some (.int .i64 N) := hA3.cell 2
        have x3 : w3.cell? ⟨B, 3, none⟩ = some (.slice oa len cap) := hA3.cell 3
        have y0 : w3.cell? ⟨B + 1, 0, none⟩ = some (.string lf') := hB3'.cell 0
        have y1 : w3.cell? ⟨B + 1, 1, none⟩ = some (.int .i64 I') := hB3'.cell 1
        have y2 : w3.cell? ⟨B + 1, 2, none⟩ = some (.int .i64 N') := hB3'.cell 2
        have y3 : w3.cell? ⟨B + 1, 3, none⟩ = some (.slice oa' len' cap') := hB3'.cell 3
        cases bf
        · clear hbf
          go_wp2_with fail
          refine (HA.out _).mono ?_
          rintro e wz ⟨rfl, hbz⟩
          have hBz := hB3.trans (hbz.mono hB3.size)
          go_wp2
          go_ret
          exact ⟨rfl, hBz⟩
        have HS := Lib.hid (hbf rfl)
        clear hbf
        go_wp2_with fail
        refine (HFb.out _ (HKb.out.below hB3)).mono ?_
        rintro e w4 ⟨⟨bg, rfl, hbg⟩, hb4⟩
        have hA4 := hA3.below hb4 hA3.lt
        have hB4' := hB3'.below hb4 hB3'.lt
        have hB4 := hB3.trans (hb4.mono hB3.size)
        clear hb4 x0 x1 x2 x3 y0 y1 y2 y3
        have x0 : w4.cell? ⟨B, 0, none⟩ = some (.string lf) := hA4.cell 0
        have x1 : w4.cell? ⟨B, 1, none⟩ = some (.int .i64 I) := hA4.cell 1
        have x2 : w4.cell? ⟨B, 2, none⟩ = some (.int .i64 N) := hA4.cell 2
        have x3 : w4.cell? ⟨B, 3, none⟩ = some (.slice oa len cap) := hA4.cell 3
        have y0 : w4.cell? ⟨B + 1, 0, none⟩ = some (.string lf') := hB4'.cell 0
        have y1 : w4.cell? ⟨B + 1, 1, none⟩ = some (.int .i64 I') := hB4'.cell 1
        have y2 : w4.cell? ⟨B + 1, 2, none⟩ = some (.int .i64 N') := hB4'.cell 2
        have y3 : w4.cell? ⟨B + 1, 3, none⟩ = some (.slice oa' len' cap') := hB4'.cell 3
        cases bg
        · clear hbg
          go_wp2_with fail
          refine (HA.out _).mono ?_
          rintro e wz ⟨rfl, hbz⟩
          have hBz := hB4.trans (hbz.mono hB4.size)
          go_wp2
          go_ret
          exact ⟨rfl, hBz⟩
        have HS2 := Lib.hid (hbg rfl)
        clear hbg
        go_wp2_with fail
        refine (HRa.out HS.out _ (HKa.out.below hB4)).mono ?_
        rintro e w5 ⟨rfl, hb5⟩
        have hA5 := hA4.below hb5 hA4.lt
        have hB5' := hB4'.below hb5 hB4'.lt
        have hB5 := hB4.trans (hb5.mono hB4.size)
        clear hb5 x0 x1 x2 x3 y0 y1 y2 y3
        have x0 : w5.cell? ⟨B, 0, none⟩ = some (.string lf) := hA5.cell 0
        have x1 : w5.cell? ⟨B, 1, none⟩ = some (.int .i64 I) := hA5.cell 1
        have x2 : w5.cell? ⟨B, 2, none⟩ = some (.int .i64 N) := hA5.cell 2
        have x3 : w5.cell? ⟨B, 3, none⟩ = some (.slice oa len cap) := hA5.cell 3
        have y0 : w5.cell? ⟨B + 1, 0, none⟩ = some (.string lf') := hB5'.cell 0
        have y1 : w5.cell? ⟨B + 1, 1, none⟩ = some (.int .i64 I') := hB5'.cell 1
        have y2 : w5.cell? ⟨B + 1, 2, none⟩ = some (.int .i64 N') := hB5'.cell 2
        have y3 : w5.cell? ⟨B + 1, 3, none⟩ = some (.slice oa' len' cap') := hB5'.cell 3
        go_wp2_with fail
        refine (HRb.out HS2.out _ (HKb.out.below hB5)).mono ?_
        rintro e w6 ⟨rfl, hb6⟩
        have hA6 := hA5.below hb6 hA5.lt
        have hB6' := hB5'.below hb6 hB5'.lt
        have hB6 := hB5.trans (hb6.mono hB5.size)
        clear hb6 x0 x1 x2 x3 y0 y1 y2 y3
        have x0 : w6.cell? ⟨B, 0, none⟩ = some (.string lf) := hA6.cell 0
        have x1 : w6.cell? ⟨B, 1, none⟩ = some (.int .i64 I) := hA6.cell 1
        have x2 : w6.cell? ⟨B, 2, none⟩ = some (.int .i64 N) := hA6.cell 2
        have x3 : w6.cell? ⟨B, 3, none⟩ = some (.slice oa len cap) := hA6.cell 3
        have y0 : w6.cell? ⟨B + 1, 0, none⟩ = some (.string lf') := hB6'.cell 0
        have y1 : w6.cell? ⟨B + 1, 1, none⟩ = some (.int .i64 I') := hB6'.cell 1
        have y2 : w6.cell? ⟨B + 1, 2, none⟩ = some (.int .i64 N') := hB6'.cell 2
        have y3 : w6.cell? ⟨B + 1, 3, none⟩ = some (.slice oa' len' cap') := hB6'.cell 3
        go_wp2_with fail
        refine (HLv.out HS.out HS2.out _ (HKa.out.below hB6) (HKb.out.below hB6)).mono ?_
        rintro e w7 ⟨⟨tA, tD, rfl, hne, hh, hs1, hs2⟩, hb7⟩
        skip
        have hA7 := hA6.below hb7 hA6.lt
        have hB7' := hB6'.below hb7 hB6'.lt
        have hB7 := hB6.trans (hb7.mono hB6.size)
        clear hb7 x0 x1 x2 x3 y0 y1 y2 y3
        have x0 : w7.cell? ⟨B, 0, none⟩ = some (.string lf) := hA7.cell 0
        have x1 : w7.cell? ⟨B, 1, none⟩ = some (.int .i64 I) := hA7.cell 1
        have x2 : w7.cell? ⟨B, 2, none⟩ = some (.int .i64 N) := hA7.cell 2
        have x3 : w7.cell? ⟨B, 3, none⟩ = some (.slice oa len cap) := hA7.cell 3
        have y0 : w7.cell? ⟨B + 1, 0, none⟩ = some (.string lf') := hB7'.cell 0
        have y1 : w7.cell? ⟨B + 1, 1, none⟩ = some (.int .i64 I') := hB7'.cell 1
        have y2 : w7.cell? ⟨B + 1, 2, none⟩ = some (.int .i64 N') := hB7'.cell 2
        have y3 : w7.cell? ⟨B + 1, 3, none⟩ = some (.slice oa' len' cap') := hB7'.cell 3
        obtain ⟨P, hP⟩ : ∃ P, w7.heap.size = P := ⟨_, rfl⟩
        have hBx := hB7.alloc hB7.size (.cells #[.string tA, .string tD] 31)
        have kP : Blk (w7.alloc (.cells #[.string tA, .string tD] 31)) P 31 #[.string tA, .string tD] := by rw [← hP]; exact Blk.new _ _ _
        have hAx := hA7.alloc (.cells #[.string tA, .string tD] 31)
        have hBy := hB7'.alloc (.cells #[.string tA, .string tD] 31)
        obtain ⟨wp, hwp⟩ : ∃ wp, w7.alloc (.cells #[.string tA, .string tD] 31) = wp := ⟨_, rfl⟩
        rw [hwp] at hBx kP hAx hBy
        have HWP := Lib.hid hwp
        clear hwp x0 x1 x2 x3 y0 y1 y2 y3
        have x0 : wp.cell? ⟨B, 0, none⟩ = some (.string lf) := hAx.cell 0
        have x1 : wp.cell? ⟨B, 1, none⟩ = some (.int .i64 I) := hAx.cell 1
        have x2 : wp.cell? ⟨B, 2, none⟩ = some (.int .i64 N) := hAx.cell 2
        have x3 : wp.cell? ⟨B, 3, none⟩ = some (.slice oa len cap) := hAx.cell 3
        have y0 : wp.cell? ⟨B + 1, 0, none⟩ = some (.string lf') := hBy.cell 0
        have y1 : wp.cell? ⟨B + 1, 1, none⟩ = some (.int .i64 I') := hBy.cell 1
        have y2 : wp.cell? ⟨B + 1, 2, none⟩ = some (.int .i64 N') := hBy.cell 2
        have y3 : wp.cell? ⟨B + 1, 3, none⟩ = some (.slice oa' len' cap') := hBy.cell 3
        have s0 : wp.cell? ⟨P, 0, none⟩ = some (.string tA) := kP.cell 0
        have s1 : wp.cell? ⟨P, 1, none⟩ = some (.string tD) := kP.cell 1
        have HCC := Lib.hid (fun W => HCo.out tA tD hs1 hs2 hne hh W)
        clear hne hh
        go_wp2_with (rw [HWP.out])
        refine (HCC.out _).mono ?_
        rintro e w9 ⟨rfl, hb9⟩
        have hB9 := hBx.trans (hb9.mono hBx.size)
        go_wp2
        go_ret
        exact ⟨rfl, hB9⟩
end Go.Proofs.Ytfhfmfcmkiobdaa

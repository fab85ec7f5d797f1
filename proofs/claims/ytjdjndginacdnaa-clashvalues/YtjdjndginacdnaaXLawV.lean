/-
  The walk of the law ClashValues.
-/
import Derived.Test.YtjdjndginacdnaaXLawR
import Derived.Test.YtjdjndginacdnaaXVals
namespace Go.Proofs.Ytjdjndginacdnaa
open Go.RowKit

set_option maxRecDepth 100000 in
theorem eq_pair9 (W : World) : (binOp .eql 31 (.agg #[.string ⟨#[]⟩, .string ⟨#[]⟩]) (.agg #[.string ⟨#[]⟩, .string ⟨#[]⟩])).run Try.prog W = .ok (.bool true) W := by kernel_rfl
set_option maxRecDepth 100000 in
set_option maxHeartbeats 2000000 in
theorem collides9_any {qh : Nat} (hq : qh < 256) (A D : ByteArray) (hA : A.size ≤ 1000) (hD : D.size ≤ 1000) (hne : A ≠ D) (he : hF qh A = hF qh D) (w : World) :
    Calls Try.prog 11 #[.int .u8 qh, .agg #[.string A, .string D]] w fun e w' => e = .returned (.bool true) ∧ Below w.heap.size w w' := by
  obtain ⟨b1, b2⟩ := eqF9 hne
  obtain ⟨b3, b4⟩ := eqT9 he
  have HJ1 := Lib.hid (fun W => hash_any qh hq A W hA)
  have HJ2 := Lib.hid (fun W => hash_any qh hq D W hD)
  generalize hF qh A = R1 at *
  generalize hF qh D = R2 at *
  obtain ⟨B, hB⟩ : ∃ B, w.heap.size = B := ⟨_, rfl⟩
  obtain ⟨w0, hw0⟩ : ∃ w0, w.alloc (.cells #[.string A, .string D] 31) = w0 := ⟨_, rfl⟩
  have kP : Blk w0 B 31 #[.string A, .string D] := by rw [← hw0, ← hB]; exact Blk.new _ _ _
  have hB0 : Below w.heap.size w w0 := by rw [← hw0]; exact (Below.refl _ w).alloc (Nat.le_refl _) _
  have HW0 := Lib.hid hw0
  have HB0 := Lib.hid hB0
  have HKP : Hid (∀ W, Below w0.heap.size w0 W → (W.cell? ⟨B, 0, none⟩ = some (.string A) ∧ W.cell? ⟨B, 1, none⟩ = some (.string D)) ∧ Below w0.heap.size w0 W) :=
    Lib.hid fun W hW => ⟨⟨(kP.below hW kP.lt).cell 0, (kP.below hW kP.lt).cell 1⟩, hW⟩
  clear hw0 kP hB0 hne he
  go_enter Try.func11, Try.ntmps11
  go_wp2_with (first | rw [HW0.out])
  go_region_held3 (fun W => (W.cell? ⟨B, 0, none⟩ = some (.string A) ∧ W.cell? ⟨B, 1, none⟩ = some (.string D)) ∧ Below w0.heap.size w0 W)
    ((refine HKP.out _ ?_; first | exact hB2' | exact hB1' | exact (Below.refl _ _).drew | exact Below.refl _ _))
    (first
      | (have := hB1'; go_at_call 23; refine (HJ2.out _).mono ?_; rintro e w2 ⟨rfl, hb2⟩; have hB2' : Below w0.heap.size w0 w2 := hB1'.trans (hb2.mono hB1'.size))
      | (go_at_call 23; refine (HJ1.out _).mono ?_; rintro e w1 ⟨rfl, hb1⟩; have hB1' : Below w0.heap.size w0 w1 := (Below.refl _ _).drew.trans hb1))
  have hBf := HB0.out.trans (hB2'.mono HB0.out.size)
  clear HKP HJ1 HJ2 hb1 hb2 hB1' hB2'
  go_wp2
  go_ret
  exact ⟨rfl, hBf⟩
set_option maxRecDepth 100000 in
set_option maxHeartbeats 4000000 in
theorem lvalues9_any (q : Nat) (r k : ByteArray) (ta : Bool) (va sa : ByteArray) (tb : Bool) (vb sb : ByteArray) (fa : few9 k va sa = true) (fb : few9 k vb sb = true) (w : World) :
    Calls Try.prog 10 #[.int .u8 q, .string r, .string k, .agg (ansA ta va sa), .agg (ansA tb vb sb)] w (RV9 (hF q) (okV (hF q) r k ta va sa tb vb sb) w) := by
  obtain ⟨hk, hva, hsa⟩ := few9_parts fa
  obtain ⟨_, hvb, hsb⟩ := few9_parts fb
  have H0 := Lib.hid (fun (h0 : q % 3 = 0) W => by have := values9_any hsh_two r k ta va sa tb vb sb hk hva hsa hvb hsb W; rw [← hF0 h0] at this; exact this)
  have H1 := Lib.hid (fun (h0 : q % 3 = 1) W => by have := values9_any hsh_five r k ta va sa tb vb sb hk hva hsa hvb hsb W; rw [← hF1 h0] at this; exact this)
  have H2 := Lib.hid (fun (h0 : q % 3 = 2) W => by have := values9_any hsh_full r k ta va sa tb vb sb hk hva hsa hvb hsb W; rw [← hF2 h0] at this; exact this)
  generalize okV (hF q) r k ta va sa tb vb sb = ok at *
  generalize hF q = h at *
  change Hid (_ → ∀ W, Calls _ _ #[_, _, _, .agg #[.bool ta, .string va, .string sa], .agg #[.bool tb, .string vb, .string sb]] W _) at H0
  change Hid (_ → ∀ W, Calls _ _ #[_, _, _, .agg #[.bool ta, .string va, .string sa], .agg #[.bool tb, .string vb, .string sb]] W _) at H1
  change Hid (_ → ∀ W, Calls _ _ #[_, _, _, .agg #[.bool ta, .string va, .string sa], .agg #[.bool tb, .string vb, .string sb]] W _) at H2
  obtain ⟨B, hB⟩ : ∃ B, w.heap.size = B := ⟨_, rfl⟩
  obtain ⟨w0, hw0⟩ : ∃ w0, w.alloc (.cells (ansA ta va sa) 23) = w0 := ⟨_, rfl⟩
  obtain ⟨w1, hw1⟩ : ∃ w1, w0.alloc (.cells (ansA tb vb sb) 23) = w1 := ⟨_, rfl⟩
  obtain ⟨w2, hw2⟩ : ∃ w2, w1.alloc (.cells (prA ⟨#[]⟩ ⟨#[]⟩) 31) = w2 := ⟨_, rfl⟩
  have z0 : w0.heap.size = B + 1 := by rw [← hw0]; simp [hB]
  have z1 : w1.heap.size = B + 1 + 1 := by rw [← hw1]; simp [z0]
  have kA : Blk w2 B 23 (ansA ta va sa) := by rw [← hw2, ← hw1, ← hw0, ← hB]; exact ((Blk.new _ _ _).alloc _).alloc _
  have kB : Blk w2 (B + 1) 23 (ansA tb vb sb) := by rw [← hw2, ← hw1]; exact (Blk.new_at z0.symm).alloc _
  have kP : Blk w2 (B + 1 + 1) 31 (prA ⟨#[]⟩ ⟨#[]⟩) := by rw [← hw2]; exact Blk.new_at z1.symm
  have hB2 : Below w.heap.size w w2 := by rw [← hw2, ← hw1, ← hw0]; exact (((Below.refl _ w).alloc (Nat.le_refl _) _).alloc (by simp) _).alloc (by simp; omega) _
  have HW0 : Hid (w.alloc (.cells #[.bool ta, .string va, .string sa] 23) = w0) := Lib.hid hw0
  have HW1 : Hid (w0.alloc (.cells #[.bool tb, .string vb, .string sb] 23) = w1) := Lib.hid hw1
  have HW2 : Hid (w1.alloc (.cells #[.string ⟨#[]⟩, .string ⟨#[]⟩] 31) = w2) := Lib.hid hw2
  show Calls _ _ #[_, _, _, .agg #[.bool ta, .string va, .string sa], .agg #[.bool tb, .string vb, .string sb]] _ _
  have HP2 := Lib.hid kP
  have HBl := Lib.hid hB2
  have x0 : w2.cell? ⟨B, 0, none⟩ = some (.bool ta) := kA.cell 0
  have x1 : w2.cell? ⟨B, 1, none⟩ = some (.string va) := kA.cell 1
  have x2 : w2.cell? ⟨B, 2, none⟩ = some (.string sa) := kA.cell 2
  have y0 : w2.cell? ⟨B + 1, 0, none⟩ = some (.bool tb) := kB.cell 0
  have y1 : w2.cell? ⟨B + 1, 1, none⟩ = some (.string vb) := kB.cell 1
  have y2 : w2.cell? ⟨B + 1, 2, none⟩ = some (.string sb) := kB.cell 2
  clear hw0 hw1 hw2 kA kB kP hB2 fa fb
  have HRV : Hid (∀ ok e w', RV9 h ok w e w' = ((if ok then ∃ A D : ByteArray, e = .returned (.tuple #[.agg (prA A D), .bool true]) ∧ A ≠ D ∧ h A = h D ∧ A.size ≤ 1000 ∧ D.size ≤ 1000 else e = .returned (.tuple #[.agg (prA ⟨#[]⟩ ⟨#[]⟩), .bool false])) ∧ Below w.heap.size w w')) := Lib.hid fun _ _ _ => rfl
  obtain ⟨PO, hPO⟩ : ∃ PO, RV9 h ok w = PO := ⟨_, rfl⟩
  rw [hPO]
  have HPO := Lib.hid hPO
  clear hPO
  rcases (show q % 3 = 0 ∨ q % 3 = 1 ∨ q % 3 = 2 by omega) with h3 | h3 | h3
  · have e3 : (q : Int) % 3 = 0 := by omega
    have H := Lib.hid (H0.out h3)
    clear H0 H1 H2 h3
    unfold RV9 at H
    cases ok with
    | false =>
      go_enter Try.func10, Try.ntmps10
      go_wp2_with (first | rw [HW0.out] | rw [HW1.out] | rw [HW2.out])
      refine (H.out _).mono ?_
      rintro e w3 ⟨rfl, hb3⟩
      have hP3 := HP2.out.below hb3 HP2.out.lt
      have hB3 := HBl.out.trans (hb3.mono HBl.out.size)
      have p0 : w3.cell? ⟨B + 1 + 1, 0, none⟩ = some (.string ⟨#[]⟩) := hP3.cell 0
      have p1 : w3.cell? ⟨B + 1 + 1, 1, none⟩ = some (.string ⟨#[]⟩) := hP3.cell 1
      have t0 := hP3.frozen 0
      have t1 := hP3.frozen 1
      have HRES := Lib.hid ((hP3.set_ 0 (.string ⟨#[]⟩)).set_ 1 (.string ⟨#[]⟩))
      have HBF := Lib.hid ((hB3.setCell (p := ⟨B + 1 + 1, 0, none⟩) (by show w.heap.size ≤ B + 1 + 1; omega) (.string ⟨#[]⟩)).setCell (p := ⟨B + 1 + 1, 1, none⟩) (by show w.heap.size ≤ B + 1 + 1; omega) (.string ⟨#[]⟩))
      clear hP3 hB3 hb3 x0 x1 x2 y0 y1 y2
      unfold prA
      go_wp2
      refine bodyPost_ret (results_grw rfl _ _ (B + 1 + 1) 31 (prA ⟨#[]⟩ ⟨#[]⟩) _ rfl HRES.out Try.underlying31 rfl infoPr9) rfl ?_
      rw [← HPO.out, HRV.out]
      exact ⟨rfl, HBF.out⟩
    | true =>
      go_enter Try.func10, Try.ntmps10
      go_wp2_with (first | rw [HW0.out] | rw [HW1.out] | rw [HW2.out])
      refine (H.out _).mono ?_
      rintro e w3 ⟨⟨tA, tD, rfl, hpo⟩, hb3⟩
      have hP3 := HP2.out.below hb3 HP2.out.lt
      have hB3 := HBl.out.trans (hb3.mono HBl.out.size)
      have p0 : w3.cell? ⟨B + 1 + 1, 0, none⟩ = some (.string ⟨#[]⟩) := hP3.cell 0
      have p1 : w3.cell? ⟨B + 1 + 1, 1, none⟩ = some (.string ⟨#[]⟩) := hP3.cell 1
      have t0 := hP3.frozen 0
      have t1 := hP3.frozen 1
      have HRES := Lib.hid ((hP3.set_ 0 (.string tA)).set_ 1 (.string tD))
      have HBF := Lib.hid ((hB3.setCell (p := ⟨B + 1 + 1, 0, none⟩) (by show w.heap.size ≤ B + 1 + 1; omega) (.string tA)).setCell (p := ⟨B + 1 + 1, 1, none⟩) (by show w.heap.size ≤ B + 1 + 1; omega) (.string tD))
      have HPP := Lib.hid hpo
      clear hP3 hB3 hb3 hpo x0 x1 x2 y0 y1 y2
      unfold prA
      go_wp2
      refine bodyPost_ret (results_grw rfl _ _ (B + 1 + 1) 31 (prA tA tD) _ rfl HRES.out Try.underlying31 rfl infoPr9) rfl ?_
      rw [← HPO.out, HRV.out]
      exact ⟨⟨tA, tD, rfl, HPP.out⟩, HBF.out⟩
  · have e3 : (q : Int) % 3 = 1 := by omega
    have H := Lib.hid (H1.out h3)
    clear H0 H1 H2 h3
    unfold RV9 at H
    cases ok with
    | false =>
      go_enter Try.func10, Try.ntmps10
      go_wp2_with (first | rw [HW0.out] | rw [HW1.out] | rw [HW2.out])
      refine (H.out _).mono ?_
      rintro e w3 ⟨rfl, hb3⟩
      have hP3 := HP2.out.below hb3 HP2.out.lt
      have hB3 := HBl.out.trans (hb3.mono HBl.out.size)
      have p0 : w3.cell? ⟨B + 1 + 1, 0, none⟩ = some (.string ⟨#[]⟩) := hP3.cell 0
      have p1 : w3.cell? ⟨B + 1 + 1, 1, none⟩ = some (.string ⟨#[]⟩) := hP3.cell 1
      have t0 := hP3.frozen 0
      have t1 := hP3.frozen 1
      have HRES := Lib.hid ((hP3.set_ 0 (.string ⟨#[]⟩)).set_ 1 (.string ⟨#[]⟩))
      have HBF := Lib.hid ((hB3.setCell (p := ⟨B + 1 + 1, 0, none⟩) (by show w.heap.size ≤ B + 1 + 1; omega) (.string ⟨#[]⟩)).setCell (p := ⟨B + 1 + 1, 1, none⟩) (by show w.heap.size ≤ B + 1 + 1; omega) (.string ⟨#[]⟩))
      clear hP3 hB3 hb3 x0 x1 x2 y0 y1 y2
      unfold prA
      go_wp2
      refine bodyPost_ret (results_grw rfl _ _ (B + 1 + 1) 31 (prA ⟨#[]⟩ ⟨#[]⟩) _ rfl HRES.out Try.underlying31 rfl infoPr9) rfl ?_
      rw [← HPO.out, HRV.out]
      exact ⟨rfl, HBF.out⟩
    | true =>
      go_enter Try.func10, Try.ntmps10
      go_wp2_with (first | rw [HW0.out] | rw [HW1.out] | rw [HW2.out])
      refine (H.out _).mono ?_
      rintro e w3 ⟨⟨tA, tD, rfl, hpo⟩, hb3⟩
      have hP3 := HP2.out.below hb3 HP2.out.lt
      have hB3 := HBl.out.trans (hb3.mono HBl.out.size)
      have p0 : w3.cell? ⟨B + 1 + 1, 0, none⟩ = some (.string ⟨#[]⟩) := hP3.cell 0
      have p1 : w3.cell? ⟨B + 1 + 1, 1, none⟩ = some (.string ⟨#[]⟩) := hP3.cell 1
      have t0 := hP3.frozen 0
      have t1 := hP3.frozen 1
      have HRES := Lib.hid ((hP3.set_ 0 (.string tA)).set_ 1 (.string tD))
      have HBF := Lib.hid ((hB3.setCell (p := ⟨B + 1 + 1, 0, none⟩) (by show w.heap.size ≤ B + 1 + 1; omega) (.string tA)).setCell (p := ⟨B + 1 + 1, 1, none⟩) (by show w.heap.size ≤ B + 1 + 1; omega) (.string tD))
      have HPP := Lib.hid hpo
      clear hP3 hB3 hb3 hpo x0 x1 x2 y0 y1 y2
      unfold prA
      go_wp2
      refine bodyPost_ret (results_grw rfl _ _ (B + 1 + 1) 31 (prA tA tD) _ rfl HRES.out Try.underlying31 rfl infoPr9) rfl ?_
      rw [← HPO.out, HRV.out]
      exact ⟨⟨tA, tD, rfl, HPP.out⟩, HBF.out⟩
  · have e3 : (q : Int) % 3 = 2 := by omega
    have H := Lib.hid (H2.out h3)
    clear H0 H1 H2 h3
    unfold RV9 at H
    cases ok with
    | false =>
      go_enter Try.func10, Try.ntmps10
      go_wp2_with (first | rw [HW0.out] | rw [HW1.out] | rw [HW2.out])
      refine (H.out _).mono ?_
      rintro e w3 ⟨rfl, hb3⟩
      have hP3 := HP2.out.below hb3 HP2.out.lt
      have hB3 := HBl.out.trans (hb3.mono HBl.out.size)
      have p0 : w3.cell? ⟨B + 1 + 1, 0, none⟩ = some (.string ⟨#[]⟩) := hP3.cell 0
      have p1 : w3.cell? ⟨B + 1 + 1, 1, none⟩ = some (.string ⟨#[]⟩) := hP3.cell 1
      have t0 := hP3.frozen 0
      have t1 := hP3.frozen 1
      have HRES := Lib.hid ((hP3.set_ 0 (.string ⟨#[]⟩)).set_ 1 (.string ⟨#[]⟩))
      have HBF := Lib.hid ((hB3.setCell (p := ⟨B + 1 + 1, 0, none⟩) (by show w.heap.size ≤ B + 1 + 1; omega) (.string ⟨#[]⟩)).setCell (p := ⟨B + 1 + 1, 1, none⟩) (by show w.heap.size ≤ B + 1 + 1; omega) (.string ⟨#[]⟩))
      clear hP3 hB3 hb3 x0 x1 x2 y0 y1 y2
      unfold prA
      go_wp2
      refine bodyPost_ret (results_grw rfl _ _ (B + 1 + 1) 31 (prA ⟨#[]⟩ ⟨#[]⟩) _ rfl HRES.out Try.underlying31 rfl infoPr9) rfl ?_
      rw [← HPO.out, HRV.out]
      exact ⟨rfl, HBF.out⟩
    | true =>
      go_enter Try.func10, Try.ntmps10
      go_wp2_with (first | rw [HW0.out] | rw [HW1.out] | rw [HW2.out])
      refine (H.out _).mono ?_
      rintro e w3 ⟨⟨tA, tD, rfl, hpo⟩, hb3⟩
      have hP3 := HP2.out.below hb3 HP2.out.lt
      have hB3 := HBl.out.trans (hb3.mono HBl.out.size)
      have p0 : w3.cell? ⟨B + 1 + 1, 0, none⟩ = some (.string ⟨#[]⟩) := hP3.cell 0
      have p1 : w3.cell? ⟨B + 1 + 1, 1, none⟩ = some (.string ⟨#[]⟩) := hP3.cell 1
      have t0 := hP3.frozen 0
      have t1 := hP3.frozen 1
      have HRES := Lib.hid ((hP3.set_ 0 (.string tA)).set_ 1 (.string tD))
      have HBF := Lib.hid ((hB3.setCell (p := ⟨B + 1 + 1, 0, none⟩) (by show w.heap.size ≤ B + 1 + 1; omega) (.string tA)).setCell (p := ⟨B + 1 + 1, 1, none⟩) (by show w.heap.size ≤ B + 1 + 1; omega) (.string tD))
      have HPP := Lib.hid hpo
      clear hP3 hB3 hb3 hpo x0 x1 x2 y0 y1 y2
      unfold prA
      go_wp2
      refine bodyPost_ret (results_grw rfl _ _ (B + 1 + 1) 31 (prA tA tD) _ rfl HRES.out Try.underlying31 rfl infoPr9) rfl ?_
      rw [← HPO.out, HRV.out]
      exact ⟨⟨tA, tD, rfl, HPP.out⟩, HBF.out⟩
set_option maxRecDepth 100000 in
set_option maxHeartbeats 8000000 in
theorem law_values9 (q : Int) (hq9 : 0 ≤ q ∧ q ≤ 255) (k : ByteArray) (_ : k.size ≤ 9223372036854775807) (ta : Bool) (va sa : ByteArray) (tb : Bool) (vb sb : ByteArray) (w : World) :
    Calls Try.prog 4 #[.int .u8 q, .string k, .agg #[.bool ta, .string va, .string sa, .bool tb, .string vb, .string sb]] w fun e w' => e = .returned (.bool true) ∧ Below w.heap.size w w' := by
  obtain ⟨q, rfl⟩ := Int.eq_ofNat_of_zero_le hq9.1
  have hq : q < 256 := by omega
  have HAW := Lib.hid awake9_any
  have HFa := Lib.hid (fun W => few9_any k ta va sa W)
  have HFb := Lib.hid (fun W => few9_any k tb vb sb W)
  have HRa := Lib.hid (fun hf W => rroot9_any q hq k ta va sa hf W)
  have HRb := Lib.hid (fun hf W => rroot9_any q hq k tb vb sb hf W)
  have HLv := Lib.hid (fun fa fb W => lvalues9_any q (rt9 (hF q) k ta va sa) k ta va sa tb vb sb fa fb W)
  have HCo := Lib.hid (fun A D (h1 : A.size ≤ 1000) (h2 : D.size ≤ 1000) (h3 : A ≠ D) (h4 : hF q A = hF q D) W => collides9_any hq A D h1 h2 h3 h4 W)
  have HOK : Hid (okV (hF q) (rt9 (hF q) k ta va sa) k ta va sa tb vb sb = (decide (ta ≠ tb ∨ va ≠ vb) && (may9 k ta va sa && true) && (may9 k tb vb sb && decide (rt9 (hF q) k tb vb sb = rt9 (hF q) k ta va sa)))) := Lib.hid (by
    unfold okV dif9
    rw [decide_eq_true (rfl : rt9 (hF q) k ta va sa = rt9 (hF q) k ta va sa)])
  unfold RV9 at HLv
  generalize okV (hF q) (rt9 (hF q) k ta va sa) k ta va sa tb vb sb = ok at *
  generalize rt9 (hF q) k ta va sa = R at *
  generalize rt9 (hF q) k tb vb sb = T at *
  generalize may9 k ta va sa = M at *
  generalize may9 k tb vb sb = N at *
  generalize hF q = h at *
  change Hid (∀ W, Calls _ _ #[_, .agg #[.bool ta, .string va, .string sa]] W _) at HFa
  change Hid (∀ W, Calls _ _ #[_, .agg #[.bool tb, .string vb, .string sb]] W _) at HFb
  change Hid (_ → ∀ W, Calls _ _ #[_, _, .agg #[.bool ta, .string va, .string sa]] W _) at HRa
  change Hid (_ → ∀ W, Calls _ _ #[_, _, .agg #[.bool tb, .string vb, .string sb]] W _) at HRb
  change Hid (_ → _ → ∀ W, Calls _ _ #[_, _, _, .agg #[.bool ta, .string va, .string sa], .agg #[.bool tb, .string vb, .string sb]] W _) at HLv
  obtain ⟨B, hB⟩ : ∃ B, w.heap.size = B := ⟨_, rfl⟩
  obtain ⟨w0, hw0⟩ : ∃ w0, w.alloc (.cells #[.bool ta, .string va, .string sa, .bool tb, .string vb, .string sb] 29) = w0 := ⟨_, rfl⟩
  have k0 : Blk w0 B 29 #[.bool ta, .string va, .string sa, .bool tb, .string vb, .string sb] := by rw [← hw0, ← hB]; exact Blk.new _ _ _
  have hB0 : Below w.heap.size w w0 := by rw [← hw0]; exact (Below.refl _ w).alloc (Nat.le_refl _) _
  have HW0 := Lib.hid hw0
  have HK0 := Lib.hid k0
  have HBl := Lib.hid hB0
  have heq := eq_pair9
  clear hw0 k0 hB0
  obtain ⟨fa, hfa⟩ : ∃ b, few9 k va sa = b := ⟨_, rfl⟩
  rw [hfa] at HFa HRa HLv
  obtain ⟨fb, hfb⟩ : ∃ b, few9 k vb sb = b := ⟨_, rfl⟩
  rw [hfb] at HFb HRb HLv
  clear hfa hfb
  go_enter Try.func4, Try.ntmps4
  go_wp2_with (first | rw [HW0.out])
  refine (HAW.out _).mono ?_
  rintro e w1 ⟨rfl, hb⟩
  have hK1 := HK0.out.below hb HK0.out.lt
  have hB1 := HBl.out.trans (hb.mono HBl.out.size)
  clear hb HK0 HBl
  have x0 : w1.cell? ⟨B, 0, none⟩ = some (.bool ta) := hK1.cell 0
  have x1 : w1.cell? ⟨B, 1, none⟩ = some (.string va) := hK1.cell 1
  have x2 : w1.cell? ⟨B, 2, none⟩ = some (.string sa) := hK1.cell 2
  have x3 : w1.cell? ⟨B, 3, none⟩ = some (.bool tb) := hK1.cell 3
  have x4 : w1.cell? ⟨B, 4, none⟩ = some (.string vb) := hK1.cell 4
  have x5 : w1.cell? ⟨B, 5, none⟩ = some (.string sb) := hK1.cell 5
  go_wp2_with fail
  refine (HFa.out _).mono ?_
  rintro e w2 ⟨rfl, hb⟩
  have hK2 := hK1.below hb hK1.lt
  have hB2 := hB1.trans (hb.mono hB1.size)
  clear hb x0 x1 x2 x3 x4 x5 hK1 hB1
  cases fa
  · clear HLv HRa HRb HCo hK2
    go_wp2_with fail
    refine (HAW.out _).mono ?_
    rintro e wz ⟨rfl, hbz⟩
    have hBz := hB2.trans (hbz.mono hB2.size)
    go_wp2
    go_ret
    exact ⟨rfl, hBz⟩
  have x0 : w2.cell? ⟨B, 0, none⟩ = some (.bool ta) := hK2.cell 0
  have x1 : w2.cell? ⟨B, 1, none⟩ = some (.string va) := hK2.cell 1
  have x2 : w2.cell? ⟨B, 2, none⟩ = some (.string sa) := hK2.cell 2
  have x3 : w2.cell? ⟨B, 3, none⟩ = some (.bool tb) := hK2.cell 3
  have x4 : w2.cell? ⟨B, 4, none⟩ = some (.string vb) := hK2.cell 4
  have x5 : w2.cell? ⟨B, 5, none⟩ = some (.string sb) := hK2.cell 5
  go_wp2_with fail
  refine (HFb.out _).mono ?_
  rintro e w3 ⟨rfl, hb⟩
  have hK3 := hK2.below hb hK2.lt
  have hB3 := hB2.trans (hb.mono hB2.size)
  clear hb x0 x1 x2 x3 x4 x5 hK2 hB2
  cases fb
  · clear HLv HRa HRb HCo hK3
    go_wp2_with fail
    refine (HAW.out _).mono ?_
    rintro e wz ⟨rfl, hbz⟩
    have hBz := hB3.trans (hbz.mono hB3.size)
    go_wp2
    go_ret
    exact ⟨rfl, hBz⟩
  have x0 : w3.cell? ⟨B, 0, none⟩ = some (.bool ta) := hK3.cell 0
  have x1 : w3.cell? ⟨B, 1, none⟩ = some (.string va) := hK3.cell 1
  have x2 : w3.cell? ⟨B, 2, none⟩ = some (.string sa) := hK3.cell 2
  have x3 : w3.cell? ⟨B, 3, none⟩ = some (.bool tb) := hK3.cell 3
  have x4 : w3.cell? ⟨B, 4, none⟩ = some (.string vb) := hK3.cell 4
  have x5 : w3.cell? ⟨B, 5, none⟩ = some (.string sb) := hK3.cell 5
  go_wp2_with fail
  refine (HRa.out (by trivial) _).mono ?_
  rintro e w4 ⟨rfl, hb⟩
  have hK4 := hK3.below hb hK3.lt
  have hB4 := hB3.trans (hb.mono hB3.size)
  clear hb x0 x1 x2 x3 x4 x5 hK3 hB3
  have x0 : w4.cell? ⟨B, 0, none⟩ = some (.bool ta) := hK4.cell 0
  have x1 : w4.cell? ⟨B, 1, none⟩ = some (.string va) := hK4.cell 1
  have x2 : w4.cell? ⟨B, 2, none⟩ = some (.string sa) := hK4.cell 2
  have x3 : w4.cell? ⟨B, 3, none⟩ = some (.bool tb) := hK4.cell 3
  have x4 : w4.cell? ⟨B, 4, none⟩ = some (.string vb) := hK4.cell 4
  have x5 : w4.cell? ⟨B, 5, none⟩ = some (.string sb) := hK4.cell 5
  go_wp2_with fail
  refine (HRb.out (by trivial) _).mono ?_
  rintro e w5 ⟨rfl, hb⟩
  have hK5 := hK4.below hb hK4.lt
  have hB5 := hB4.trans (hb.mono hB4.size)
  clear hb x0 x1 x2 x3 x4 x5 hK4 hB4
  have x0 : w5.cell? ⟨B, 0, none⟩ = some (.bool ta) := hK5.cell 0
  have x1 : w5.cell? ⟨B, 1, none⟩ = some (.string va) := hK5.cell 1
  have x2 : w5.cell? ⟨B, 2, none⟩ = some (.string sa) := hK5.cell 2
  have x3 : w5.cell? ⟨B, 3, none⟩ = some (.bool tb) := hK5.cell 3
  have x4 : w5.cell? ⟨B, 4, none⟩ = some (.string vb) := hK5.cell 4
  have x5 : w5.cell? ⟨B, 5, none⟩ = some (.string sb) := hK5.cell 5
  go_wp2_with fail
  have HLv1 := Lib.hid (HLv.out (by trivial) (by trivial))
  clear HLv HFa HFb HRa HRb HAW
  cases ok with
  | false =>
    refine (HLv1.out _).mono ?_
    rintro e w6 ⟨rfl, hb⟩
    have hK6 := hK5.below hb hK5.lt
    have hB6 := hB5.trans (hb.mono hB5.size)
    clear hb x0 x1 x2 x3 x4 x5 hK5 hB5 HLv1 HCo
    obtain ⟨P, hP⟩ : ∃ P, w6.heap.size = P := ⟨_, rfl⟩
    obtain ⟨wo, hwo⟩ : ∃ wo, w6.alloc (.cells #[.string ⟨#[]⟩, .string ⟨#[]⟩] 31) = wo := ⟨_, rfl⟩
    have hBo : Below w.heap.size w wo := by rw [← hwo]; exact hB6.alloc hB6.size _
    have kO : Blk wo P 31 #[.string ⟨#[]⟩, .string ⟨#[]⟩] := by rw [← hwo, ← hP]; exact Blk.new _ _ _
    have hAo : Blk wo B 29 #[.bool ta, .string va, .string sa, .bool tb, .string vb, .string sb] := by rw [← hwo]; exact hK6.alloc _
    have hwP : w.heap.size ≤ P := by rw [← hP]; exact hB6.size
    have hAP : B ≠ P := by have := hK6.lt; omega
    have HWO := Lib.hid hwo
    have hBx := (hBo.setCell (p := ⟨P, 0, none⟩) hwP (.string ⟨#[]⟩)).setCell (p := ⟨P, 1, none⟩) hwP (.string ⟨#[]⟩)
    have kP := (kO.set_ 0 (.string ⟨#[]⟩)).set_ 1 (.string ⟨#[]⟩)
    have hAx := (hAo.far (p := ⟨P, 0, none⟩) hAP (.string ⟨#[]⟩)).far (p := ⟨P, 1, none⟩) hAP (.string ⟨#[]⟩)
    obtain ⟨wp, hwp⟩ : ∃ wp, (wo.setCell ⟨P, 0, none⟩ (.string ⟨#[]⟩)).setCell ⟨P, 1, none⟩ (.string ⟨#[]⟩) = wp := ⟨_, rfl⟩
    rw [hwp] at hBx kP hAx
    have HWP := Lib.hid hwp
    have s2 : wo.cell? ⟨P, 0, none⟩ = some (.string ⟨#[]⟩) := kO.cell 0
    have s3 : wo.cell? ⟨P, 1, none⟩ = some (.string ⟨#[]⟩) := kO.cell 1
    have f2 := kO.frozen 0
    have f3 := kO.frozen 1
    clear hwp hwo hAo hBo kO hAP hwP hK6 hB6
    have x0 : wp.cell? ⟨B, 0, none⟩ = some (.bool ta) := hAx.cell 0
    have x1 : wp.cell? ⟨B, 1, none⟩ = some (.string va) := hAx.cell 1
    have x2 : wp.cell? ⟨B, 2, none⟩ = some (.string sa) := hAx.cell 2
    have x3 : wp.cell? ⟨B, 3, none⟩ = some (.bool tb) := hAx.cell 3
    have x4 : wp.cell? ⟨B, 4, none⟩ = some (.string vb) := hAx.cell 4
    have x5 : wp.cell? ⟨B, 5, none⟩ = some (.string sb) := hAx.cell 5
    have s0 : wp.cell? ⟨P, 0, none⟩ = some (.string ⟨#[]⟩) := kP.cell 0
    have s1 : wp.cell? ⟨P, 1, none⟩ = some (.string ⟨#[]⟩) := kP.cell 1
    unfold prA
    cases M
    · clear HOK
      go_wp2_with (first | rw [HWO.out] | rw [HWP.out])
      go_ret
      exact ⟨by first | rfl | simp, hBx⟩
    · cases N
      · clear HOK
        go_wp2_with (first | rw [HWO.out] | rw [HWP.out])
        go_ret
        exact ⟨by first | rfl | simp, hBx⟩
      · by_cases hRT : R = T
        · obtain ⟨r1, r2⟩ := eqT9 hRT
          have hno : ¬ (ta ≠ tb ∨ va ≠ vb) := by
            have := HOK.out
            rw [decide_eq_true hRT.symm] at this
            simpa using this
          have hta : ta = tb := Classical.byContradiction fun h => hno (.inl h)
          obtain ⟨v1, v2⟩ := eqT9 (show va = vb from Classical.byContradiction fun h => hno (.inr h))
          have g1 : (ta == tb) = true := by rw [hta]; exact beq_self_eq_true _
          clear HOK hRT hno hta
          go_wp2_with (first | rw [HWO.out] | rw [HWP.out])
          go_ret
          exact ⟨by first | rfl | simp, hBx⟩
        · obtain ⟨r1, r2⟩ := eqF9 hRT
          clear HOK hRT
          go_wp2_with (first | rw [HWO.out] | rw [HWP.out])
          go_ret
          exact ⟨by first | rfl | simp, hBx⟩
  | true =>
    refine (HLv1.out _).mono ?_
    rintro e w6 ⟨⟨A, D, rfl, hne, heqh, hAs, hDs⟩, hb⟩
    have hK6 := hK5.below hb hK5.lt
    have hB6 := hB5.trans (hb.mono hB5.size)
    have HCo1 := Lib.hid (HCo.out A D hAs hDs hne heqh)
    have hOK := HOK.out.symm
    simp only [Bool.and_true, Bool.and_eq_true, decide_eq_true_eq] at hOK
    obtain ⟨⟨hdif, hM⟩, hN, hTR⟩ := hOK
    subst hM hN
    obtain ⟨r1, r2⟩ := eqT9 hTR.symm
    have HD := Lib.hid hdif
    clear hb x0 x1 x2 x3 x4 x5 hK5 hB5 HLv1 HCo HOK hne heqh hAs hDs hTR hdif
    obtain ⟨P, hP⟩ : ∃ P, w6.heap.size = P := ⟨_, rfl⟩
    obtain ⟨wp, hwp⟩ : ∃ wp, w6.alloc (.cells #[.string A, .string D] 31) = wp := ⟨_, rfl⟩
    have hBx : Below w.heap.size w wp := by rw [← hwp]; exact hB6.alloc hB6.size _
    have kP : Blk wp P 31 #[.string A, .string D] := by rw [← hwp, ← hP]; exact Blk.new _ _ _
    have hAx : Blk wp B 29 #[.bool ta, .string va, .string sa, .bool tb, .string vb, .string sb] := by rw [← hwp]; exact hK6.alloc _
    have HWP := Lib.hid hwp
    have HBX := Lib.hid hBx
    clear hwp hK6 hB6 hBx
    have x0 : wp.cell? ⟨B, 0, none⟩ = some (.bool ta) := hAx.cell 0
    have x1 : wp.cell? ⟨B, 1, none⟩ = some (.string va) := hAx.cell 1
    have x2 : wp.cell? ⟨B, 2, none⟩ = some (.string sa) := hAx.cell 2
    have x3 : wp.cell? ⟨B, 3, none⟩ = some (.bool tb) := hAx.cell 3
    have x4 : wp.cell? ⟨B, 4, none⟩ = some (.string vb) := hAx.cell 4
    have x5 : wp.cell? ⟨B, 5, none⟩ = some (.string sb) := hAx.cell 5
    have s0 : wp.cell? ⟨P, 0, none⟩ = some (.string A) := kP.cell 0
    have s1 : wp.cell? ⟨P, 1, none⟩ = some (.string D) := kP.cell 1
    unfold prA
    by_cases hta : ta = tb
    · have g1 : (ta == tb) = true := by rw [hta]; exact beq_self_eq_true _
      obtain ⟨v1, v2⟩ := eqF9 (show ¬ va = vb from fun e => by rcases HD.out with h | h; exact h hta; exact h e)
      clear hta HD
      go_wp2_with (first | rw [HWP.out])
      refine (HCo1.out _).mono ?_
      rintro e w8 ⟨rfl, hb⟩
      have hB8 := HBX.out.trans (hb.mono HBX.out.size)
      go_wp2
      go_ret
      exact ⟨rfl, hB8⟩
    · have g1 : (ta == tb) = false := by rw [beq_eq_false_iff_ne]; exact hta
      clear hta HD
      go_wp2_with (first | rw [HWP.out])
      refine (HCo1.out _).mono ?_
      rintro e w8 ⟨rfl, hb⟩
      have hB8 := HBX.out.trans (hb.mono HBX.out.size)
      go_wp2
      go_ret
      exact ⟨rfl, hB8⟩
end Go.Proofs.Ytjdjndginacdnaa

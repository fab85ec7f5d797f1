/-
  Layer 8: a beginning and its tree, unlike leaves at one place: the law.
-/
import Derived.Test.YtfhfmfcmkiobdaaCPrefix
import Derived.Test.YtfhfmfcmkiobdaaCLawLv
import Derived.Test.YtfhfmfcmkiobdaaCBoth
namespace Go.Proofs.Ytfhfmfcmkiobdaa
open Go.RowKit

theorem okG_bth (F S : ByteArray) (o : Option (ByteArray × ByteArray × List ByteArray × List ByteArray)) : okG F S o = ((bthC o).2.2 && decide ((bthC o).1 = F ∧ (bthC o).2.1 = S)) := by
  cases o with
  | none => rfl
  | some T => obtain ⟨a, s, E, L⟩ := T; exact (Bool.true_and _).symm
set_option maxRecDepth 100000 in
set_option maxHeartbeats 8000000 in
theorem lprefix_any (q : Nat) (hq : q < 256) (F S : ByteArray) (hFs : F.size ≤ 1000) (op : Option Addr) (lp cp : Nat) (ps : List ByteArray) (hlp : ps.length = lp) (hmp : lp ≤ 40) (hcp : lp ≤ cp) (hnp : op = none → lp = 0 ∧ cp = 0) (hpz : ∀ s ∈ ps, s.size ≤ 9223372036854775807) (A D : Clm) (w : World) (hps : Strs w op ps) (hoa : A.ok w) (hob : D.ok w) :
    Calls Try.prog 14 #[.int .u8 q, (Chg.mk F S op lp cp ps A D).val] w (RLv (hF q) (okP (hF q) F S ps A D) w) := by
  have H0 := Lib.hid (fun (h0 : q % 3 = 0) W hP hA hB => by have := prefix_any hsh_two F S hFs op lp cp ps hlp hmp hcp hnp hpz A D W hP hA hB; rw [← hF0 h0] at this; exact this)
  have H1 := Lib.hid (fun (h0 : q % 3 = 1) W hP hA hB => by have := prefix_any hsh_five F S hFs op lp cp ps hlp hmp hcp hnp hpz A D W hP hA hB; rw [← hF1 h0] at this; exact this)
  have H2 := Lib.hid (fun (h0 : q % 3 = 2) W hP hA hB => by have := prefix_any hsh_full F S hFs op lp cp ps hlp hmp hcp hnp hpz A D W hP hA hB; rw [← hF2 h0] at this; exact this)
  have HKa := Lib.hid hoa
  have HKb := Lib.hid hob
  have HC := Lib.hid hps
  clear hoa hob hps hFs hlp hmp hcp hnp hpz
  generalize okP (hF q) F S ps A D = k at *
  generalize hF q = h at *
  obtain ⟨lf, I, N, oa, len, cap, ss⟩ := A
  obtain ⟨lf', I', N', oa', len', cap', ss'⟩ := D
  change Hid (_ → ∀ W, _ → _ → _ → Calls _ _ #[_, _, _, _, .agg #[.string lf, .int .i64 I, .int .i64 N, .slice oa len cap], .agg #[.string lf', .int .i64 I', .int .i64 N', .slice oa' len' cap']] W _) at H0
  change Hid (_ → ∀ W, _ → _ → _ → Calls _ _ #[_, _, _, _, .agg #[.string lf, .int .i64 I, .int .i64 N, .slice oa len cap], .agg #[.string lf', .int .i64 I', .int .i64 N', .slice oa' len' cap']] W _) at H1
  change Hid (_ → ∀ W, _ → _ → _ → Calls _ _ #[_, _, _, _, .agg #[.string lf, .int .i64 I, .int .i64 N, .slice oa len cap], .agg #[.string lf', .int .i64 I', .int .i64 N', .slice oa' len' cap']] W _) at H2
  show Calls _ _ #[_, .agg #[.string F, .string S, .slice op lp cp, .string lf, .int .i64 I, .int .i64 N, .slice oa len cap, .string lf', .int .i64 I', .int .i64 N', .slice oa' len' cap']] _ _
  obtain ⟨B, hB⟩ : ∃ B, w.heap.size = B := ⟨_, rfl⟩
  obtain ⟨w0, hw0⟩ : ∃ w0, w.alloc (.cells #[.string F, .string S, .slice op lp cp, .string lf, .int .i64 I, .int .i64 N, .slice oa len cap, .string lf', .int .i64 I', .int .i64 N', .slice oa' len' cap'] 37) = w0 := ⟨_, rfl⟩
  obtain ⟨w1, hw1⟩ : ∃ w1, w0.alloc (.cells zpair 31) = w1 := ⟨_, rfl⟩
  have z0 : w0.heap.size = B + 1 := by rw [← hw0]; simp [hB]
  have kC : Blk w1 B 37 #[.string F, .string S, .slice op lp cp, .string lf, .int .i64 I, .int .i64 N, .slice oa len cap, .string lf', .int .i64 I', .int .i64 N', .slice oa' len' cap'] := by rw [← hw1, ← hw0, ← hB]; exact (Blk.new _ _ _).alloc _
  have kP : Blk w1 (B + 1) 31 zpair := by rw [← hw1]; exact Blk.new_at z0.symm
  have hB1 : Below w.heap.size w w1 := by rw [← hw1, ← hw0]; exact ((Below.refl _ w).alloc (Nat.le_refl _) _).alloc (by simp) _
  have HW0 := Lib.hid hw0
  have HW1 := Lib.hid hw1
  have HP1 := Lib.hid kP
  have HBl := Lib.hid hB1
  have hK1 := HKa.out.below hB1
  have hK2 := HKb.out.below hB1
  have hK3 := HC.out.below hB1
  have d0 : w1.cell? ⟨B, 0, none⟩ = some (.string F) := kC.cell 0
  have d1 : w1.cell? ⟨B, 1, none⟩ = some (.string S) := kC.cell 1
  have d2 : w1.cell? ⟨B, 2, none⟩ = some (.slice op lp cp) := kC.cell 2
  have d3 : w1.cell? ⟨B, 3, none⟩ = some (.string lf) := kC.cell 3
  have d4 : w1.cell? ⟨B, 4, none⟩ = some (.int .i64 I) := kC.cell 4
  have d5 : w1.cell? ⟨B, 5, none⟩ = some (.int .i64 N) := kC.cell 5
  have d6 : w1.cell? ⟨B, 6, none⟩ = some (.slice oa len cap) := kC.cell 6
  have d7 : w1.cell? ⟨B, 7, none⟩ = some (.string lf') := kC.cell 7
  have d8 : w1.cell? ⟨B, 8, none⟩ = some (.int .i64 I') := kC.cell 8
  have d9 : w1.cell? ⟨B, 9, none⟩ = some (.int .i64 N') := kC.cell 9
  have d10 : w1.cell? ⟨B, 10, none⟩ = some (.slice oa' len' cap') := kC.cell 10
  clear hw0 hw1 kC kP hB1
  rcases (show q % 3 = 0 ∨ q % 3 = 1 ∨ q % 3 = 2 by omega) with h3 | h3 | h3
  · have e3 : (q : Int) % 3 = 0 := by omega
    have H := Lib.hid (H0.out h3 _ hK3 hK1 hK2)
    clear H0 H1 H2 h3
    cases k with
    | false =>
      go_enter Try.func14, Try.ntmps14
      go_wp2_with (first | rw [HW0.out] | rw [HW1.out])
      refine H.out.mono ?_
      rintro e w3 ⟨rfl, hb3⟩
      have hP3 := HP1.out.below hb3 HP1.out.lt
      have hB3 := HBl.out.trans (hb3.mono HBl.out.size)
      have p0 : w3.cell? ⟨B + 1, 0, none⟩ = some (.string ⟨#[]⟩) := hP3.cell 0
      have p1 : w3.cell? ⟨B + 1, 1, none⟩ = some (.string ⟨#[]⟩) := hP3.cell 1
      have t0 := hP3.frozen 0
      have t1 := hP3.frozen 1
      have HRES := Lib.hid ((hP3.set_ 0 (.string ⟨#[]⟩)).set_ 1 (.string ⟨#[]⟩))
      have HBF := Lib.hid ((hB3.setCell (p := ⟨B + 1, 0, none⟩) (by show w.heap.size ≤ B + 1; omega) (.string ⟨#[]⟩)).setCell (p := ⟨B + 1, 1, none⟩) (by show w.heap.size ≤ B + 1; omega) (.string ⟨#[]⟩))
      clear hP3 hB3 hb3 d0 d1 d2 d3 d4 d5 d6 d7 d8 d9 d10
      go_wp2
      refine bodyPost_ret (results_grw rfl _ _ (B + 1) 31 zpair _ rfl HRES.out Try.underlying31 rfl infoPair) rfl ?_
      exact ⟨rfl, HBF.out⟩
    | true =>
      go_enter Try.func14, Try.ntmps14
      go_wp2_with (first | rw [HW0.out] | rw [HW1.out])
      refine H.out.mono ?_
      rintro e w3 ⟨⟨tA, tD, rfl, hpo⟩, hb3⟩
      have hP3 := HP1.out.below hb3 HP1.out.lt
      have hB3 := HBl.out.trans (hb3.mono HBl.out.size)
      have p0 : w3.cell? ⟨B + 1, 0, none⟩ = some (.string ⟨#[]⟩) := hP3.cell 0
      have p1 : w3.cell? ⟨B + 1, 1, none⟩ = some (.string ⟨#[]⟩) := hP3.cell 1
      have t0 := hP3.frozen 0
      have t1 := hP3.frozen 1
      have HRES := Lib.hid ((hP3.set_ 0 (.string tA)).set_ 1 (.string tD))
      have HBF := Lib.hid ((hB3.setCell (p := ⟨B + 1, 0, none⟩) (by show w.heap.size ≤ B + 1; omega) (.string tA)).setCell (p := ⟨B + 1, 1, none⟩) (by show w.heap.size ≤ B + 1; omega) (.string tD))
      have HPO := Lib.hid hpo
      clear hP3 hB3 hb3 hpo d0 d1 d2 d3 d4 d5 d6 d7 d8 d9 d10
      go_wp2
      refine bodyPost_ret (results_grw rfl _ _ (B + 1) 31 #[.string tA, .string tD] _ rfl HRES.out Try.underlying31 rfl infoPair) rfl ?_
      exact ⟨⟨tA, tD, rfl, HPO.out⟩, HBF.out⟩
  · have e3 : (q : Int) % 3 = 1 := by omega
    have H := Lib.hid (H1.out h3 _ hK3 hK1 hK2)
    clear H0 H1 H2 h3
    cases k with
    | false =>
      go_enter Try.func14, Try.ntmps14
      go_wp2_with (first | rw [HW0.out] | rw [HW1.out])
      refine H.out.mono ?_
      rintro e w3 ⟨rfl, hb3⟩
      have hP3 := HP1.out.below hb3 HP1.out.lt
      have hB3 := HBl.out.trans (hb3.mono HBl.out.size)
      have p0 : w3.cell? ⟨B + 1, 0, none⟩ = some (.string ⟨#[]⟩) := hP3.cell 0
      have p1 : w3.cell? ⟨B + 1, 1, none⟩ = some (.string ⟨#[]⟩) := hP3.cell 1
      have t0 := hP3.frozen 0
      have t1 := hP3.frozen 1
      have HRES := Lib.hid ((hP3.set_ 0 (.string ⟨#[]⟩)).set_ 1 (.string ⟨#[]⟩))
      have HBF := Lib.hid ((hB3.setCell (p := ⟨B + 1, 0, none⟩) (by show w.heap.size ≤ B + 1; omega) (.string ⟨#[]⟩)).setCell (p := ⟨B + 1, 1, none⟩) (by show w.heap.size ≤ B + 1; omega) (.string ⟨#[]⟩))
      clear hP3 hB3 hb3 d0 d1 d2 d3 d4 d5 d6 d7 d8 d9 d10
      go_wp2
      refine bodyPost_ret (results_grw rfl _ _ (B + 1) 31 zpair _ rfl HRES.out Try.underlying31 rfl infoPair) rfl ?_
      exact ⟨rfl, HBF.out⟩
    | true =>
      go_enter Try.func14, Try.ntmps14
      go_wp2_with (first | rw [HW0.out] | rw [HW1.out])
      refine H.out.mono ?_
      rintro e w3 ⟨⟨tA, tD, rfl, hpo⟩, hb3⟩
      have hP3 := HP1.out.below hb3 HP1.out.lt
      have hB3 := HBl.out.trans (hb3.mono HBl.out.size)
      have p0 : w3.cell? ⟨B + 1, 0, none⟩ = some (.string ⟨#[]⟩) := hP3.cell 0
      have p1 : w3.cell? ⟨B + 1, 1, none⟩ = some (.string ⟨#[]⟩) := hP3.cell 1
      have t0 := hP3.frozen 0
      have t1 := hP3.frozen 1
      have HRES := Lib.hid ((hP3.set_ 0 (.string tA)).set_ 1 (.string tD))
      have HBF := Lib.hid ((hB3.setCell (p := ⟨B + 1, 0, none⟩) (by show w.heap.size ≤ B + 1; omega) (.string tA)).setCell (p := ⟨B + 1, 1, none⟩) (by show w.heap.size ≤ B + 1; omega) (.string tD))
      have HPO := Lib.hid hpo
      clear hP3 hB3 hb3 hpo d0 d1 d2 d3 d4 d5 d6 d7 d8 d9 d10
      go_wp2
      refine bodyPost_ret (results_grw rfl _ _ (B + 1) 31 #[.string tA, .string tD] _ rfl HRES.out Try.underlying31 rfl infoPair) rfl ?_
      exact ⟨⟨tA, tD, rfl, HPO.out⟩, HBF.out⟩
  · have e3 : (q : Int) % 3 = 2 := by omega
    have H := Lib.hid (H2.out h3 _ hK3 hK1 hK2)
    clear H0 H1 H2 h3
    cases k with
    | false =>
      go_enter Try.func14, Try.ntmps14
      go_wp2_with (first | rw [HW0.out] | rw [HW1.out])
      refine H.out.mono ?_
      rintro e w3 ⟨rfl, hb3⟩
      have hP3 := HP1.out.below hb3 HP1.out.lt
      have hB3 := HBl.out.trans (hb3.mono HBl.out.size)
      have p0 : w3.cell? ⟨B + 1, 0, none⟩ = some (.string ⟨#[]⟩) := hP3.cell 0
      have p1 : w3.cell? ⟨B + 1, 1, none⟩ = some (.string ⟨#[]⟩) := hP3.cell 1
      have t0 := hP3.frozen 0
      have t1 := hP3.frozen 1
      have HRES := Lib.hid ((hP3.set_ 0 (.string ⟨#[]⟩)).set_ 1 (.string ⟨#[]⟩))
      have HBF := Lib.hid ((hB3.setCell (p := ⟨B + 1, 0, none⟩) (by show w.heap.size ≤ B + 1; omega) (.string ⟨#[]⟩)).setCell (p := ⟨B + 1, 1, none⟩) (by show w.heap.size ≤ B + 1; omega) (.string ⟨#[]⟩))
      clear hP3 hB3 hb3 d0 d1 d2 d3 d4 d5 d6 d7 d8 d9 d10
      go_wp2
      refine bodyPost_ret (results_grw rfl _ _ (B + 1) 31 zpair _ rfl HRES.out Try.underlying31 rfl infoPair) rfl ?_
      exact ⟨rfl, HBF.out⟩
    | true =>
      go_enter Try.func14, Try.ntmps14
      go_wp2_with (first | rw [HW0.out] | rw [HW1.out])
      refine H.out.mono ?_
      rintro e w3 ⟨⟨tA, tD, rfl, hpo⟩, hb3⟩
      have hP3 := HP1.out.below hb3 HP1.out.lt
      have hB3 := HBl.out.trans (hb3.mono HBl.out.size)
      have p0 : w3.cell? ⟨B + 1, 0, none⟩ = some (.string ⟨#[]⟩) := hP3.cell 0
      have p1 : w3.cell? ⟨B + 1, 1, none⟩ = some (.string ⟨#[]⟩) := hP3.cell 1
      have t0 := hP3.frozen 0
      have t1 := hP3.frozen 1
      have HRES := Lib.hid ((hP3.set_ 0 (.string tA)).set_ 1 (.string tD))
      have HBF := Lib.hid ((hB3.setCell (p := ⟨B + 1, 0, none⟩) (by show w.heap.size ≤ B + 1; omega) (.string tA)).setCell (p := ⟨B + 1, 1, none⟩) (by show w.heap.size ≤ B + 1; omega) (.string tD))
      have HPO := Lib.hid hpo
      clear hP3 hB3 hb3 hpo d0 d1 d2 d3 d4 d5 d6 d7 d8 d9 d10
      go_wp2
      refine bodyPost_ret (results_grw rfl _ _ (B + 1) 31 #[.string tA, .string tD] _ rfl HRES.out Try.underlying31 rfl infoPair) rfl ?_
      exact ⟨⟨tA, tD, rfl, HPO.out⟩, HBF.out⟩
set_option maxRecDepth 100000 in
set_option maxHeartbeats 32000000 in
theorem law_prefix8 (q : Int) (hq : 0 ≤ q ∧ q ≤ 255) (c : Chg) (w : World) (hc : c.raw w) :
    Calls Try.prog 5 #[.int .u8 q, c.val] w fun e w' => e = .returned (.bool true) ∧ Below w.heap.size w w' := by
  obtain ⟨q, rfl⟩ := Int.eq_ofNat_of_zero_le hq.1
  obtain ⟨F, S, op, lp, cp, ps, a, b⟩ := c
  have hca : a.raw w := hc.ra
  have hcb : b.raw w := hc.rd
  have hpl : ps.length = lp := hc.len
  have hcl : lp ≤ cp := hc.cl
  have hfw : lp ≤ 9223372036854775807 := hc.few
  have hnl : op = none → lp = 0 ∧ cp = 0 := hc.nil
  have hpz : ∀ s ∈ ps, s.size ≤ 9223372036854775807 := hc.pz
  have hfs : F.size ≤ 9223372036854775807 := hc.fs
  have hss : S.size ≤ 9223372036854775807 := hc.sz
  have HC : Hid (Strs w op ps) := Lib.hid hc.strs
  clear hc
  have HA := Lib.hid awake8_any
  have HFa := Lib.hid (fun W hW => few8_any a W hW)
  have HFb := Lib.hid (fun W hW => few8_any b W hW)
  have HF4 := Lib.hid (fun W (hW : Strs W op ps) => few4_any op lp cp ps hpl hfw hpz 40 40 W hW)
  have HRa := Lib.hid (fun (hs : a.len ≤ 40 ∧ a.lf.size ≤ 100) W (hW : a.raw W) => rroot8_any (by omega) (hash_any q (by omega)) (hF_size q) a W (hW.ok hs.2 hs.1))
  have HRb := Lib.hid (fun (hs : b.len ≤ 40 ∧ b.lf.size ≤ 100) W (hW : b.raw W) => rroot8_any (by omega) (hash_any q (by omega)) (hF_size q) b W (hW.ok hs.2 hs.1))
  have HRB := Lib.hid (fun (h1 : F.size ≤ 40) (h2 : lp ≤ 40) W (hW : Strs W op ps) => rBoth8_any (hash_any q (by omega)) (hF_size q) a.N b.N F (by omega) op lp cp ps hpl h2 hcl hpz W hW)
  have HPx := Lib.hid (fun (h1 : F.size ≤ 40) (h2 : lp ≤ 40) (hs : a.len ≤ 40 ∧ a.lf.size ≤ 100) (hs' : b.len ≤ 40 ∧ b.lf.size ≤ 100) W (hW : a.raw W) (hW' : b.raw W) (hW3 : Strs W op ps) => lprefix_any q (by omega) F S (by omega) op lp cp ps hpl h2 hcl hnl hpz a b W hW3 (hW.ok hs.2 hs.1) (hW'.ok hs'.2 hs'.1))
  have HCo := Lib.hid (fun A D (h1 : A.size ≤ 1000) (h2 : D.size ≤ 1000) (h3 : A ≠ D) (h4 : hF q A = hF q D) W => collides_any (hash_any q (by omega)) A D h1 h2 h3 h4 W)
  have HT := Lib.hid (fun (h : few4M ps 40 40 = true) => show lp ≤ 40 from by have := (few4M_true (by decide) h).1; omega)
  have HKa := Lib.hid hca
  have HKb := Lib.hid hcb
  clear hca hcb hpl hcl hfw hnl hpz
  obtain ⟨k, hk⟩ : ∃ k, okP (hF q) F S ps a b = k := ⟨_, rfl⟩
  rw [hk] at HPx
  unfold okP clC holC at hk
  rw [okG_bth] at hk
  generalize bthC (groC (hF q) a.N b.N F ps) = Tg at *
  generalize rtC (hF q) (opC (hF q) a) = Ta at *
  generalize rtC (hF q) (opC (hF q) b) = Tb at *
  generalize hF q = h at *
  generalize few4M ps 40 40 = fb at *
  obtain ⟨r, ka⟩ := Ta
  obtain ⟨s, kb⟩ := Tb
  obtain ⟨x, y, kg⟩ := Tg
  obtain ⟨lf, I, N, oa, len, cap, ss⟩ := a
  obtain ⟨lf', I', N', oa', len', cap', ss'⟩ := b
  change (decide (I = I' ∧ lf ≠ lf') && decide ((r, ka) = (F, true)) && decide ((s, kb) = (S, true)) && (kg && decide (x = F ∧ y = S))) = k at hk
  change Hid (∀ W, _ → Calls _ _ #[.agg #[.string lf, .int .i64 I, .int .i64 N, .slice oa len cap]] W (RF8 len lf.size W.heap.size W)) at HFa
  change Hid (∀ W, _ → Calls _ _ #[.agg #[.string lf', .int .i64 I', .int .i64 N', .slice oa' len' cap']] W (RF8 len' lf'.size W.heap.size W)) at HFb
  change Hid (len ≤ 40 ∧ lf.size ≤ 100 → ∀ W, _ → Calls _ _ #[_, .agg #[.string lf, .int .i64 I, .int .i64 N, .slice oa len cap]] W fun e w' => e = .returned (.tuple #[.string r, .bool ka]) ∧ _) at HRa
  change Hid (len' ≤ 40 ∧ lf'.size ≤ 100 → ∀ W, _ → Calls _ _ #[_, .agg #[.string lf', .int .i64 I', .int .i64 N', .slice oa' len' cap']] W fun e w' => e = .returned (.tuple #[.string s, .bool kb]) ∧ _) at HRb
  change Hid (_ → _ → ∀ W, _ → Calls _ _ #[_, .int .i64 N, .int .i64 N', _, _] W fun e w' => e = .returned (.tuple #[.string x, .string y, .bool kg]) ∧ _) at HRB
  change Hid (_ → _ → len ≤ 40 ∧ lf.size ≤ 100 → len' ≤ 40 ∧ lf'.size ≤ 100 → ∀ W, _ → _ → _ → Calls _ _ #[_, .agg #[.string F, .string S, .slice op lp cp, .string lf, .int .i64 I, .int .i64 N, .slice oa len cap, .string lf', .int .i64 I', .int .i64 N', .slice oa' len' cap']] W _) at HPx
  show Calls _ _ #[_, .agg #[.string F, .string S, .slice op lp cp, .string lf, .int .i64 I, .int .i64 N, .slice oa len cap, .string lf', .int .i64 I', .int .i64 N', .slice oa' len' cap']] _ _
  obtain ⟨B, hB⟩ : ∃ B, w.heap.size = B := ⟨_, rfl⟩
  obtain ⟨w1, hw1⟩ : ∃ w1, w.alloc (.cells #[.string F, .string S, .slice op lp cp, .string lf, .int .i64 I, .int .i64 N, .slice oa len cap, .string lf', .int .i64 I', .int .i64 N', .slice oa' len' cap'] 37) = w1 := ⟨_, rfl⟩
  have kC : Blk w1 B 37 #[.string F, .string S, .slice op lp cp, .string lf, .int .i64 I, .int .i64 N, .slice oa len cap, .string lf', .int .i64 I', .int .i64 N', .slice oa' len' cap'] := by rw [← hw1, ← hB]; exact Blk.new _ _ _
  have hB1 : Below w.heap.size w w1 := by rw [← hw1]; exact (Below.refl _ w).alloc (Nat.le_refl _) _
  have HW1 := Lib.hid hw1
  have HA1 := Lib.hid kC
  have HBl := Lib.hid hB1
  have HKK := Lib.hid hk
  have heq := eq_pair
  clear hw1 kC hB1 hk
  cases k with
  | false =>
    go_enter Try.func5, Try.ntmps5
    go_wp2_with (first | rw [HW1.out])
    refine (HA.out _).mono ?_
    rintro e w2 ⟨rfl, hb2⟩
    have hA2 := HA1.out.below hb2 HA1.out.lt
    have hB2 := HBl.out.trans (hb2.mono HBl.out.size)
    clear hb2
    have d0 : w2.cell? ⟨B, 0, none⟩ = some (.string F) := hA2.cell 0
    have d1 : w2.cell? ⟨B, 1, none⟩ = some (.string S) := hA2.cell 1
    have d2 : w2.cell? ⟨B, 2, none⟩ = some (.slice op lp cp) := hA2.cell 2
    have d3 : w2.cell? ⟨B, 3, none⟩ = some (.string lf) := hA2.cell 3
    have d4 : w2.cell? ⟨B, 4, none⟩ = some (.int .i64 I) := hA2.cell 4
    have d5 : w2.cell? ⟨B, 5, none⟩ = some (.int .i64 N) := hA2.cell 5
    have d6 : w2.cell? ⟨B, 6, none⟩ = some (.slice oa len cap) := hA2.cell 6
    have d7 : w2.cell? ⟨B, 7, none⟩ = some (.string lf') := hA2.cell 7
    have d8 : w2.cell? ⟨B, 8, none⟩ = some (.int .i64 I') := hA2.cell 8
    have d9 : w2.cell? ⟨B, 9, none⟩ = some (.int .i64 N') := hA2.cell 9
    have d10 : w2.cell? ⟨B, 10, none⟩ = some (.slice oa' len' cap') := hA2.cell 10
    go_wp2_with fail
    refine (HFa.out _ (HKa.out.below hB2)).mono ?_
    rintro e w3 ⟨⟨bf, rfl, hbf⟩, hb3⟩
    have hA3 := hA2.below hb3 hA2.lt
    have hB3 := hB2.trans (hb3.mono hB2.size)
    clear hb3 d0 d1 d2 d3 d4 d5 d6 d7 d8 d9 d10
    have d0 : w3.cell? ⟨B, 0, none⟩ = some (.string F) := hA3.cell 0
    have d1 : w3.cell? ⟨B, 1, none⟩ = some (.string S) := hA3.cell 1
    have d2 : w3.cell? ⟨B, 2, none⟩ = some (.slice op lp cp) := hA3.cell 2
    have d3 : w3.cell? ⟨B, 3, none⟩ = some (.string lf) := hA3.cell 3
    have d4 : w3.cell? ⟨B, 4, none⟩ = some (.int .i64 I) := hA3.cell 4
    have d5 : w3.cell? ⟨B, 5, none⟩ = some (.int .i64 N) := hA3.cell 5
    have d6 : w3.cell? ⟨B, 6, none⟩ = some (.slice oa len cap) := hA3.cell 6
    have d7 : w3.cell? ⟨B, 7, none⟩ = some (.string lf') := hA3.cell 7
    have d8 : w3.cell? ⟨B, 8, none⟩ = some (.int .i64 I') := hA3.cell 8
    have d9 : w3.cell? ⟨B, 9, none⟩ = some (.int .i64 N') := hA3.cell 9
    have d10 : w3.cell? ⟨B, 10, none⟩ = some (.slice oa' len' cap') := hA3.cell 10
    cases bf
    · clear hbf
      go_wp2_with fail
      refine (HA.out _).mono ?_
      rintro e wz ⟨rfl, hbz⟩
      have hBz := hB3.trans (hbz.mono hB3.size)
      go_wp2
      go_ret
      exact ⟨rfl, hBz⟩
    have HS := Lib.hid (hbf rfl)
    clear hbf
    go_wp2_with fail
    refine (HFb.out _ (HKb.out.below hB3)).mono ?_
    rintro e w4 ⟨⟨bg, rfl, hbg⟩, hb4⟩
    have hA4 := hA3.below hb4 hA3.lt
    have hB4 := hB3.trans (hb4.mono hB3.size)
    clear hb4 d0 d1 d2 d3 d4 d5 d6 d7 d8 d9 d10
    have d0 : w4.cell? ⟨B, 0, none⟩ = some (.string F) := hA4.cell 0
    have d1 : w4.cell? ⟨B, 1, none⟩ = some (.string S) := hA4.cell 1
    have d2 : w4.cell? ⟨B, 2, none⟩ = some (.slice op lp cp) := hA4.cell 2
    have d3 : w4.cell? ⟨B, 3, none⟩ = some (.string lf) := hA4.cell 3
    have d4 : w4.cell? ⟨B, 4, none⟩ = some (.int .i64 I) := hA4.cell 4
    have d5 : w4.cell? ⟨B, 5, none⟩ = some (.int .i64 N) := hA4.cell 5
    have d6 : w4.cell? ⟨B, 6, none⟩ = some (.slice oa len cap) := hA4.cell 6
    have d7 : w4.cell? ⟨B, 7, none⟩ = some (.string lf') := hA4.cell 7
    have d8 : w4.cell? ⟨B, 8, none⟩ = some (.int .i64 I') := hA4.cell 8
    have d9 : w4.cell? ⟨B, 9, none⟩ = some (.int .i64 N') := hA4.cell 9
    have d10 : w4.cell? ⟨B, 10, none⟩ = some (.slice oa' len' cap') := hA4.cell 10
    cases bg
    · clear hbg
      go_wp2_with fail
      refine (HA.out _).mono ?_
      rintro e wz ⟨rfl, hbz⟩
      have hBz := hB4.trans (hbz.mono hB4.size)
      go_wp2
      go_ret
      exact ⟨rfl, hBz⟩
    have HS2 := Lib.hid (hbg rfl)
    clear hbg
    go_wp2_with fail
    refine (HF4.out _ (HC.out.below hB4)).mono ?_
    rintro e w' ⟨rfl, hw'⟩
    rw [hw']
    clear hw' w'
    cases fb
    · skip
      go_wp2_with fail
      refine (HA.out _).mono ?_
      rintro e wz ⟨rfl, hbz⟩
      have hBz := hB4.trans (hbz.mono hB4.size)
      go_wp2
      go_ret
      exact ⟨rfl, hBz⟩
    have HLP := Lib.hid (HT.out rfl)
    by_cases h40 : F.size ≤ 40
    rotate_left
    · have h40' : (40 : Int) < (F.size : Int) := by omega
      go_wp2_with fail
      refine (HA.out _).mono ?_
      rintro e wz ⟨rfl, hbz⟩
      have hBz := hB4.trans (hbz.mono hB4.size)
      go_wp2
      go_ret
      exact ⟨rfl, hBz⟩
    by_cases h41 : S.size ≤ 40
    rotate_left
    · have h40' : ¬ (40 : Int) < (F.size : Int) := by omega
      have h41' : (40 : Int) < (S.size : Int) := by omega
      go_wp2_with fail
      refine (HA.out _).mono ?_
      rintro e wz ⟨rfl, hbz⟩
      have hBz := hB4.trans (hbz.mono hB4.size)
      go_wp2
      go_ret
      exact ⟨rfl, hBz⟩
    have h40' : ¬ (40 : Int) < (F.size : Int) := by omega
    have h41' : ¬ (40 : Int) < (S.size : Int) := by omega
    have HPP := Lib.hid (HPx.out h40 HLP.out HS.out HS2.out)
    have HBB := Lib.hid (HRB.out h40 HLP.out)
    go_wp2_with fail
    refine (HPP.out _ (HKa.out.below hB4) (HKb.out.below hB4) (HC.out.below hB4)).mono ?_
    rintro e w5 ⟨rfl, hb5⟩
    have hA5 := hA4.below hb5 hA4.lt
    have hB5 := hB4.trans (hb5.mono hB4.size)
    clear hb5 d0 d1 d2 d3 d4 d5 d6 d7 d8 d9 d10
    have d0 : w5.cell? ⟨B, 0, none⟩ = some (.string F) := hA5.cell 0
    have d1 : w5.cell? ⟨B, 1, none⟩ = some (.string S) := hA5.cell 1
    have d2 : w5.cell? ⟨B, 2, none⟩ = some (.slice op lp cp) := hA5.cell 2
    have d3 : w5.cell? ⟨B, 3, none⟩ = some (.string lf) := hA5.cell 3
    have d4 : w5.cell? ⟨B, 4, none⟩ = some (.int .i64 I) := hA5.cell 4
    have d5 : w5.cell? ⟨B, 5, none⟩ = some (.int .i64 N) := hA5.cell 5
    have d6 : w5.cell? ⟨B, 6, none⟩ = some (.slice oa len cap) := hA5.cell 6
    have d7 : w5.cell? ⟨B, 7, none⟩ = some (.string lf') := hA5.cell 7
    have d8 : w5.cell? ⟨B, 8, none⟩ = some (.int .i64 I') := hA5.cell 8
    have d9 : w5.cell? ⟨B, 9, none⟩ = some (.int .i64 N') := hA5.cell 9
    have d10 : w5.cell? ⟨B, 10, none⟩ = some (.slice oa' len' cap') := hA5.cell 10
    obtain ⟨P, hP⟩ : ∃ P, w5.heap.size = P := ⟨_, rfl⟩
    obtain ⟨wo, hwo⟩ : ∃ wo, w5.alloc (.cells zpair 31) = wo := ⟨_, rfl⟩
    have hTo : Blk wo P 31 zpair := by rw [← hwo, ← hP]; exact Blk.new _ _ _
    have hbo : Below w5.heap.size w5 wo := by rw [← hwo]; exact (Below.refl _ w5).alloc (Nat.le_refl _) _
    have hPP : w5.heap.size ≤ P := by rw [← hP]; exact Nat.le_refl _
    obtain ⟨w6, hw6⟩ : ∃ w6, (wo.setCell ⟨P, 0, none⟩ (.string ⟨#[]⟩)).setCell ⟨P, 1, none⟩ (.string ⟨#[]⟩) = w6 := ⟨_, rfl⟩
    have hb6 : Below w5.heap.size w5 w6 := by rw [← hw6]; exact (hbo.setCell (p := ⟨P, 0, none⟩) hPP (.string ⟨#[]⟩)).setCell (p := ⟨P, 1, none⟩) hPP (.string ⟨#[]⟩)
    have hP6 : Blk w6 P 31 zpair := by rw [← hw6]; exact (hTo.set_ 0 (.string ⟨#[]⟩)).set_ 1 (.string ⟨#[]⟩)
    have HWO := Lib.hid hwo
    have HW6 := Lib.hid hw6
    have o0 : wo.cell? ⟨P, 0, none⟩ = some (.string ⟨#[]⟩) := hTo.cell 0
    have o1 : wo.cell? ⟨P, 1, none⟩ = some (.string ⟨#[]⟩) := hTo.cell 1
    have m0 := hTo.frozen 0
    have m1 := hTo.frozen 1
    clear hwo hw6 hTo hbo hPP
    skip
    have hA6 := hA5.below hb6 hA5.lt
    have hB6 := hB5.trans (hb6.mono hB5.size)
    clear hb6 d0 d1 d2 d3 d4 d5 d6 d7 d8 d9 d10
    have d0 : w6.cell? ⟨B, 0, none⟩ = some (.string F) := hA6.cell 0
    have d1 : w6.cell? ⟨B, 1, none⟩ = some (.string S) := hA6.cell 1
    have d2 : w6.cell? ⟨B, 2, none⟩ = some (.slice op lp cp) := hA6.cell 2
    have d3 : w6.cell? ⟨B, 3, none⟩ = some (.string lf) := hA6.cell 3
    have d4 : w6.cell? ⟨B, 4, none⟩ = some (.int .i64 I) := hA6.cell 4
    have d5 : w6.cell? ⟨B, 5, none⟩ = some (.int .i64 N) := hA6.cell 5
    have d6 : w6.cell? ⟨B, 6, none⟩ = some (.slice oa len cap) := hA6.cell 6
    have d7 : w6.cell? ⟨B, 7, none⟩ = some (.string lf') := hA6.cell 7
    have d8 : w6.cell? ⟨B, 8, none⟩ = some (.int .i64 I') := hA6.cell 8
    have d9 : w6.cell? ⟨B, 9, none⟩ = some (.int .i64 N') := hA6.cell 9
    have d10 : w6.cell? ⟨B, 10, none⟩ = some (.slice oa' len' cap') := hA6.cell 10
    go_wp2_with (first | rw [HWO.out] | rw [HW6.out])
    refine (HRa.out HS.out _ (HKa.out.below hB6)).mono ?_
    rintro e w7 ⟨rfl, hb7⟩
    have s0 := True.intro
    have s1 := True.intro
    have hA7 := hA6.below hb7 hA6.lt
    have hB7 := hB6.trans (hb7.mono hB6.size)
    have hP7 := hP6.below hb7 hP6.lt
    clear hb7 d0 d1 d2 d3 d4 d5 d6 d7 d8 d9 d10 s0 s1
    have d0 : w7.cell? ⟨B, 0, none⟩ = some (.string F) := hA7.cell 0
    have d1 : w7.cell? ⟨B, 1, none⟩ = some (.string S) := hA7.cell 1
    have d2 : w7.cell? ⟨B, 2, none⟩ = some (.slice op lp cp) := hA7.cell 2
    have d3 : w7.cell? ⟨B, 3, none⟩ = some (.string lf) := hA7.cell 3
    have d4 : w7.cell? ⟨B, 4, none⟩ = some (.int .i64 I) := hA7.cell 4
    have d5 : w7.cell? ⟨B, 5, none⟩ = some (.int .i64 N) := hA7.cell 5
    have d6 : w7.cell? ⟨B, 6, none⟩ = some (.slice oa len cap) := hA7.cell 6
    have d7 : w7.cell? ⟨B, 7, none⟩ = some (.string lf') := hA7.cell 7
    have d8 : w7.cell? ⟨B, 8, none⟩ = some (.int .i64 I') := hA7.cell 8
    have d9 : w7.cell? ⟨B, 9, none⟩ = some (.int .i64 N') := hA7.cell 9
    have d10 : w7.cell? ⟨B, 10, none⟩ = some (.slice oa' len' cap') := hA7.cell 10
    have s0 : w7.cell? ⟨P, 0, none⟩ = some (.string ⟨#[]⟩) := hP7.cell 0
    have s1 : w7.cell? ⟨P, 1, none⟩ = some (.string ⟨#[]⟩) := hP7.cell 1
    go_wp2_with fail
    refine (HRb.out HS2.out _ (HKb.out.below hB7)).mono ?_
    rintro e w8 ⟨rfl, hb8⟩
    have hA8 := hA7.below hb8 hA7.lt
    have hB8 := hB7.trans (hb8.mono hB7.size)
    have hP8 := hP7.below hb8 hP7.lt
    clear hb8 d0 d1 d2 d3 d4 d5 d6 d7 d8 d9 d10 s0 s1
    have d0 : w8.cell? ⟨B, 0, none⟩ = some (.string F) := hA8.cell 0
    have d1 : w8.cell? ⟨B, 1, none⟩ = some (.string S) := hA8.cell 1
    have d2 : w8.cell? ⟨B, 2, none⟩ = some (.slice op lp cp) := hA8.cell 2
    have d3 : w8.cell? ⟨B, 3, none⟩ = some (.string lf) := hA8.cell 3
    have d4 : w8.cell? ⟨B, 4, none⟩ = some (.int .i64 I) := hA8.cell 4
    have d5 : w8.cell? ⟨B, 5, none⟩ = some (.int .i64 N) := hA8.cell 5
    have d6 : w8.cell? ⟨B, 6, none⟩ = some (.slice oa len cap) := hA8.cell 6
    have d7 : w8.cell? ⟨B, 7, none⟩ = some (.string lf') := hA8.cell 7
    have d8 : w8.cell? ⟨B, 8, none⟩ = some (.int .i64 I') := hA8.cell 8
    have d9 : w8.cell? ⟨B, 9, none⟩ = some (.int .i64 N') := hA8.cell 9
    have d10 : w8.cell? ⟨B, 10, none⟩ = some (.slice oa' len' cap') := hA8.cell 10
    have s0 : w8.cell? ⟨P, 0, none⟩ = some (.string ⟨#[]⟩) := hP8.cell 0
    have s1 : w8.cell? ⟨P, 1, none⟩ = some (.string ⟨#[]⟩) := hP8.cell 1
    go_wp2_with fail
    refine (HBB.out _ (HC.out.below hB8)).mono ?_
    rintro e w9 ⟨rfl, hb9⟩
    have hA9 := hA8.below hb9 hA8.lt
    have hB9 := hB8.trans (hb9.mono hB8.size)
    have hP9 := hP8.below hb9 hP8.lt
    clear hb9 d0 d1 d2 d3 d4 d5 d6 d7 d8 d9 d10 s0 s1
    have d0 : w9.cell? ⟨B, 0, none⟩ = some (.string F) := hA9.cell 0
    have d1 : w9.cell? ⟨B, 1, none⟩ = some (.string S) := hA9.cell 1
    have d2 : w9.cell? ⟨B, 2, none⟩ = some (.slice op lp cp) := hA9.cell 2
    have d3 : w9.cell? ⟨B, 3, none⟩ = some (.string lf) := hA9.cell 3
    have d4 : w9.cell? ⟨B, 4, none⟩ = some (.int .i64 I) := hA9.cell 4
    have d5 : w9.cell? ⟨B, 5, none⟩ = some (.int .i64 N) := hA9.cell 5
    have d6 : w9.cell? ⟨B, 6, none⟩ = some (.slice oa len cap) := hA9.cell 6
    have d7 : w9.cell? ⟨B, 7, none⟩ = some (.string lf') := hA9.cell 7
    have d8 : w9.cell? ⟨B, 8, none⟩ = some (.int .i64 I') := hA9.cell 8
    have d9 : w9.cell? ⟨B, 9, none⟩ = some (.int .i64 N') := hA9.cell 9
    have d10 : w9.cell? ⟨B, 10, none⟩ = some (.slice oa' len' cap') := hA9.cell 10
    have s0 : w9.cell? ⟨P, 0, none⟩ = some (.string ⟨#[]⟩) := hP9.cell 0
    have s1 : w9.cell? ⟨P, 1, none⟩ = some (.string ⟨#[]⟩) := hP9.cell 1
    cases ka
    · skip
      go_wp2
      go_ret
      exact ⟨rfl, hB9⟩
    cases kb
    · skip
      go_wp2
      go_ret
      exact ⟨rfl, hB9⟩
    cases kg
    · skip
      go_wp2
      go_ret
      exact ⟨rfl, hB9⟩
    by_cases e0 : r = F
    rotate_left
    · obtain ⟨u0, v0⟩ := beqF e0
      clear e0
      go_wp2
      go_ret
      exact ⟨rfl, hB9⟩
    obtain ⟨u0, v0⟩ := beqT e0
    have E0 := Lib.hid e0
    clear e0
    by_cases e1 : s = S
    rotate_left
    · obtain ⟨u1, v1⟩ := beqF e1
      clear e1
      go_wp2
      go_ret
      exact ⟨rfl, hB9⟩
    obtain ⟨u1, v1⟩ := beqT e1
    have E1 := Lib.hid e1
    clear e1
    by_cases e2 : x = r
    rotate_left
    · obtain ⟨u2, v2⟩ := beqF e2
      clear e2
      go_wp2
      go_ret
      exact ⟨rfl, hB9⟩
    obtain ⟨u2, v2⟩ := beqT e2
    have E2 := Lib.hid e2
    clear e2
    by_cases e3 : y = s
    rotate_left
    · obtain ⟨u3, v3⟩ := beqF e3
      clear e3
      go_wp2
      go_ret
      exact ⟨rfl, hB9⟩
    obtain ⟨u3, v3⟩ := beqT e3
    have E3 := Lib.hid e3
    clear e3
    by_cases eI : I = I'
    rotate_left
    · have uI : (I == I') = false := by rw [beq_eq_false_iff_ne]; exact eI
      clear eI
      go_wp2
      go_ret
      exact ⟨rfl, hB9⟩
    have uI : (I == I') = true := by rw [eI]; simp
    have EI := Lib.hid eI
    clear eI
    by_cases el : lf = lf'
    · obtain ⟨ul, vl⟩ := beqT el
      clear el
      go_wp2
      go_ret
      exact ⟨rfl, hB9⟩
    exact absurd HKK.out (by simp [el, EI.out, E0.out, E1.out, E2.out, E3.out])
  | true =>
    have hk := HKK.out
    simp only [Bool.and_eq_true, decide_eq_true_iff, Prod.mk.injEq] at hk
    obtain ⟨⟨⟨⟨eI, el⟩, e0, rfl⟩, e1, rfl⟩, rfl, e2, e3⟩ := hk
    have e4 : x = r := by rw [e2, e0]
    have e5 : y = s := by rw [e3, e1]
    obtain ⟨u0, v0⟩ := beqT e0
    obtain ⟨u1, v1⟩ := beqT e1
    obtain ⟨u4, v4⟩ := beqT e4
    obtain ⟨u5, v5⟩ := beqT e5
    have uI : (I == I') = true := by rw [eI]; simp
    obtain ⟨ul, vl⟩ := beqF el
    clear eI el e0 e1 e2 e3 e4 e5 HKK
    go_enter Try.func5, Try.ntmps5
    go_wp2_with (first | rw [HW1.out])
    refine (HA.out _).mono ?_
    rintro e w2 ⟨rfl, hb2⟩
    have hA2 := HA1.out.below hb2 HA1.out.lt
    have hB2 := HBl.out.trans (hb2.mono HBl.out.size)
    clear hb2
    have d0 : w2.cell? ⟨B, 0, none⟩ = some (.string F) := hA2.cell 0
    have d1 : w2.cell? ⟨B, 1, none⟩ = some (.string S) := hA2.cell 1
    have d2 : w2.cell? ⟨B, 2, none⟩ = some (.slice op lp cp) := hA2.cell 2
    have d3 : w2.cell? ⟨B, 3, none⟩ = some (.string lf) := hA2.cell 3
    have d4 : w2.cell? ⟨B, 4, none⟩ = some (.int .i64 I) := hA2.cell 4
    have d5 : w2.cell? ⟨B, 5, none⟩ = some (.int .i64 N) := hA2.cell 5
    have d6 : w2.cell? ⟨B, 6, none⟩ = some (.slice oa len cap) := hA2.cell 6
    have d7 : w2.cell? ⟨B, 7, none⟩ = some (.string lf') := hA2.cell 7
    have d8 : w2.cell? ⟨B, 8, none⟩ = some (.int .i64 I') := hA2.cell 8
    have d9 : w2.cell? ⟨B, 9, none⟩ = some (.int .i64 N') := hA2.cell 9
    have d10 : w2.cell? ⟨B, 10, none⟩ = some (.slice oa' len' cap') := hA2.cell 10
    go_wp2_with fail
    refine (HFa.out _ (HKa.out.below hB2)).mono ?_
    rintro e w3 ⟨⟨bf, rfl, hbf⟩, hb3⟩
    have hA3 := hA2.below hb3 hA2.lt
    have hB3 := hB2.trans (hb3.mono hB2.size)
    clear hb3 d0 d1 d2 d3 d4 d5 d6 d7 d8 d9 d10
    have d0 : w3.cell? ⟨B, 0, none⟩ = some (.string F) := hA3.cell 0
    have d1 : w3.cell? ⟨B, 1, none⟩ = some (.string S) := hA3.cell 1
    have d2 : w3.cell? ⟨B, 2, none⟩ = some (.slice op lp cp) := hA3.cell 2
    have d3 : w3.cell? ⟨B, 3, none⟩ = some (.string lf) := hA3.cell 3
    have d4 : w3.cell? ⟨B, 4, none⟩ = some (.int .i64 I) := hA3.cell 4
    have d5 : w3.cell? ⟨B, 5, none⟩ = some (.int .i64 N) := hA3.cell 5
    have d6 : w3.cell? ⟨B, 6, none⟩ = some (.slice oa len cap) := hA3.cell 6
    have d7 : w3.cell? ⟨B, 7, none⟩ = some (.string lf') := hA3.cell 7
    have d8 : w3.cell? ⟨B, 8, none⟩ = some (.int .i64 I') := hA3.cell 8
    have d9 : w3.cell? ⟨B, 9, none⟩ = some (.int .i64 N') := hA3.cell 9
    have d10 : w3.cell? ⟨B, 10, none⟩ = some (.slice oa' len' cap') := hA3.cell 10
    cases bf
    · clear hbf
      go_wp2_with fail
      refine (HA.out _).mono ?_
      rintro e wz ⟨rfl, hbz⟩
      have hBz := hB3.trans (hbz.mono hB3.size)
      go_wp2
      go_ret
      exact ⟨rfl, hBz⟩
    have HS := Lib.hid (hbf rfl)
    clear hbf
    go_wp2_with fail
    refine (HFb.out _ (HKb.out.below hB3)).mono ?_
    rintro e w4 ⟨⟨bg, rfl, hbg⟩, hb4⟩
    have hA4 := hA3.below hb4 hA3.lt
    have hB4 := hB3.trans (hb4.mono hB3.size)
    clear hb4 d0 d1 d2 d3 d4 d5 d6 d7 d8 d9 d10
    have d0 : w4.cell? ⟨B, 0, none⟩ = some (.string F) := hA4.cell 0
    have d1 : w4.cell? ⟨B, 1, none⟩ = some (.string S) := hA4.cell 1
    have d2 : w4.cell? ⟨B, 2, none⟩ = some (.slice op lp cp) := hA4.cell 2
    have d3 : w4.cell? ⟨B, 3, none⟩ = some (.string lf) := hA4.cell 3
    have d4 : w4.cell? ⟨B, 4, none⟩ = some (.int .i64 I) := hA4.cell 4
    have d5 : w4.cell? ⟨B, 5, none⟩ = some (.int .i64 N) := hA4.cell 5
    have d6 : w4.cell? ⟨B, 6, none⟩ = some (.slice oa len cap) := hA4.cell 6
    have d7 : w4.cell? ⟨B, 7, none⟩ = some (.string lf') := hA4.cell 7
    have d8 : w4.cell? ⟨B, 8, none⟩ = some (.int .i64 I') := hA4.cell 8
    have d9 : w4.cell? ⟨B, 9, none⟩ = some (.int .i64 N') := hA4.cell 9
    have d10 : w4.cell? ⟨B, 10, none⟩ = some (.slice oa' len' cap') := hA4.cell 10
    cases bg
    · clear hbg
      go_wp2_with fail
      refine (HA.out _).mono ?_
      rintro e wz ⟨rfl, hbz⟩
      have hBz := hB4.trans (hbz.mono hB4.size)
      go_wp2
      go_ret
      exact ⟨rfl, hBz⟩
    have HS2 := Lib.hid (hbg rfl)
    clear hbg
    go_wp2_with fail
    refine (HF4.out _ (HC.out.below hB4)).mono ?_
    rintro e w' ⟨rfl, hw'⟩
    rw [hw']
    clear hw' w'
    cases fb
    · skip
      go_wp2_with fail
      refine (HA.out _).mono ?_
      rintro e wz ⟨rfl, hbz⟩
      have hBz := hB4.trans (hbz.mono hB4.size)
      go_wp2
      go_ret
      exact ⟨rfl, hBz⟩
    have HLP := Lib.hid (HT.out rfl)
    by_cases h40 : F.size ≤ 40
    rotate_left
    · have h40' : (40 : Int) < (F.size : Int) := by omega
      go_wp2_with fail
      refine (HA.out _).mono ?_
      rintro e wz ⟨rfl, hbz⟩
      have hBz := hB4.trans (hbz.mono hB4.size)
      go_wp2
      go_ret
      exact ⟨rfl, hBz⟩
    by_cases h41 : S.size ≤ 40
    rotate_left
    · have h40' : ¬ (40 : Int) < (F.size : Int) := by omega
      have h41' : (40 : Int) < (S.size : Int) := by omega
      go_wp2_with fail
      refine (HA.out _).mono ?_
      rintro e wz ⟨rfl, hbz⟩
      have hBz := hB4.trans (hbz.mono hB4.size)
      go_wp2
      go_ret
      exact ⟨rfl, hBz⟩
    have h40' : ¬ (40 : Int) < (F.size : Int) := by omega
    have h41' : ¬ (40 : Int) < (S.size : Int) := by omega
    have HPP := Lib.hid (HPx.out h40 HLP.out HS.out HS2.out)
    have HBB := Lib.hid (HRB.out h40 HLP.out)
    go_wp2_with fail
    refine (HPP.out _ (HKa.out.below hB4) (HKb.out.below hB4) (HC.out.below hB4)).mono ?_
    rintro e w5 ⟨⟨tA, tD, rfl, hpo⟩, hb5⟩
    have hA5 := hA4.below hb5 hA4.lt
    have hB5 := hB4.trans (hb5.mono hB4.size)
    clear hb5 d0 d1 d2 d3 d4 d5 d6 d7 d8 d9 d10
    have d0 : w5.cell? ⟨B, 0, none⟩ = some (.string F) := hA5.cell 0
    have d1 : w5.cell? ⟨B, 1, none⟩ = some (.string S) := hA5.cell 1
    have d2 : w5.cell? ⟨B, 2, none⟩ = some (.slice op lp cp) := hA5.cell 2
    have d3 : w5.cell? ⟨B, 3, none⟩ = some (.string lf) := hA5.cell 3
    have d4 : w5.cell? ⟨B, 4, none⟩ = some (.int .i64 I) := hA5.cell 4
    have d5 : w5.cell? ⟨B, 5, none⟩ = some (.int .i64 N) := hA5.cell 5
    have d6 : w5.cell? ⟨B, 6, none⟩ = some (.slice oa len cap) := hA5.cell 6
    have d7 : w5.cell? ⟨B, 7, none⟩ = some (.string lf') := hA5.cell 7
    have d8 : w5.cell? ⟨B, 8, none⟩ = some (.int .i64 I') := hA5.cell 8
    have d9 : w5.cell? ⟨B, 9, none⟩ = some (.int .i64 N') := hA5.cell 9
    have d10 : w5.cell? ⟨B, 10, none⟩ = some (.slice oa' len' cap') := hA5.cell 10
    have HPO := Lib.hid hpo
    clear hpo
    obtain ⟨P, hP⟩ : ∃ P, w5.heap.size = P := ⟨_, rfl⟩
    obtain ⟨w6, hw6⟩ : ∃ w6, w5.alloc (.cells #[.string tA, .string tD] 31) = w6 := ⟨_, rfl⟩
    have hP6 : Blk w6 P 31 #[.string tA, .string tD] := by rw [← hw6, ← hP]; exact Blk.new _ _ _
    have hb6 : Below w5.heap.size w5 w6 := by rw [← hw6]; exact (Below.refl _ w5).alloc (Nat.le_refl _) _
    have HW6 := Lib.hid hw6
    clear hw6
    skip
    have hA6 := hA5.below hb6 hA5.lt
    have hB6 := hB5.trans (hb6.mono hB5.size)
    clear hb6 d0 d1 d2 d3 d4 d5 d6 d7 d8 d9 d10
    have d0 : w6.cell? ⟨B, 0, none⟩ = some (.string F) := hA6.cell 0
    have d1 : w6.cell? ⟨B, 1, none⟩ = some (.string S) := hA6.cell 1
    have d2 : w6.cell? ⟨B, 2, none⟩ = some (.slice op lp cp) := hA6.cell 2
    have d3 : w6.cell? ⟨B, 3, none⟩ = some (.string lf) := hA6.cell 3
    have d4 : w6.cell? ⟨B, 4, none⟩ = some (.int .i64 I) := hA6.cell 4
    have d5 : w6.cell? ⟨B, 5, none⟩ = some (.int .i64 N) := hA6.cell 5
    have d6 : w6.cell? ⟨B, 6, none⟩ = some (.slice oa len cap) := hA6.cell 6
    have d7 : w6.cell? ⟨B, 7, none⟩ = some (.string lf') := hA6.cell 7
    have d8 : w6.cell? ⟨B, 8, none⟩ = some (.int .i64 I') := hA6.cell 8
    have d9 : w6.cell? ⟨B, 9, none⟩ = some (.int .i64 N') := hA6.cell 9
    have d10 : w6.cell? ⟨B, 10, none⟩ = some (.slice oa' len' cap') := hA6.cell 10
    go_wp2_with (rw [HW6.out])
    refine (HRa.out HS.out _ (HKa.out.below hB6)).mono ?_
    rintro e w7 ⟨rfl, hb7⟩
    have s0 := True.intro
    have s1 := True.intro
    have hA7 := hA6.below hb7 hA6.lt
    have hB7 := hB6.trans (hb7.mono hB6.size)
    have hP7 := hP6.below hb7 hP6.lt
    clear hb7 d0 d1 d2 d3 d4 d5 d6 d7 d8 d9 d10 s0 s1
    have d0 : w7.cell? ⟨B, 0, none⟩ = some (.string F) := hA7.cell 0
    have d1 : w7.cell? ⟨B, 1, none⟩ = some (.string S) := hA7.cell 1
    have d2 : w7.cell? ⟨B, 2, none⟩ = some (.slice op lp cp) := hA7.cell 2
    have d3 : w7.cell? ⟨B, 3, none⟩ = some (.string lf) := hA7.cell 3
    have d4 : w7.cell? ⟨B, 4, none⟩ = some (.int .i64 I) := hA7.cell 4
    have d5 : w7.cell? ⟨B, 5, none⟩ = some (.int .i64 N) := hA7.cell 5
    have d6 : w7.cell? ⟨B, 6, none⟩ = some (.slice oa len cap) := hA7.cell 6
    have d7 : w7.cell? ⟨B, 7, none⟩ = some (.string lf') := hA7.cell 7
    have d8 : w7.cell? ⟨B, 8, none⟩ = some (.int .i64 I') := hA7.cell 8
    have d9 : w7.cell? ⟨B, 9, none⟩ = some (.int .i64 N') := hA7.cell 9
    have d10 : w7.cell? ⟨B, 10, none⟩ = some (.slice oa' len' cap') := hA7.cell 10
    have s0 : w7.cell? ⟨P, 0, none⟩ = some (.string tA) := hP7.cell 0
    have s1 : w7.cell? ⟨P, 1, none⟩ = some (.string tD) := hP7.cell 1
    go_wp2_with fail
    refine (HRb.out HS2.out _ (HKb.out.below hB7)).mono ?_
    rintro e w8 ⟨rfl, hb8⟩
    have hA8 := hA7.below hb8 hA7.lt
    have hB8 := hB7.trans (hb8.mono hB7.size)
    have hP8 := hP7.below hb8 hP7.lt
    clear hb8 d0 d1 d2 d3 d4 d5 d6 d7 d8 d9 d10 s0 s1
    have d0 : w8.cell? ⟨B, 0, none⟩ = some (.string F) := hA8.cell 0
    have d1 : w8.cell? ⟨B, 1, none⟩ = some (.string S) := hA8.cell 1
    have d2 : w8.cell? ⟨B, 2, none⟩ = some (.slice op lp cp) := hA8.cell 2
    have d3 : w8.cell? ⟨B, 3, none⟩ = some (.string lf) := hA8.cell 3
    have d4 : w8.cell? ⟨B, 4, none⟩ = some (.int .i64 I) := hA8.cell 4
    have d5 : w8.cell? ⟨B, 5, none⟩ = some (.int .i64 N) := hA8.cell 5
    have d6 : w8.cell? ⟨B, 6, none⟩ = some (.slice oa len cap) := hA8.cell 6
    have d7 : w8.cell? ⟨B, 7, none⟩ = some (.string lf') := hA8.cell 7
    have d8 : w8.cell? ⟨B, 8, none⟩ = some (.int .i64 I') := hA8.cell 8
    have d9 : w8.cell? ⟨B, 9, none⟩ = some (.int .i64 N') := hA8.cell 9
    have d10 : w8.cell? ⟨B, 10, none⟩ = some (.slice oa' len' cap') := hA8.cell 10
    have s0 : w8.cell? ⟨P, 0, none⟩ = some (.string tA) := hP8.cell 0
    have s1 : w8.cell? ⟨P, 1, none⟩ = some (.string tD) := hP8.cell 1
    go_wp2_with fail
    refine (HBB.out _ (HC.out.below hB8)).mono ?_
    rintro e w9 ⟨rfl, hb9⟩
    have hA9 := hA8.below hb9 hA8.lt
    have hB9 := hB8.trans (hb9.mono hB8.size)
    have hP9 := hP8.below hb9 hP8.lt
    clear hb9 d0 d1 d2 d3 d4 d5 d6 d7 d8 d9 d10 s0 s1
    have d0 : w9.cell? ⟨B, 0, none⟩ = some (.string F) := hA9.cell 0
    have d1 : w9.cell? ⟨B, 1, none⟩ = some (.string S) := hA9.cell 1
    have d2 : w9.cell? ⟨B, 2, none⟩ = some (.slice op lp cp) := hA9.cell 2
    have d3 : w9.cell? ⟨B, 3, none⟩ = some (.string lf) := hA9.cell 3
    have d4 : w9.cell? ⟨B, 4, none⟩ = some (.int .i64 I) := hA9.cell 4
    have d5 : w9.cell? ⟨B, 5, none⟩ = some (.int .i64 N) := hA9.cell 5
    have d6 : w9.cell? ⟨B, 6, none⟩ = some (.slice oa len cap) := hA9.cell 6
    have d7 : w9.cell? ⟨B, 7, none⟩ = some (.string lf') := hA9.cell 7
    have d8 : w9.cell? ⟨B, 8, none⟩ = some (.int .i64 I') := hA9.cell 8
    have d9 : w9.cell? ⟨B, 9, none⟩ = some (.int .i64 N') := hA9.cell 9
    have d10 : w9.cell? ⟨B, 10, none⟩ = some (.slice oa' len' cap') := hA9.cell 10
    have s0 : w9.cell? ⟨P, 0, none⟩ = some (.string tA) := hP9.cell 0
    have s1 : w9.cell? ⟨P, 1, none⟩ = some (.string tD) := hP9.cell 1
    have HCC := Lib.hid (fun W => HCo.out tA tD HPO.out.2.2.1 HPO.out.2.2.2 HPO.out.1 HPO.out.2.1 W)
    go_wp2_with fail
    refine (HCC.out _).mono ?_
    rintro e wz ⟨rfl, hbz⟩
    have hBz := hB9.trans (hbz.mono hB9.size)
    go_wp2
    go_ret
    exact ⟨rfl, hBz⟩
end Go.Proofs.Ytfhfmfcmkiobdaa

/-
  Layer 8: both roots, the program's; and the law.
-/
import Derived.Test.YtfhfmfcmkiobdaaCOpenG
import Derived.Test.YtfhfmfcmkiobdaaCFew
import Derived.Test.YtfhfmfcmkiobdaaCFew4
namespace Go.Proofs.Ytfhfmfcmkiobdaa
open Go.RowKit

set_option maxRecDepth 100000 in
set_option maxHeartbeats 2000000 in
theorem cboth_any {g : Nat} {h : ByteArray → ByteArray} (H : Hsh g h) (M N : Int) (first : ByteArray) (hfl : first.size ≤ 1000) (oa : Option Addr) (len cap : Nat) (ss : List ByteArray) (hl : ss.length = len) (hm : len ≤ 40) (hcap : len ≤ cap) (hnil0 : oa = none → len = 0 ∧ cap = 0) (hsz : ∀ s ∈ ss, s.size ≤ 9223372036854775807) (w : World) (hc : Strs w oa ss) :
    Calls Try.prog 16 #[.func (.func g) #[] #[], .int .i64 M, .int .i64 N, .string first, .slice oa len cap] w fun e w' => e = .returned (.tuple #[.string (bthC (groC h M N first ss)).1, .string (bthC (groC h M N first ss)).2.1, .bool (bthC (groC h M N first ss)).2.2]) ∧ Below w.heap.size w w' := by
  have HO := Lib.hid (openGrowth_any H M N first hfl oa len cap ss hl hm hcap hnil0 hsz w hc)
  clear hl hsz hc hnil0 H
  generalize groC h M N first ss = o at *
  cases o with
  | none =>
    show Calls _ _ _ _ fun e w' => e = .returned (.tuple #[.string ⟨#[]⟩, .string ⟨#[]⟩, .bool false]) ∧ _
    go_enter Try.func16, Try.ntmps16
    go_wp2_with fail
    refine HO.out.mono ?_
    rintro e w1 ⟨rfl, hb1⟩
    obtain ⟨B1, hB1⟩ : ∃ B1, w1.heap.size = B1 := ⟨_, rfl⟩
    obtain ⟨w2, hw2⟩ : ∃ w2, w1.alloc (.cells zgrw 55) = w2 := ⟨_, rfl⟩
    have hT : Blk w2 B1 55 zgrw := by rw [← hw2, ← hB1]; exact Blk.new _ _ _
    have hb2 : Below w.heap.size w w2 := by rw [← hw2]; exact hb1.alloc hb1.size _
    have HW2 := Lib.hid hw2
    have s0 : w2.cell? ⟨B1, 0, none⟩ = some (.string ⟨#[]⟩) := hT.cell 0
    have s1 : w2.cell? ⟨B1, 1, none⟩ = some (.string ⟨#[]⟩) := hT.cell 1
    clear hw2 hT hb1
    go_wp2_with fail
    rw [HW2.out]
    go_quiet (fail)
    go_wp2
    go_ret3
    exact ⟨rfl, below_drewN hb2 _⟩
  | some T =>
    obtain ⟨a, s, ea, la⟩ := T
    show Calls _ _ _ _ fun e w' => e = .returned (.tuple #[.string a, .string s, .bool true]) ∧ _
    go_enter Try.func16, Try.ntmps16
    go_wp2_with fail
    refine HO.out.mono ?_
    rintro e w1 ⟨⟨oe, ce, ol, cl, rfl, _, _, _, _⟩, hb1⟩
    try dsimp only
    generalize ea.length = ne at *
    generalize la.length = nl at *
    obtain ⟨B1, hB1⟩ : ∃ B1, w1.heap.size = B1 := ⟨_, rfl⟩
    obtain ⟨w2, hw2⟩ : ∃ w2, w1.alloc (.cells #[.string a, .string s, .slice oe ne ce, .slice ol nl cl] 55) = w2 := ⟨_, rfl⟩
    have hT : Blk w2 B1 55 #[.string a, .string s, .slice oe ne ce, .slice ol nl cl] := by rw [← hw2, ← hB1]; exact Blk.new _ _ _
    have hb2 : Below w.heap.size w w2 := by rw [← hw2]; exact hb1.alloc hb1.size _
    have HW2 := Lib.hid hw2
    have s0 : w2.cell? ⟨B1, 0, none⟩ = some (.string a) := hT.cell 0
    have s1 : w2.cell? ⟨B1, 1, none⟩ = some (.string s) := hT.cell 1
    clear hw2 hT hb1
    go_wp2_with (rw [HW2.out])
    go_quiet (fail)
    go_wp2
    go_ret3
    exact ⟨rfl, below_drewN hb2 _⟩
/-- a consistency proof and two claims that come in -/
structure Chg where
  F : ByteArray
  S : ByteArray
  op : Option Addr
  lp : Nat
  cp : Nat
  ps : List ByteArray
  A : Clm
  D : Clm
def Chg.val (c : Chg) : Value := .agg #[.string c.F, .string c.S, .slice c.op c.lp c.cp, .string c.A.lf, .int .i64 c.A.I, .int .i64 c.A.N, .slice c.A.oa c.A.len c.A.cap, .string c.D.lf, .int .i64 c.D.I, .int .i64 c.D.N, .slice c.D.oa c.D.len c.D.cap]
structure Chg.raw (c : Chg) (w : World) : Prop where
  fs : c.F.size ≤ 9223372036854775807
  sz : c.S.size ≤ 9223372036854775807
  strs : Strs w c.op c.ps
  len : c.ps.length = c.lp
  few : c.lp ≤ 9223372036854775807
  cl : c.lp ≤ c.cp
  nil : c.op = none → c.lp = 0 ∧ c.cp = 0
  pz : ∀ s ∈ c.ps, s.size ≤ 9223372036854775807
  ra : c.A.raw w
  rd : c.D.raw w
theorem Chg.raw.below {c : Chg} {w w' : World} (h : c.raw w) (hb : Below w.heap.size w w') : c.raw w' := ⟨h.fs, h.sz, h.strs.below hb, h.len, h.few, h.cl, h.nil, h.pz, h.ra.below hb, h.rd.below hb⟩
set_option maxRecDepth 100000 in
set_option maxHeartbeats 8000000 in
theorem law_both8 (q : Int) (hq : 0 ≤ q ∧ q ≤ 255) (M N : Int) (hMN : (-9223372036854775808 ≤ M ∧ M ≤ 9223372036854775807) ∧ (-9223372036854775808 ≤ N ∧ N ≤ 9223372036854775807)) (c : Chg) (w : World) (hc : c.raw w) :
    Calls Try.prog 6 #[.int .u8 q, .agg #[.int .i64 M, .int .i64 N], c.val] w fun e w' => e = .returned (.bool true) ∧ Below w.heap.size w w' := by
  obtain ⟨q, rfl⟩ := Int.eq_ofNat_of_zero_le hq.1
  obtain ⟨F, S, op, lp, cp, ps, A, D⟩ := c
  have HA := Lib.hid awake8_any
  have hpl : ps.length = lp := hc.len
  have HF := Lib.hid (fun W (hW : Strs W op ps) => few4_any op lp cp ps hpl hc.few hc.pz 40 40 W hW)
  have HR := Lib.hid (fun (h1 : F.size ≤ 40) (h2 : lp ≤ 40) W (hW : Strs W op ps) => rBoth8_any (hash_any q (by omega)) (hF_size q) M N F (by omega) op lp cp ps hpl h2 hc.cl hc.pz W hW)
  have H0 := Lib.hid (fun (h0 : q % 3 = 0) (h1 : F.size ≤ 40) (h2 : lp ≤ 40) W (hW : Strs W op ps) => by have := cboth_any hsh_two M N F (by omega) op lp cp ps hpl h2 hc.cl hc.nil hc.pz W hW; rw [← hF0 h0] at this; exact this)
  have H1 := Lib.hid (fun (h0 : q % 3 = 1) (h1 : F.size ≤ 40) (h2 : lp ≤ 40) W (hW : Strs W op ps) => by have := cboth_any hsh_five M N F (by omega) op lp cp ps hpl h2 hc.cl hc.nil hc.pz W hW; rw [← hF1 h0] at this; exact this)
  have H2 := Lib.hid (fun (h0 : q % 3 = 2) (h1 : F.size ≤ 40) (h2 : lp ≤ 40) W (hW : Strs W op ps) => by have := cboth_any hsh_full M N F (by omega) op lp cp ps hpl h2 hc.cl hc.nil hc.pz W hW; rw [← hF2 h0] at this; exact this)
  generalize bthC (groC (hF q) M N F ps) = T at *
  obtain ⟨r, s, b⟩ := T
  change Hid (_ → _ → ∀ W, _ → Calls _ _ _ W fun e w' => e = .returned (.tuple #[.string r, .string s, .bool b]) ∧ _) at HR
  change Hid (_ → _ → _ → ∀ W, _ → Calls _ _ _ W fun e w' => e = .returned (.tuple #[.string r, .string s, .bool b]) ∧ _) at H0
  change Hid (_ → _ → _ → ∀ W, _ → Calls _ _ _ W fun e w' => e = .returned (.tuple #[.string r, .string s, .bool b]) ∧ _) at H1
  change Hid (_ → _ → _ → ∀ W, _ → Calls _ _ _ W fun e w' => e = .returned (.tuple #[.string r, .string s, .bool b]) ∧ _) at H2
  have HT := Lib.hid (fun (h : few4M ps 40 40 = true) => show lp ≤ 40 from by have := (few4M_true (by decide) h).1; omega)
  generalize few4M ps 40 40 = fb at *
  have hfs : F.size ≤ 9223372036854775807 := hc.fs
  have HC : Hid (Strs w op ps) := Lib.hid hc.strs
  show Calls _ _ #[_, _, .agg #[.string F, .string S, .slice op lp cp, .string A.lf, .int .i64 A.I, .int .i64 A.N, .slice A.oa A.len A.cap, .string D.lf, .int .i64 D.I, .int .i64 D.N, .slice D.oa D.len D.cap]] _ _
  clear hc hpl
  obtain ⟨B, hB⟩ : ∃ B, w.heap.size = B := ⟨_, rfl⟩
  obtain ⟨w0, hw0⟩ : ∃ w0, w.alloc (.cells #[.int .i64 M, .int .i64 N] 43) = w0 := ⟨_, rfl⟩
  obtain ⟨w1, hw1⟩ : ∃ w1, w0.alloc (.cells #[.string F, .string S, .slice op lp cp, .string A.lf, .int .i64 A.I, .int .i64 A.N, .slice A.oa A.len A.cap, .string D.lf, .int .i64 D.I, .int .i64 D.N, .slice D.oa D.len D.cap] 37) = w1 := ⟨_, rfl⟩
  have z0 : w0.heap.size = B + 1 := by rw [← hw0]; simp [hB]
  have kN : Blk w1 B 43 #[.int .i64 M, .int .i64 N] := by rw [← hw1, ← hw0, ← hB]; exact (Blk.new _ _ _).alloc _
  have kC' : Blk w1 (B + 1) 37 #[.string F, .string S, .slice op lp cp, .string A.lf, .int .i64 A.I, .int .i64 A.N, .slice A.oa A.len A.cap, .string D.lf, .int .i64 D.I, .int .i64 D.N, .slice D.oa D.len D.cap] := by rw [← hw1]; exact Blk.new_at z0.symm
  have hB1 : Below w.heap.size w w1 := by rw [← hw1, ← hw0]; exact ((Below.refl _ w).alloc (Nat.le_refl _) _).alloc (by simp) _
  have HW0 := Lib.hid hw0
  have HW1 := Lib.hid hw1
  have hx : (r.toList == r.toList) = true := by simp
  have hx2 : (s.toList == s.toList) = true := by simp
  have hy : (b == b) = true := by simp
  have HN1 := Lib.hid kN
  have HC1 := Lib.hid kC'
  have HB1 := Lib.hid hB1
  clear hw0 hw1 kN kC' hB1
  cases fb with
  | false =>
    go_enter Try.func6, Try.ntmps6
    go_wp2_with (first | rw [HW0.out] | rw [HW1.out])
    refine (HA.out _).mono ?_
    rintro e w2 ⟨rfl, hb2⟩
    have hB2 := HB1.out.trans (hb2.mono HB1.out.size)
    have k2 := HC1.out.below hb2 HC1.out.lt
    have n2 := HN1.out.below hb2 HN1.out.lt
    have d0 : w2.cell? ⟨B + 1, 0, none⟩ = some (.string F) := k2.cell 0
    have d2 : w2.cell? ⟨B + 1, 2, none⟩ = some (.slice op lp cp) := k2.cell 2
    have m0 : w2.cell? ⟨B, 0, none⟩ = some (.int .i64 M) := n2.cell 0
    have m1 : w2.cell? ⟨B, 1, none⟩ = some (.int .i64 N) := n2.cell 1
    have HK2 := Lib.hid k2
    have HN2 := Lib.hid n2
    clear k2 n2 hb2
    go_wp2_with fail
    refine (HF.out _ (HC.out.below hB2)).mono ?_
    rintro e w' ⟨rfl, hw'⟩
    rw [hw']
    clear hw' w'
    go_wp2_with fail
    refine (HA.out _).mono ?_
    rintro e w3 ⟨rfl, hb3⟩
    have hB3 := hB2.trans (hb3.mono hB2.size)
    go_wp2
    go_ret
    exact ⟨rfl, hB3⟩
  | true =>
    have hlp := HT.out rfl
    by_cases h40 : F.size ≤ 40
    · have h40' : ¬ (40 : Int) < (F.size : Int) := by omega
      have HRR := Lib.hid (HR.out h40 hlp)
      rcases (show q % 3 = 0 ∨ q % 3 = 1 ∨ q % 3 = 2 by omega) with h3 | h3 | h3
      · have e3 : (q : Int) % 3 = 0 := by omega
        have HHH := Lib.hid (H0.out h3 h40 hlp)
        clear H0 H1 H2 h3
        go_enter Try.func6, Try.ntmps6
        go_wp2_with (first | rw [HW0.out] | rw [HW1.out])
        refine (HA.out _).mono ?_
        rintro e w2 ⟨rfl, hb2⟩
        have hB2 := HB1.out.trans (hb2.mono HB1.out.size)
        have k2 := HC1.out.below hb2 HC1.out.lt
        have n2 := HN1.out.below hb2 HN1.out.lt
        have d0 : w2.cell? ⟨B + 1, 0, none⟩ = some (.string F) := k2.cell 0
        have d2 : w2.cell? ⟨B + 1, 2, none⟩ = some (.slice op lp cp) := k2.cell 2
        have m0 : w2.cell? ⟨B, 0, none⟩ = some (.int .i64 M) := n2.cell 0
        have m1 : w2.cell? ⟨B, 1, none⟩ = some (.int .i64 N) := n2.cell 1
        have HK2 := Lib.hid k2
        have HN2 := Lib.hid n2
        clear k2 n2 hb2
        go_wp2_with fail
        refine (HF.out _ (HC.out.below hB2)).mono ?_
        rintro e w' ⟨rfl, hw'⟩
        rw [hw']
        clear hw' w'
        go_wp2_with fail
        refine (HHH.out _ (HC.out.below hB2)).mono ?_
        rintro e w3 ⟨rfl, hb3⟩
        have hB3 := hB2.trans (hb3.mono hB2.size)
        have k3 := HK2.out.below hb3 HK2.out.lt
        have n3 := HN2.out.below hb3 HN2.out.lt
        have e0 : w3.cell? ⟨B + 1, 0, none⟩ = some (.string F) := k3.cell 0
        have e2 : w3.cell? ⟨B + 1, 2, none⟩ = some (.slice op lp cp) := k3.cell 2
        have f0 : w3.cell? ⟨B, 0, none⟩ = some (.int .i64 M) := n3.cell 0
        have f1 : w3.cell? ⟨B, 1, none⟩ = some (.int .i64 N) := n3.cell 1
        clear k3 n3 d0 d2 m0 m1 HK2 HN2 hb3
        go_wp2_with fail
        refine (HRR.out _ (HC.out.below hB3)).mono ?_
        rintro e w4 ⟨rfl, hb4⟩
        have hB4 := hB3.trans (hb4.mono hB3.size)
        clear e0 e2 f0 f1 hb4
        go_wp2
        go_ret
        exact ⟨rfl, hB4⟩
      · have e3 : (q : Int) % 3 = 1 := by omega
        have HHH := Lib.hid (H1.out h3 h40 hlp)
        clear H0 H1 H2 h3
        go_enter Try.func6, Try.ntmps6
        go_wp2_with (first | rw [HW0.out] | rw [HW1.out])
        refine (HA.out _).mono ?_
        rintro e w2 ⟨rfl, hb2⟩
        have hB2 := HB1.out.trans (hb2.mono HB1.out.size)
        have k2 := HC1.out.below hb2 HC1.out.lt
        have n2 := HN1.out.below hb2 HN1.out.lt
        have d0 : w2.cell? ⟨B + 1, 0, none⟩ = some (.string F) := k2.cell 0
        have d2 : w2.cell? ⟨B + 1, 2, none⟩ = some (.slice op lp cp) := k2.cell 2
        have m0 : w2.cell? ⟨B, 0, none⟩ = some (.int .i64 M) := n2.cell 0
        have m1 : w2.cell? ⟨B, 1, none⟩ = some (.int .i64 N) := n2.cell 1
        have HK2 := Lib.hid k2
        have HN2 := Lib.hid n2
        clear k2 n2 hb2
        go_wp2_with fail
        refine (HF.out _ (HC.out.below hB2)).mono ?_
        rintro e w' ⟨rfl, hw'⟩
        rw [hw']
        clear hw' w'
        go_wp2_with fail
        refine (HHH.out _ (HC.out.below hB2)).mono ?_
        rintro e w3 ⟨rfl, hb3⟩
        have hB3 := hB2.trans (hb3.mono hB2.size)
        have k3 := HK2.out.below hb3 HK2.out.lt
        have n3 := HN2.out.below hb3 HN2.out.lt
        have e0 : w3.cell? ⟨B + 1, 0, none⟩ = some (.string F) := k3.cell 0
        have e2 : w3.cell? ⟨B + 1, 2, none⟩ = some (.slice op lp cp) := k3.cell 2
        have f0 : w3.cell? ⟨B, 0, none⟩ = some (.int .i64 M) := n3.cell 0
        have f1 : w3.cell? ⟨B, 1, none⟩ = some (.int .i64 N) := n3.cell 1
        clear k3 n3 d0 d2 m0 m1 HK2 HN2 hb3
        go_wp2_with fail
        refine (HRR.out _ (HC.out.below hB3)).mono ?_
        rintro e w4 ⟨rfl, hb4⟩
        have hB4 := hB3.trans (hb4.mono hB3.size)
        clear e0 e2 f0 f1 hb4
        go_wp2
        go_ret
        exact ⟨rfl, hB4⟩
      · have e3 : (q : Int) % 3 = 2 := by omega
        have HHH := Lib.hid (H2.out h3 h40 hlp)
        clear H0 H1 H2 h3
        go_enter Try.func6, Try.ntmps6
        go_wp2_with (first | rw [HW0.out] | rw [HW1.out])
        refine (HA.out _).mono ?_
        rintro e w2 ⟨rfl, hb2⟩
        have hB2 := HB1.out.trans (hb2.mono HB1.out.size)
        have k2 := HC1.out.below hb2 HC1.out.lt
        have n2 := HN1.out.below hb2 HN1.out.lt
        have d0 : w2.cell? ⟨B + 1, 0, none⟩ = some (.string F) := k2.cell 0
        have d2 : w2.cell? ⟨B + 1, 2, none⟩ = some (.slice op lp cp) := k2.cell 2
        have m0 : w2.cell? ⟨B, 0, none⟩ = some (.int .i64 M) := n2.cell 0
        have m1 : w2.cell? ⟨B, 1, none⟩ = some (.int .i64 N) := n2.cell 1
        have HK2 := Lib.hid k2
        have HN2 := Lib.hid n2
        clear k2 n2 hb2
        go_wp2_with fail
        refine (HF.out _ (HC.out.below hB2)).mono ?_
        rintro e w' ⟨rfl, hw'⟩
        rw [hw']
        clear hw' w'
        go_wp2_with fail
        refine (HHH.out _ (HC.out.below hB2)).mono ?_
        rintro e w3 ⟨rfl, hb3⟩
        have hB3 := hB2.trans (hb3.mono hB2.size)
        have k3 := HK2.out.below hb3 HK2.out.lt
        have n3 := HN2.out.below hb3 HN2.out.lt
        have e0 : w3.cell? ⟨B + 1, 0, none⟩ = some (.string F) := k3.cell 0
        have e2 : w3.cell? ⟨B + 1, 2, none⟩ = some (.slice op lp cp) := k3.cell 2
        have f0 : w3.cell? ⟨B, 0, none⟩ = some (.int .i64 M) := n3.cell 0
        have f1 : w3.cell? ⟨B, 1, none⟩ = some (.int .i64 N) := n3.cell 1
        clear k3 n3 d0 d2 m0 m1 HK2 HN2 hb3
        go_wp2_with fail
        refine (HRR.out _ (HC.out.below hB3)).mono ?_
        rintro e w4 ⟨rfl, hb4⟩
        have hB4 := hB3.trans (hb4.mono hB3.size)
        clear e0 e2 f0 f1 hb4
        go_wp2
        go_ret
        exact ⟨rfl, hB4⟩
    · have h40' : (40 : Int) < (F.size : Int) := by omega
      go_enter Try.func6, Try.ntmps6
      go_wp2_with (first | rw [HW0.out] | rw [HW1.out])
      refine (HA.out _).mono ?_
      rintro e w2 ⟨rfl, hb2⟩
      have hB2 := HB1.out.trans (hb2.mono HB1.out.size)
      have k2 := HC1.out.below hb2 HC1.out.lt
      have n2 := HN1.out.below hb2 HN1.out.lt
      have d0 : w2.cell? ⟨B + 1, 0, none⟩ = some (.string F) := k2.cell 0
      have d2 : w2.cell? ⟨B + 1, 2, none⟩ = some (.slice op lp cp) := k2.cell 2
      have m0 : w2.cell? ⟨B, 0, none⟩ = some (.int .i64 M) := n2.cell 0
      have m1 : w2.cell? ⟨B, 1, none⟩ = some (.int .i64 N) := n2.cell 1
      have HK2 := Lib.hid k2
      have HN2 := Lib.hid n2
      clear k2 n2 hb2
      go_wp2_with fail
      refine (HF.out _ (HC.out.below hB2)).mono ?_
      rintro e w' ⟨rfl, hw'⟩
      rw [hw']
      clear hw' w'
      go_wp2_with fail
      refine (HA.out _).mono ?_
      rintro e w3 ⟨rfl, hb3⟩
      have hB3 := hB2.trans (hb3.mono hB2.size)
      go_wp2
      go_ret
      exact ⟨rfl, hB3⟩
end Go.Proofs.Ytfhfmfcmkiobdaa

/-
  Layer 8: what a claim opens, for every claim; its root; whether it holds; whether two of them clash.
-/
import Derived.Test.YtfhfmfcmkiobdaaCOpen
namespace Go.Proofs.Ytfhfmfcmkiobdaa
open Go.RowKit

/-- a claim that comes in -/
structure Clm where
  lf : ByteArray
  I : Int
  N : Int
  oa : Option Addr
  len : Nat
  cap : Nat
  ss : List ByteArray
def Clm.val (c : Clm) : Value := .agg #[.string c.lf, .int .i64 c.I, .int .i64 c.N, .slice c.oa c.len c.cap]
structure Clm.ok (c : Clm) (w : World) : Prop where
  strs : Strs w c.oa c.ss
  len : c.ss.length = c.len
  few : c.len ≤ 9223372036854775807
  lfs : c.lf.size ≤ 200
  cl : c.len ≤ c.cap
  sm : c.len ≤ 40
  sz : ∀ s ∈ c.ss, s.size ≤ 9223372036854775807
  hI : -9223372036854775808 ≤ c.I ∧ c.I ≤ 9223372036854775807
  hN : -9223372036854775808 ≤ c.N ∧ c.N ≤ 9223372036854775807
theorem Clm.ok.below {c : Clm} {w w' : World} (h : c.ok w) (hb : Below w.heap.size w w') : c.ok w' := ⟨h.strs.below hb, h.len, h.few, h.lfs, h.cl, h.sm, h.sz, h.hI, h.hN⟩
/-- what is known of a claim when it comes in -/
structure Clm.raw (c : Clm) (w : World) : Prop where
  strs : Strs w c.oa c.ss
  len : c.ss.length = c.len
  few : c.len ≤ 9223372036854775807
  lfs : c.lf.size ≤ 9223372036854775807
  cl : c.len ≤ c.cap
  sz : ∀ s ∈ c.ss, s.size ≤ 9223372036854775807
  hI : -9223372036854775808 ≤ c.I ∧ c.I ≤ 9223372036854775807
  hN : -9223372036854775808 ≤ c.N ∧ c.N ≤ 9223372036854775807
theorem Clm.raw.below {c : Clm} {w w' : World} (h : c.raw w) (hb : Below w.heap.size w w') : c.raw w' := ⟨h.strs.below hb, h.len, h.few, h.lfs, h.cl, h.sz, h.hI, h.hN⟩
theorem Clm.raw.ok {c : Clm} {w : World} (h : c.raw w) (hl : c.lf.size ≤ 100) (hm : c.len ≤ 40) : c.ok w := ⟨h.strs, h.len, h.few, by omega, h.cl, hm, h.sz, h.hI, h.hN⟩
def Clm.fits (c : Clm) : Prop := 0 ≤ c.I ∧ c.I < c.N ∧ c.N ≤ 1048576 ∧ allC c.ss = true
instance (c : Clm) : Decidable c.fits := by unfold Clm.fits; infer_instance
def Clm.lfn (c : Clm) : ByteArray := ⟨#[0]⟩ ++ c.lf
/-- the nodes that it opens -/
def opC (h : ByteArray → ByteArray) (c : Clm) : List ByteArray := if c.fits then opn h c.lfn c.I.toNat c.N.toNat c.ss.reverse else []
set_option maxRecDepth 100000 in
set_option maxHeartbeats 1000000 in
theorem openClaim_bad (g : Nat) (lf : ByteArray) (I N : Int) (hbad : N < 1 ∨ 1048576 < N ∨ I < 0 ∨ N ≤ I) (s : Value) (w : World) :
    Calls Try.prog 30 #[.func (.func g) #[] #[], .agg #[.string lf, .int .i64 I, .int .i64 N, s]] w (RT [] w) := by
  obtain ⟨B, hB⟩ : ∃ B, w.heap.size = B := ⟨_, rfl⟩
  obtain ⟨w0, hw0⟩ : ∃ w0, w.alloc (.cells #[.string lf, .int .i64 I, .int .i64 N, s] 24) = w0 := ⟨_, rfl⟩
  have hT : Blk w0 B 24 #[.string lf, .int .i64 I, .int .i64 N, s] := by rw [← hw0, ← hB]; exact Blk.new _ _ _
  have hB0 : Below w.heap.size w w0 := by rw [← hw0]; exact (Below.refl _ w).alloc (Nat.le_refl _) _
  have HW0 := Lib.hid hw0
  have c1 := hT.cell 1
  have c2 := hT.cell 2
  have hnil := func_nil g
  have HF := Lib.hid (show RT [] w (.returned (.slice none 0 0)) w0 from ⟨_, rfl, own_nil _ _, hB0⟩)
  clear hw0 hT hB0
  by_cases n1 : N < 1
  · clear hbad
    go_enter Try.func30, Try.ntmps30
    go_wp2_with (rw [HW0.out])
    go_ret
    exact HF.out
  · by_cases n2 : 1048576 < N
    · clear hbad
      go_enter Try.func30, Try.ntmps30
      go_wp2_with (rw [HW0.out])
      go_ret
      exact HF.out
    · by_cases n3 : I < 0
      · clear hbad
        go_enter Try.func30, Try.ntmps30
        go_wp2_with (rw [HW0.out])
        go_ret
        exact HF.out
      · have n4 : N ≤ I := by omega
        clear hbad
        go_enter Try.func30, Try.ntmps30
        go_wp2_with (rw [HW0.out])
        go_ret
        exact HF.out
set_option maxRecDepth 100000 in
set_option maxHeartbeats 1000000 in
theorem openClaim_off (g : Nat) (lf : ByteArray) (i n : Nat) (hi : i < n) (hn : n ≤ 1048576) (oa : Option Addr) (len cap : Nat) (ss : List ByteArray) (hl : ss.length = len) (hm : len ≤ 9223372036854775807) (hsz : ∀ s ∈ ss, s.size ≤ 9223372036854775807)
    (hw : (decide (len = (wyl i n).length) && allC ss) = false) (w : World) (hc : Strs w oa ss) :
    Calls Try.prog 30 #[.func (.func g) #[] #[], .agg #[.string lf, .int .i64 i, .int .i64 n, .slice oa len cap]] w (RT [] w) := by
  have HWay := Lib.hid (fun W => wayToLeaf_any i n hi hn W)
  have hlw := wyl_len i n
  have HAre : Hid (∀ W, Strs W oa ss → Calls Try.prog 38 #[.slice oa len cap, .int .i64 (wyl i n).length] W fun e w' => e = .returned (.bool false) ∧ w' = W) := Lib.hid (fun W hs => by
    have := areHashes_any oa len cap (wyl i n).length (by omega) ss hl hm hsz W hs
    rw [hw] at this
    exact this)
  obtain ⟨WL, hWL⟩ : ∃ WL, wyl i n = WL := ⟨_, rfl⟩
  rw [hWL] at HWay HAre hlw
  have HC := Lib.hid hc
  obtain ⟨B, hB⟩ : ∃ B, w.heap.size = B := ⟨_, rfl⟩
  obtain ⟨w0, hw0⟩ : ∃ w0, w.alloc (.cells #[.string lf, .int .i64 i, .int .i64 n, .slice oa len cap] 24) = w0 := ⟨_, rfl⟩
  have hT : Blk w0 B 24 #[.string lf, .int .i64 i, .int .i64 n, .slice oa len cap] := by rw [← hw0, ← hB]; exact Blk.new _ _ _
  have hB0 : Below w.heap.size w w0 := by rw [← hw0]; exact (Below.refl _ w).alloc (Nat.le_refl _) _
  have HW0 := Lib.hid hw0
  have n1 : ¬ (n : Int) < 1 := by omega
  have n2 : ¬ (1048576 : Int) < (n : Int) := by omega
  have n3 : ¬ (i : Int) < 0 := by omega
  have n4 : ¬ (n : Int) ≤ (i : Int) := by omega
  have hnil := func_nil g
  have c1 := hT.cell 1
  have c2 := hT.cell 2
  clear hw0 hw hc hl hWL hsz
  go_enter Try.func30, Try.ntmps30
  go_wp2_with (first | rw [HW0.out])
  refine (HWay.out _).mono ?_
  rintro e w1 ⟨vw, rfl, hownW, hB1⟩
  obtain ⟨oaw, capw, rfl, hbools⟩ := hownW.form
  rw [List.length_reverse]
  have hT1 := hT.below hB1 hT.lt
  have hBw1 : Below w.heap.size w w1 := hB0.trans (hB1.mono hB0.size)
  have d3 := hT1.cell 3
  have hS1 := HC.out.below hBw1
  clear c1 c2 n1 n2 n3 n4 hT hB0 hB1 HWay hownW
  go_wp2_with (go_at_call 38; refine (HAre.out _ hS1).mono ?_; rintro e w' ⟨rfl, hw'⟩; rw [hw']; clear hw' w')
  go_ret
  exact ⟨_, rfl, own_nil _ _, hBw1⟩
theorem openClaim_any {g : Nat} {h : ByteArray → ByteArray} (H : Hsh g h) (c : Clm) (w : World) (hc : c.ok w) : Calls Try.prog 30 #[.func (.func g) #[] #[], c.val] w (RT (opC h c) w) := by
  obtain ⟨lf, I, N, oa, len, cap, ss⟩ := c
  by_cases hn : 0 ≤ I ∧ I < N ∧ N ≤ 1048576
  · obtain ⟨n1, n2, n3⟩ := hn
    obtain ⟨i, rfl⟩ := Int.eq_ofNat_of_zero_le n1
    obtain ⟨n, rfl⟩ := Int.eq_ofNat_of_zero_le (a := N) (by omega)
    by_cases hw : (decide (len = (wyl i n).length) && allC ss) = true
    · rw [Bool.and_eq_true, decide_eq_true_iff] at hw
      have e : opC h ⟨lf, (i : Int), (n : Int), oa, len, cap, ss⟩ = opn h (⟨#[0]⟩ ++ lf) i n ss.reverse := by
        unfold opC
        rw [if_pos ⟨n1, n2, n3, hw.2⟩]
        rfl
      rw [e]
      exact openClaim_in H lf hc.lfs i n (by omega) (by omega) oa len cap ss hc.len hw.1.symm hw.2 w hc.strs
    · have e : opC h ⟨lf, (i : Int), (n : Int), oa, len, cap, ss⟩ = [] := by
        unfold opC
        by_cases ha : allC ss = true
        · rw [if_pos ⟨n1, n2, n3, ha⟩]
          show opn h (⟨#[0]⟩ ++ lf) i n ss.reverse = []
          rw [opn_tops]
          refine tops_none h _ _ _ ?_
          rw [List.length_reverse]
          intro e
          rw [ha, Bool.and_true, decide_eq_true_iff] at hw
          have : ss.length = len := hc.len
          omega
        · rw [if_neg (fun k => ha k.2.2.2)]
      rw [e]
      exact openClaim_off g lf i n (by omega) (by omega) oa len cap ss hc.len hc.few hc.sz (by simpa using hw) w hc.strs
  · have e : opC h ⟨lf, I, N, oa, len, cap, ss⟩ = [] := by unfold opC; rw [if_neg (fun k => hn ⟨k.1, k.2.1, k.2.2.1⟩)]
    rw [e]
    exact openClaim_bad g lf I N (by omega) _ w
/-- the root of opened nodes -/
def rtC (h : ByteArray → ByteArray) (L : List ByteArray) : ByteArray × Bool := match L with
  | [] => (⟨#[]⟩, false)
  | x :: _ => (h x, true)
theorem infoClaim : (Try.prog.info? 24).map (·.size) = some 4 := by kernel_rfl
theorem ld_clm {w : World} {g : Nat} {x y z u : Value} (h : Blk w g 24 #[x, y, z, u]) : (loadVar 24 ⟨g, 0, none⟩).run Try.prog w = .ok (.agg #[x, y, z, u]) w :=
  run_loadVar_row w g 24 24 #[x, y, z, u] (0, 0) _ h Try.underlying24 rfl infoClaim
theorem top_size {h : ByteArray → ByteArray} (h32 : ∀ s, (h s).size = 32) {c : Clm} (hl : c.lf.size ≤ 200) {x : ByteArray} {N : List ByteArray} (e : opC h c = x :: N) : x.size ≤ 1000 := by
  unfold opC at e
  by_cases hf : c.fits
  · rw [if_pos hf] at e
    obtain ⟨n1, n2, n3, ha⟩ := hf
    have k := cl_of h c.lfn c.ss.reverse c.I.toNat c.N.toNat x N (by omega) (fun q hq => allC_at ha (List.mem_reverse.1 hq)) e
    generalize hL : x :: N = L at k
    generalize c.I.toNat = i0 at k
    generalize c.N.toNat = n0 at k
    cases k with
    | leaf => cases hL; unfold Clm.lfn; rw [ByteArray.size_append]; have : (⟨#[0]⟩ : ByteArray).size = 1 := rfl; omega
    | left _ _ hq _ => cases hL; exact Nat.le_trans (nodC_size (by rw [h32]; decide) (by omega)) (by decide)
    | right _ _ hq _ => cases hL; exact Nat.le_trans (nodC_size (by rw [h32]; decide) (by omega)) (by decide)
  · rw [if_neg hf] at e; cases e
section
attribute [-go_sem] loadVar
set_option maxRecDepth 100000 in
set_option maxHeartbeats 1000000 in
theorem croot_any {g : Nat} {h : ByteArray → ByteArray} (H : Hsh g h) (c : Clm) (w : World) (hc : c.ok w) :
    Calls Try.prog 20 #[.func (.func g) #[] #[], c.val] w fun e w' => e = .returned (.tuple #[.string (rtC h (opC h c)).1, .bool (rtC h (opC h c)).2]) ∧ Below w.heap.size w w' := by
  have HO := Lib.hid (fun W hW => openClaim_any H c W hW)
  have HC := Lib.hid hc
  have eg := H.enter
  have HH := Lib.hid H.call
  have HTS := Lib.hid (fun x N => top_size (h := h) H.size (c := c) hc.lfs (x := x) (N := N))
  obtain ⟨L, hL⟩ : ∃ L, opC h c = L := ⟨_, rfl⟩
  rw [hL] at HO HTS ⊢
  clear hL hc
  obtain ⟨lf, I, N, oa, len, cap, ss⟩ := c
  change Hid (∀ W, _ → Calls _ _ #[_, .agg #[.string lf, .int .i64 I, .int .i64 N, .slice oa len cap]] W _) at HO
  show Calls _ _ #[_, .agg #[.string lf, .int .i64 I, .int .i64 N, .slice oa len cap]] _ _
  obtain ⟨B, hB⟩ : ∃ B, w.heap.size = B := ⟨_, rfl⟩
  obtain ⟨w0, hw0⟩ : ∃ w0, w.alloc (.cells #[.string lf, .int .i64 I, .int .i64 N, .slice oa len cap] 24) = w0 := ⟨_, rfl⟩
  have hT : Blk w0 B 24 #[.string lf, .int .i64 I, .int .i64 N, .slice oa len cap] := by rw [← hw0, ← hB]; exact Blk.new _ _ _
  have hB0 : Below w.heap.size w w0 := by rw [← hw0]; exact (Below.refl _ w).alloc (Nat.le_refl _) _
  have HW0 := Lib.hid hw0
  have lc := ld_clm hT
  have hC0 := HC.out.below hB0
  clear hw0 hT
  match L, HO, HTS with
  | [], HO, _ =>
    show Calls _ _ _ _ fun e w' => e = .returned (.tuple #[.string ⟨#[]⟩, .bool false]) ∧ _
    go_enter Try.func20, Try.ntmps20
    go_wp2_with (first | rw [HW0.out])
    refine (HO.out _ hC0).mono ?_
    rintro e w1 ⟨v, rfl, hown, hB1⟩
    have hBw1 : Below w.heap.size w w1 := hB0.trans (hB1.mono hB0.size)
    obtain ⟨oa1, cap1, rfl⟩ := hown.at rfl
    clear hB0 hB1 lc
    go_wp2
    go_ret2
    exact ⟨rfl, hBw1⟩
  | x :: M, HO, HTS =>
    show Calls _ _ _ _ fun e w' => e = .returned (.tuple #[.string (h x), .bool true]) ∧ _
    have HHx := Lib.hid (fun W => HH.out x W (HTS.out x M rfl))
    generalize h x = y at *
    go_enter Try.func20, Try.ntmps20
    go_wp2_with (first | rw [HW0.out])
    refine (HO.out _ hC0).mono ?_
    rintro e w1 ⟨v, rfl, hown, hB1⟩
    have hBw1 : Below w.heap.size w w1 := hB0.trans (hB1.mono hB0.size)
    obtain ⟨gn, cn, rfl, hgn, hcn, hrow⟩ := hown.row (by simp)
    have hx := txt_load (hrow.2 0 (by simp))
    change (loadVar 9 ⟨gn, 0, none⟩).run Try.prog w1 = .ok (.string x) w1 at hx
    have hlen : (x :: M).length = M.length + 1 := rfl
    rw [hlen]
    generalize M.length = m at *
    have hm0 : (((m + 1 : Nat) : Int) == 0) = false := by rw [beq_eq_false_iff_ne]; omega
    have hm1 : (0 : Int) < ((m + 1 : Nat) : Int) := by omega
    clear hB0 hB1 lc hrow hown hlen
    go_wp2_with fail
    refine (HHx.out _).mono ?_
    rintro e w2 ⟨rfl, hB2⟩
    have hBw2 : Below w.heap.size w w2 := hBw1.trans (hB2.mono hBw1.size)
    go_wp2
    go_ret2
    exact ⟨rfl, hBw2⟩
end
end Go.Proofs.Ytfhfmfcmkiobdaa

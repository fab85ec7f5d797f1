/-
  Layer 8: a hasher that is handed in, and the nodes that a claim opens.
-/
import Derived.Test.YtfhfmfcmkiobdaaCHash
import Derived.Test.YtfhfmfcmkiobdaaHStep
import Derived.Shelf.Abstract
namespace Go.Proofs.Ytfhfmfcmkiobdaa
open Go.RowKit

/-- the function number g tells of a text h of it -/
structure Hsh (g : Nat) (h : ByteArray → ByteArray) : Prop where
  enter : ∀ args w, (callFunc g args).run Try.prog w = .ok (.enter g args) w
  size : ∀ s, (h s).size = 32
  call : ∀ s W, s.size ≤ 1000 → Calls Try.prog g #[.string s] W fun e w' => e = .returned (.string (h s)) ∧ Below W.heap.size W w'
/-- append(v, y), carried out in a region -/
theorem wp_append_txtC {W : World} {o : Oper} {a : Act} {K : Act → World → Prop} {Q : Exit → Act → World → Prop} (hgd : o.guard = none) (s x : Operand)
    (ho : o.op = .call { callee := .builtin .append, args := #[s, x], argTypes := #[22, 22] }) (B : Nat) (v : Value) (ss : List ByteArray) (hs : a.eval s = v) (hown : Own W B v ss) (y : ByteArray)
    (hx : a.eval x = .slice (some ⟨W.heap.size, 0, none⟩) 1 1) (hlen : ss.length ≤ 1073741824) (hB : B ≤ W.heap.size)
    (h : ∀ g cap w', Own w' B (.slice (some ⟨g, 0, none⟩) (ss.length + 1) cap) (ss ++ [y]) → W.grownBy w' v.ownBlock → K (a.put o.dst (.slice (some ⟨g, 0, none⟩) (ss.length + 1) cap)) w') :
    Oper.wp Try.prog o a (W.alloc (.cells #[.string y] 9)) K Q := by
  have h0 := step_append_txt (ops := #[]) (E := False) (Q := Q) hgd s x ho B v ss hs hown y hx hlen hB h
  split at h0
  · exact h0
  · exact h0.elim
set_option maxRecDepth 100000 in
theorem func_nil (g : Nat) (W : World) : (binOp BinOp.eql 45 (.func (.func g) #[] #[]) .nilFunc ).run Try.prog W = .ok (.bool false) W := by rfl
theorem own_oneC (W : World) (y : ByteArray) : Own (W.alloc (.cells #[.string y] 9)) W.heap.size (.slice (some ⟨W.heap.size, 0, none⟩) 1 1) [y] :=
  World.ownsRow_lit W #[.string y] 1 (Nat.le_refl _) (by decide) rfl
theorem getD_mid {α : Type} (A : List α) (x : α) (R : List α) (d : α) {j : Nat} (h : A.length = j) : (A ++ x :: R).getD j d = x := by
  rw [List.getD_eq_getElem?_getD, List.getElem?_append_right (by omega), h, Nat.sub_self]; rfl
theorem allC_at {ss : List ByteArray} (h : allC ss = true) {q : ByteArray} (hq : q ∈ ss) : q.size = 32 := by
  obtain ⟨j, hj, e⟩ := List.getElem_of_mem hq
  have := of_decide_eq_true h j hj
  rw [List.getD_eq_getElem?_getD, List.getElem?_eq_getElem hj] at this
  rw [← e]; exact this
set_option maxRecDepth 100000 in
set_option maxHeartbeats 4000000 in
theorem openClaim_in {g : Nat} {h : ByteArray → ByteArray} (H : Hsh g h) (lf : ByteArray) (hlf : lf.size ≤ 200) (i n : Nat) (hi : i < n) (hn : n ≤ 1048576) (oa : Option Addr) (len cap : Nat) (ss : List ByteArray) (hl : ss.length = len)
    (hw : (wyl i n).length = len) (hall : allC ss = true) (w : World) (hc : Strs w oa ss) :
    Calls Try.prog 30 #[.func (.func g) #[] #[], .agg #[.string lf, .int .i64 i, .int .i64 n, .slice oa len cap]] w (RT (opn h (⟨#[0]⟩ ++ lf) i n ss.reverse) w) := by
  rw [opn_tops]
  have HWay := Lib.hid (fun W => wayToLeaf_any i n hi hn W)
  have hlen : len ≤ 1048576 := by have := wyl_len i n; omega
  have HAre : Hid (∀ W, Strs W oa ss → Calls Try.prog 38 #[.slice oa len cap, .int .i64 len] W fun e w' => e = .returned (.bool true) ∧ w' = W) := Lib.hid (fun W hs => by
    have := areHashes_any oa len cap len (by omega) ss hl (by omega) (fun s hs => by have := allC_at hall hs; omega) W hs
    rw [hall, decide_eq_true rfl] at this
    exact this)
  have HALL := Lib.hid (fun q hq => allC_at hall (q := q) hq)
  have eg := H.enter
  have HH := Lib.hid H.call
  have H32 := Lib.hid H.size
  have HL := Lib.hid hl
  have HWL := Lib.hid (show (wyl i n).reverse.length = len by rw [List.length_reverse]; exact hw)
  obtain ⟨WL, hWL⟩ : ∃ WL, wyl i n = WL := ⟨_, rfl⟩
  rw [hWL] at HWay HWL ⊢
  have HC := Lib.hid hc
  obtain ⟨B, hB⟩ : ∃ B, w.heap.size = B := ⟨_, rfl⟩
  obtain ⟨w0, hw0⟩ : ∃ w0, w.alloc (.cells #[.string lf, .int .i64 i, .int .i64 n, .slice oa len cap] 24) = w0 := ⟨_, rfl⟩
  have hT : Blk w0 B 24 #[.string lf, .int .i64 i, .int .i64 n, .slice oa len cap] := by rw [← hw0, ← hB]; exact Blk.new _ _ _
  have hB0 : Below w.heap.size w w0 := by rw [← hw0]; exact (Below.refl _ w).alloc (Nat.le_refl _) _
  have a1 := addRun (a := ⟨#[0]⟩) (b := lf) (by have : (⟨#[0]⟩ : ByteArray).size = 1 := rfl; omega)
  have HX0 := Lib.hid (show ((⟨#[0]⟩ : ByteArray) ++ lf).size ≤ 201 by rw [ByteArray.size_append]; have : (⟨#[0]⟩ : ByteArray).size = 1 := rfl; omega)
  have HW0 := Lib.hid hw0

  have n1 : ¬ (n : Int) < 1 := by omega
  have n2 : ¬ (1048576 : Int) < (n : Int) := by omega
  have n3 : ¬ (i : Int) < 0 := by omega
  have n4 : ¬ (n : Int) ≤ (i : Int) := by omega
  have hnil := func_nil g
  have c1 := hT.cell 1
  have c2 := hT.cell 2
  clear hw0 hw hall hc hl hWL
  go_enter Try.func30, Try.ntmps30
  go_wp2_with (first | rw [HW0.out])
  refine (HWay.out _).mono ?_
  rintro e w1 ⟨vw, rfl, hownW, hB1⟩
  obtain ⟨oaw, capw, rfl, hbools⟩ := hownW.form
  rw [HWL.out]
  have hT1 := hT.below hB1 hT.lt
  have hBw1 : Below w.heap.size w w1 := hB0.trans (hB1.mono hB0.size)
  have d0 := hT1.cell 0
  have d3 := hT1.cell 3
  have hS1 := HC.out.below hBw1
  clear c1 c2 n1 n2 n3 n4 hT hB0 hB1 HWay hownW
  go_wp2_with (go_at_call 38; refine (HAre.out _ hS1).mono ?_; rintro e w' ⟨rfl, hw'⟩; rw [hw']; clear hw' w')
  have hO0 := own_oneC w1 (⟨#[0]⟩ ++ lf)
  have hBa := hBw1.alloc hBw1.size (.cells #[.string (⟨#[0]⟩ ++ lf)] 9)
  have hB1a : Below w1.heap.size w1 (w1.alloc (.cells #[.string (⟨#[0]⟩ ++ lf)] 9)) := (Below.refl _ _).alloc (Nat.le_refl _) _
  generalize ((⟨#[0]⟩ : ByteArray) ++ lf) = X0 at *
  generalize w1.alloc (.cells #[.string X0] 9) = wx at *
  have hT1l := hT1.lt
  clear d0 d3 a1
  go_loopw [6, 50] (fun vn vi wr => ∃ (j : Nat) (W2 : List Bool) (P2 : List ByteArray) (x : ByteArray) (N : List ByteArray) (R : List Bool) (S : List ByteArray), j ≤ len ∧ vi = .int .i64 j ∧ Hid (WL.reverse = W2.reverse ++ R) ∧ Hid (ss = P2.reverse ++ S) ∧ W2.length = j ∧ P2.length = j ∧
      Hid (tops h X0 W2 P2 = x :: N) ∧ N.length = j ∧ x.size ≤ 201 ∧ Own wr w1.heap.size vn (N.reverse ++ [x]) ∧ Below w1.heap.size w1 wr) (fun _ vi _ => len - (intOf vi).toNat)
  case atStart => exact ⟨0, [], [], X0, [], WL.reverse, ss, by omega, rfl, Lib.hid rfl, Lib.hid rfl, rfl, rfl, Lib.hid rfl, rfl, HX0.out, hO0, hB1a⟩
  case round =>
    clear hO0 hB1a hBa
    obtain ⟨j, W2, P2, x, N, R, S, hj, rfl, HR, HS, h2, h3, HT, hN, hxs, hown, hBr⟩ := hrel
    by_cases hlt : j < len
    · have hlt' : (j : Int) < (len : Int) := by omega
      match R, HR, S, HS with
      | [], HR, _, _ => exfalso; have := congrArg List.length HR.out; rw [HWL.out] at this; simp at this; omega
      | b :: R, HR, [], HS => exfalso; have := congrArg List.length HS.out; rw [HL.out] at this; simp at this; omega
      | b :: R, HR, q :: S, HS =>
        obtain ⟨a, rfl, hab, hca0⟩ := hS1 j (by rw [HL.out]; exact hlt)
        rw [show ss.getD j ByteArray.empty = q by rw [HS.out]; exact getD_mid _ _ _ _ (by simpa using h3)] at hca0
        obtain ⟨aw, rfl, habw, hcw0⟩ := hbools j (by rw [HWL.out]; exact hlt)
        rw [show WL.reverse.getD j false = b by rw [HR.out]; exact getD_mid _ _ _ _ (by simpa using h2)] at hcw0
        have hcw : wr.cell? (aw.add j) = some (.bool b) := (hBr.cell (by rw [add_block]; exact habw)).trans hcw0
        have hca : wr.cell? (a.add j) = some (.string q) := (hBr.cell (by rw [add_block]; exact hab)).trans hca0
        have hTr := hT1.below hBr hT1.lt
        have hqs : q.size = 32 := HALL.out q (by rw [HS.out]; simp)
        obtain ⟨gn, cn, rfl, hgn, hcn, hrow⟩ := hown.row (by simp)
        have hnl : (N.reverse ++ [x]).length = j + 1 := by simp [hN]
        rw [hnl] at hcn ⊢
        have hcx0 := hrow.2 j (by rw [hnl]; omega)
        rw [Nat.zero_add, show (N.reverse ++ [x]).getD j ByteArray.empty = x from getD_mid _ _ _ _ (by simpa using hN)] at hcx0
        have hcx : wr.drew.cell? ⟨gn, j, none⟩ = some (.string x) := hcx0
        have hown' : Own wr w1.heap.size (.slice (some ⟨gn, 0, none⟩) (j + 1) cn) (N.reverse ++ [x]) := by rw [hnl] at hown; exact hown
        have HHx := Lib.hid (fun W => HH.out x W (by omega))
        have HNod := Lib.hid (fun W => node_any b (h x) q (by rw [H32.out]; decide) (by omega) W)
        have HTN := Lib.hid (show tops h X0 (b :: W2) (q :: P2) = nodC b (h x) q :: x :: N by show conC h b (tops h X0 W2 P2) q = _; rw [HT.out]; rfl)
        have hns : (nodC b (h x) q).size ≤ 201 := Nat.le_trans (nodC_size (by rw [H32.out]; decide) (by omega)) (by decide)
        generalize nodC b (h x) q = Y at *
        generalize h x = hx at *
        have hidx : (j : Int) < (j : Int) + 1 := by omega
        have HKP := Lib.hid (show ∀ W', wr.grownBy W' (some gn) → (W'.cell? ⟨B, 3, none⟩ = some (.slice (some a) len cap) ∧ W'.cell? (a.add j) = some (.string q)) ∧ wr.grownBy W' (some gn) from fun W' hg =>
          ⟨⟨(hTr.grown hg (by intro e; injection e with e; omega)).cell 3, (World.cell?_of_block (a := a.add j) (hg.block _ (by rw [add_block]; exact Nat.lt_of_lt_of_le hab hBr.size) (by rw [add_block]; intro e; injection e with e; omega))).trans hca⟩, hg⟩)
        have hlenN : (N.reverse ++ [x]).length ≤ 1073741824 := by rw [hnl]; omega
        have hBs := hBr.size
        have HOW := Lib.hid hown'
        clear hca0 hcw0 hrow hown hown' hcx0 hqs HT
        go_wp2_with fail
        refine wp_region_held_drew (S := (fun W' => (W'.cell? ⟨B, 3, none⟩ = some (.slice (some a) len cap) ∧ W'.cell? (a.add j) = some (.string q)) ∧ wr.grownBy W' (some gn))) (by kernel_rfl) ?_ (fun hHeld0 => ?_)
        · (refine HKP.out _ ?_; first | exact hG3 | exact grown_alloc hG1 _ | exact hG1 | exact only_drew (grown_refl _ _))
        apply takeH (i := 0) rfl (by kernel_rfl) (by kernel_rfl) (by kernel_rfl) (fun _ _ _ h => h) (by rfl)
        case hy => (intro w hSw; (try dsimp only at hSw); go_simp; try with_reducible rfl)
        case hS => assumption
        (try simp only [Act.put, List.setIfInBounds_toArray, List.set_cons_zero, List.set_cons_succ])
        apply takeH (i := 1) rfl (by kernel_rfl) (by kernel_rfl) (by kernel_rfl) (fun _ _ _ h => h) (by rfl)
        case hy => (intro w hSw; (try dsimp only at hSw); go_simp; try with_reducible rfl)
        case hS => assumption
        (try simp only [Act.put, List.setIfInBounds_toArray, List.set_cons_zero, List.set_cons_succ])
        apply takeH (i := 2) rfl (by kernel_rfl) (by kernel_rfl) (by kernel_rfl) (fun _ _ _ h => h) (by rfl)
        case hy => (intro w hSw; (try dsimp only at hSw); go_simp; try with_reducible rfl)
        case hS => assumption
        (try simp only [Act.put, List.setIfInBounds_toArray, List.set_cons_zero, List.set_cons_succ])
        apply takeH (i := 3) rfl (by kernel_rfl) (by kernel_rfl) (by kernel_rfl) (fun _ _ _ h => h) (by rfl)
        case hy => (intro w hSw; (try dsimp only at hSw); go_simp; try with_reducible rfl)
        case hS => assumption
        (try simp only [Act.put, List.setIfInBounds_toArray, List.set_cons_zero, List.set_cons_succ])
        apply takeH (i := 4) rfl (by kernel_rfl) (by kernel_rfl) (by kernel_rfl) (fun _ _ _ h => h) (by rfl)
        case hy => (intro w hSw; (try dsimp only at hSw); go_simp; try with_reducible rfl)
        case hS => assumption
        (try simp only [Act.put, List.setIfInBounds_toArray, List.set_cons_zero, List.set_cons_succ])
        apply takeH (i := 5) rfl (by kernel_rfl) (by kernel_rfl) (by kernel_rfl) (fun _ _ _ h => h) (by rfl)
        case hy => (intro w hSw; (try dsimp only at hSw); go_simp; try with_reducible rfl)
        case hS => assumption
        (try simp only [Act.put, List.setIfInBounds_toArray, List.set_cons_zero, List.set_cons_succ])
        apply takeH (i := 8) rfl (by kernel_rfl) (by kernel_rfl) (by kernel_rfl) (fun _ _ _ h => h) (by rfl)
        case hy => (intro w hSw; (try dsimp only at hSw); go_simp; try with_reducible rfl)
        case hS => assumption
        (try simp only [Act.put, List.setIfInBounds_toArray, List.set_cons_zero, List.set_cons_succ])
        apply takeH (i := 9) rfl (by kernel_rfl) (by kernel_rfl) (by kernel_rfl) (fun _ _ _ h => h) (by rfl)
        case hy => (intro w hSw; (try dsimp only at hSw); go_simp; try with_reducible rfl)
        case hS => assumption
        (try simp only [Act.put, List.setIfInBounds_toArray, List.set_cons_zero, List.set_cons_succ])
        apply takeH (i := 10) rfl (by kernel_rfl) (by kernel_rfl) (by kernel_rfl) (fun _ _ _ h => h) (by rfl)
        case hy => (intro w hSw; (try dsimp only at hSw); go_simp; try with_reducible rfl)
        case hS => assumption
        (try simp only [Act.put, List.setIfInBounds_toArray, List.set_cons_zero, List.set_cons_succ])
        apply takeH (i := 11) rfl (by kernel_rfl) (by kernel_rfl) (by kernel_rfl) (fun _ _ _ h => h) (by rfl)
        case hy => (intro w hSw; (try dsimp only at hSw); go_simp; try with_reducible rfl)
        case hS => assumption
        (try simp only [Act.put, List.setIfInBounds_toArray, List.set_cons_zero, List.set_cons_succ])
        apply takeH (i := 12) rfl (by kernel_rfl) (by kernel_rfl) (by kernel_rfl) (fun _ _ _ h => h) (by rfl)
        case hy => (intro w hSw; (try dsimp only at hSw); go_simp; try with_reducible rfl)
        case hS => assumption
        (try simp only [Act.put, List.setIfInBounds_toArray, List.set_cons_zero, List.set_cons_succ])
        refine doH (i := 6) rfl (by kernel_rfl) (by rfl) (fun K hK => ?_)
        go_simp
        refine hK.out _ _ ?_ (fun hHeld6 => ?_)
        · (refine HKP.out _ ?_; first | exact hG3 | exact grown_alloc hG1 _ | exact hG1 | exact only_drew (grown_refl _ _))
        clear hK K hHeld0
        (try simp only [Act.put, List.setIfInBounds_toArray, List.set_cons_zero, List.set_cons_succ])
        refine doH (i := 7) rfl (by kernel_rfl) (by rfl) (fun K hK => ?_)
        go_simp
        refine (HHx.out _).mono ?_
        rintro e w2 ⟨rfl, hb2⟩
        have hb1 : Below wr.heap.size wr w2 := (Below.refl _ _).drew.trans hb2
        have hG1 : wr.grownBy w2 (some gn) := only_of_below hb1 _
        go_wp2_with fail
        refine hK.out _ _ ?_ (fun hHeld7 => ?_)
        · (refine HKP.out _ ?_; first | exact hG3 | exact grown_alloc hG1 _ | exact hG1 | exact only_drew (grown_refl _ _))
        clear hK K hHeld6
        (try simp only [Act.put, List.setIfInBounds_toArray, List.set_cons_zero, List.set_cons_succ])
        refine doH (i := 13) rfl (by kernel_rfl) (by rfl) (fun K hK => ?_)
        go_simp
        refine (HNod.out _).mono ?_
        rintro e w3 ⟨rfl, rfl⟩
        go_wp2_with fail
        refine hK.out _ _ ?_ (fun hHeld13 => ?_)
        · (refine HKP.out _ ?_; first | exact hG3 | exact grown_alloc hG1 _ | exact hG1 | exact only_drew (grown_refl _ _))
        clear hK K hHeld7
        (try simp only [Act.put, List.setIfInBounds_toArray, List.set_cons_zero, List.set_cons_succ])
        refine doH (i := 14) rfl (by kernel_rfl) (by rfl) (fun K hK => ?_)
        go_simp
        refine hK.out _ _ ?_ (fun hHeld14 => ?_)
        · (refine HKP.out _ ?_; first | exact hG3 | exact grown_alloc hG1 _ | exact hG1 | exact only_drew (grown_refl _ _))
        clear hK K hHeld13
        (try simp only [Act.put, List.setIfInBounds_toArray, List.set_cons_zero, List.set_cons_succ])
        refine doH (i := 15) rfl (by kernel_rfl) (by rfl) (fun K hK => ?_)
        refine wp_append_txtC rfl _ _ rfl w1.heap.size (.slice (some ⟨gn, 0, none⟩) (j + 1) cn) (N.reverse ++ [x]) rfl (HOW.out.below hb1) Y rfl hlenN (Nat.le_trans hBs hG1.size) ?_
        intro g4 cap4 w4 hown4 hg4
        have hG3 : wr.grownBy w4 (some gn) := grown_trans hG1 hg4
        refine hK.out _ _ ?_ (fun hHeld15 => ?_)
        · (refine HKP.out _ ?_; first | exact hG3 | exact grown_alloc hG1 _ | exact hG1 | exact only_drew (grown_refl _ _))
        clear hK K hHeld14
        (try simp only [Act.put, List.setIfInBounds_toArray, List.set_cons_zero, List.set_cons_succ])
        apply takeH (i := 16) rfl (by kernel_rfl) (by kernel_rfl) (by kernel_rfl) (fun _ _ _ h => h) (by rfl)
        case hy => (intro w hSw; (try dsimp only at hSw); go_simp; try with_reducible rfl)
        case hS => assumption
        (try simp only [Act.put, List.setIfInBounds_toArray, List.set_cons_zero, List.set_cons_succ])
        refine wpAnyH_done (by kernel_rfl) ?_ _
        rw [hnl] at hown4 ⊢
        have hB4 : Below w1.heap.size w1 w4 := hBr.grown hG3 hBr.size (fun z hz => by injection hz with hz; omega)
        clear hG1 hG3 hg4 hb1 hb2 HHx HNod HKP HOW hHeld15 hcw hca hcx hTr
        go_wp2
        go_roundw
        case rel => exact ⟨j + 1, b :: W2, q :: P2, Y, x :: N, R, S, by omega, by go_num, Lib.hid (by rw [HR.out]; simp), Lib.hid (by rw [HS.out]; simp), by simp [h2], by simp [h3], HTN, by simp [hN], hns, by rw [List.reverse_cons]; exact hown4, hB4⟩
        case measure => simp [intOf]; omega
    · obtain rfl : j = len := by omega
      have hlt' : ¬ (j : Int) < (j : Int) := by omega
      have HE : Hid (tops h X0 WL ss.reverse = x :: N) := Lib.hid (by
        have e1 : R = [] := by have := congrArg List.length HR.out; rw [HWL.out] at this; simp at this; exact List.length_eq_zero_iff.1 (by omega)
        have e2 : S = [] := by have := congrArg List.length HS.out; rw [HL.out] at this; simp at this; exact List.length_eq_zero_iff.1 (by omega)
        have e3 := HR.out
        have e4 := HS.out
        rw [e1, List.append_nil] at e3
        rw [e2, List.append_nil] at e4
        rw [List.reverse_inj.1 e3, e4, List.reverse_reverse]
        exact HT.out)
      clear HT HR HS hlt
      have hnl : (N.reverse ++ [x]).length ≤ 1073741824 := by simp; omega
      go_wp2_with fail
      refine (reverse_txt w1.heap.size _ _ hnl wr hown).mono ?_
      rintro e w2 ⟨⟨u, rfl⟩, hown2, hg2⟩
      have hB2 := below_row hBr hown (Nat.le_refl _) hg2
      go_wp2
      go_ret
      refine ⟨_, rfl, ?_, hBw1.trans (hB2.mono hBw1.size)⟩
      rw [HE.out]
      have := hown2.mono (B' := w.heap.size) hBw1.size
      rw [List.reverse_append, List.reverse_reverse] at this
      exact this
end Go.Proofs.Ytfhfmfcmkiobdaa

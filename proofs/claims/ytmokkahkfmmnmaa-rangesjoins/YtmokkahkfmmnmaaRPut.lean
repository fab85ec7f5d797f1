/-
  One stretch more behind a range, one leaf more: the program's.
-/
import Derived.Test.YtmokkahkfmmnmaaRConc
import Derived.Test.YtmokkahkfmmnmaaRMath
import Derived.Deep.LoopGhost
namespace Go.Proofs.Ytmokkahkfmmnmaa
open Go.RowKit

theorem ld_int {w : World} {p : Addr} {x : Int} (h : w.cell? p = some (.int .i64 x)) : (loadVar 3 p).run Try.prog w = .ok (.int .i64 x) w := by
  go_simp
theorem ld_sl {w : World} {p : Addr} {oa : Option Addr} {n c : Nat} (h : w.cell? p = some (.slice oa n c)) : (loadVar 22 p).run Try.prog w = .ok (.slice oa n c) w := by
  go_simp
theorem infoRange : (Try.prog.info? 33).map (·.size) = some 2 := by kernel_rfl
theorem ld_rng {w : World} {g : Nat} {x y : Value} (h : Blk w g 33 #[x, y]) : (loadVar 33 ⟨g, 0, none⟩).run Try.prog w = .ok (.agg #[x, y]) w :=
  run_loadVar_row w g 33 33 #[x, y] (0, 0) _ h Try.underlying33 rfl infoRange
theorem ofInt64_n (a : Nat) (ha : a < 9223372036854775808) : (BitVec.ofInt 64 (a : Int)).toNat = a := by
  rw [BitVec.ofInt_natCast, BitVec.toNat_ofNat]; exact Nat.mod_eq_of_lt (by omega)
theorem i64_and_n (a b : Nat) (ha : a < 9223372036854775808) (hb : b < 9223372036854775808) : bits .and .i64 (a : Int) (b : Int) = ((a &&& b : Nat) : Int) := by
  have hx : a &&& b < 2 ^ 63 := Nat.and_lt_two_pow _ (by omega)
  show IntKind.i64.wrap ((BitVec.ofInt 64 (a : Int) &&& BitVec.ofInt 64 (b : Int)).toNat : Int) = _
  rw [BitVec.toNat_and, ofInt64_n a ha, ofInt64_n b hb, IntKind.wrap_i64]
  omega
/-- what a call that makes a range answers -/
def RP (s : Nat) (ss : List ByteArray) (w : World) (e : Ending) (w' : World) : Prop := ∃ v, e = .returned (.agg #[.int .i64 ((s : Nat) : Int), v]) ∧ Own w' w.heap.size v ss ∧ Below w.heap.size w w'
theorem and_le {s j : Nat} (h : s &&& 2 ^ j ≠ 0) : 2 ^ j ≤ s := by
  have h1 := (and_two s j).1 h
  rcases Nat.lt_or_ge s (2 ^ j) with h2 | h2
  · rw [Nat.div_eq_of_lt h2] at h1; omega
  · exact h2
theorem own_far {w : World} {B : Nat} {v : Value} {ss : List ByteArray} (h : Own w B v ss) {p : Addr} (hp : p.block < B) (u : Value) : Own (w.setCell p u) B v ss :=
  World.ownsRow.kept h (row := some p.block) ⟨rfl, rfl, rfl, by simp, fun i _ hne => Below.heap_setCell w p u i (fun e => hne (by rw [e]))⟩ (.inr (fun e => by have := (World.ownsRow.lt h _ e).1; omega))
section
attribute [-go_sem] loadVar
set_option maxRecDepth 100000 in
set_option maxHeartbeats 4000000 in
theorem put_any (s j : Nat) (hs : s ≤ 1073741824) (hj : 2 ^ j ≤ 1073741824) (oa : Option Addr) (n c : Nat) (ss : List ByteArray) (r : ByteArray) (hn : ss.length = n) (hn2 : n ≤ 1000) (hcap : n ≤ c) (hna : oa = none → n = 0 ∧ c = 0) (hz : Sz ss) (hr : r.size ≤ 1073741824) (w : World) (hc : Strs w oa ss) :
    Calls Try.prog 35 #[.agg tabV, .agg #[.int .i64 s, .slice oa n c], .int .i64 ((2 ^ j : Nat) : Int), .string r] w (RP (s + 2 ^ j) (putM s (2 ^ j) ss r) w) := by
  obtain ⟨B, hB⟩ : ∃ B, w.heap.size = B := ⟨_, rfl⟩
  obtain ⟨w0, hw0⟩ : ∃ w0, ((w.alloc (.cells tabV 29)).alloc (.cells #[.int .i64 s, .slice oa n c] 33)).alloc (.cells #[.int .i64 0, .slice none 0 0] 33) = w0 := ⟨_, rfl⟩
  have hT : Blk w0 B 29 tabV := by rw [← hw0, ← hB]; exact ((Blk.new _ _ _).alloc _).alloc _
  have hK : Blk w0 (B + 1) 33 #[.int .i64 s, .slice oa n c] := by rw [← hw0]; exact (Blk.new_at (by simp [hB])).alloc _
  have hO : Blk w0 (B + 1 + 1) 33 #[.int .i64 0, .slice none 0 0] := by rw [← hw0]; exact Blk.new_at (by simp [hB])
  have hB0 : Below w.heap.size w w0 := by rw [← hw0]; exact (((Below.refl _ w).alloc (Nat.le_refl _) _).alloc (by simp) _).alloc (by simp; omega) _
  have hc0 := hc.below hB0
  have HRP := Lib.hid (show ∀ e w', RP (s + 2 ^ j) (putM s (2 ^ j) ss r) w e w' = ∃ v, e = .returned (.agg #[.int .i64 ((s + 2 ^ j : Nat) : Int), v]) ∧ Own w' w.heap.size v (putM s (2 ^ j) ss r) ∧ Below w.heap.size w w' from fun _ _ => rfl)
  generalize RP (s + 2 ^ j) (putM s (2 ^ j) ss r) w = PO at *
  obtain ⟨F, hF⟩ : ∃ F, putM s (2 ^ j) ss r = F := ⟨_, rfl⟩
  rw [hF] at HRP
  have HF0 := Lib.hid (show putM s (2 ^ j) (ss.take n) r = F by rw [List.take_of_length_le (by omega)]; exact hF)
  obtain ⟨y, hy⟩ : ∃ y : Nat, s + 2 ^ j = y := ⟨_, rfl⟩
  have hyi : (s : Int) + ((2 ^ j : Nat) : Int) = (y : Int) := by omega
  have hy2 : y ≤ 2147483648 := by omega
  rw [hy] at HRP
  have HW0 := Lib.hid hw0
  have HZ := Lib.hid hz
  have HN := Lib.hid hn
  have HJ := Lib.hid hj
  obtain ⟨x0, hx0⟩ : ∃ x0 : Nat, 2 ^ j = x0 := ⟨_, rfl⟩
  rw [hx0] at HF0 hyi HJ ⊢
  have HX0 := Lib.hid hx0
  have k0 : ∀ q, (loadVar 3 ⟨B + 1, 0, none⟩).run Try.prog (w0.drewN q) = .ok (.int .i64 s) (w0.drewN q) := fun q => ld_int ((show Blk (w0.drewN q) (B + 1) 33 #[.int .i64 s, .slice oa n c] from hK).cell 0)
  have k1 : ∀ q, (loadVar 22 ⟨B + 1, 1, none⟩).run Try.prog (w0.drewN q) = .ok (.slice oa n c) (w0.drewN q) := fun q => ld_sl ((show Blk (w0.drewN q) (B + 1) 33 #[.int .i64 s, .slice oa n c] from hK).cell 1)
  clear hw0 hc hn hj hz hy hF hx0
  go_enter Try.func35, Try.ntmps35
  go_wp2_with (rw [HW0.out])
  go_quiet (fail)
  go_wp2
  have hS0 : Below w0.heap.size w0 (w0.drewN nq) := below_drewN (Below.refl _ _) nq
  clear k0 k1
  go_loopg [2, 3, 10] n (fun gh vx vr vl wr => ∃ (k i : Nat) (r' : ByteArray), Hid (k = gh) ∧ vx = .int .i64 ((2 ^ i : Nat) : Int) ∧ 2 ^ i ≤ 2147483648 ∧ vr = .string r' ∧ r'.size ≤ 1073741824 ∧ vl = .slice oa k c ∧ k ≤ n ∧ Hid (putM s (2 ^ i) (ss.take k) r' = F) ∧ Below w0.heap.size w0 wr)
  case atStart => exact ⟨n, j, r, Lib.hid rfl, by rw [HX0.out], by rw [HX0.out]; have := HJ.out; omega, rfl, hr, rfl, Nat.le_refl _, by rw [HX0.out]; exact HF0, hS0⟩
  case round =>
    obtain ⟨k, i, r', HGH, rfl, hi, rfl, hr', rfl, hkn, HP, hb⟩ := hrel
    clear hS0 HF0
    have hTr := hT.below hb hT.lt
    have hKr := hK.below hb hK.lt
    have hOr := hO.below hb hO.lt
    have hcr := hc0.below hb
    have hBr := hB0.trans (hb.mono hB0.size)
    have k0 := ld_int (hKr.cell 0)
    have hand := i64_and_n s (2 ^ i) (by omega) (by omega)
    have HLE := Lib.hid (@and_le s i)
    have HPN := Lib.hid (show 2 ^ (i + 1) = 2 * 2 ^ i by rw [Nat.pow_succ]; omega)
    obtain ⟨a0, ha0⟩ : ∃ a0, s &&& 2 ^ i = a0 := ⟨_, rfl⟩
    rw [ha0] at hand HLE
    have HA0 := Lib.hid ha0
    obtain ⟨x, hx⟩ : ∃ x, 2 ^ i = x := ⟨_, rfl⟩
    rw [hx] at HP hi hand HLE HPN HA0 ⊢
    have HX := Lib.hid hx
    clear ha0 hx
    by_cases ht : a0 ≠ 0 ∧ 0 < k
    · have ht1 : ((a0 : Int) != 0) = true := by rw [bne_iff_ne]; omega
      have ht2 : (0 : Int) < (k : Int) := by omega
      obtain ⟨q, hq⟩ : ∃ q, k = q + 1 := ⟨k - 1, by omega⟩
      have hkn' : q + 1 ≤ n := by omega
      have hxs := HLE.out ht.1
      obtain ⟨a, rfl, hab, hcell⟩ := hcr q (by have := HN.out; omega)
      have hEl := HZ.out.get q
      have HP' : Hid (putM s (2 ^ (i + 1)) (ss.take q) (nodM (ss.getD q ByteArray.empty) r') = F) := Lib.hid (by
        have e := HP.out
        rw [hq] at e
        rw [putM_on r' (by rw [HA0.out]; exact ht.1) (by rw [List.length_take, HN.out]; omega)] at e
        have h1 : cutM (ss.take (q + 1)) = ss.take q := by
          unfold cutM
          rw [List.length_take, HN.out, Nat.min_eq_left hkn', Nat.add_sub_cancel, List.take_take, Nat.min_eq_left (by omega)]
        have h2 : endM (ss.take (q + 1)) = ss.getD q ByteArray.empty := by
          unfold endM
          rw [List.length_take, HN.out, Nat.min_eq_left hkn', Nat.add_sub_cancel, List.getD_eq_getElem?_getD, List.getD_eq_getElem?_getD, List.getElem?_take, if_pos (by omega)]
        rw [h1, h2, ← HPN.out] at e
        exact e)
      have hns := nod_le (ss.getD q ByteArray.empty) r'
      generalize ss.getD q ByteArray.empty = X at *
      have HJN := Lib.hid (fun W => rjoin_any X r' hEl hr' W)
      generalize nodM X r' = R at *
      have HKP := Lib.hid (show ∀ W, Below wr.heap.size wr W → ((loadVar 29 ⟨B, 0, none⟩).run Try.prog W = .ok (.agg tabV) W ∧ (loadVar 9 (a.add q)).run Try.prog W = .ok (.string X) W) ∧ Below wr.heap.size wr W from fun W hW => ⟨⟨tab_run (hTr.below hW hTr.lt), txt_load ((hW.cell (by rw [add_block]; exact hab)).trans hcell)⟩, hW⟩)
      have hsl := slice_to (some a) k c q (by omega)
      have hq1 : (k : Int) - 1 = (q : Int) := by omega
      have hq2 : (q : Int) < (k : Int) := by omega
      have HQ := Lib.hid hq
      clear hTr hKr hOr hcr hcell hEl HP HLE HA0 ht hq
      go_wp2
      go_region_held3 (fun w' => ((loadVar 29 ⟨B, 0, none⟩).run Try.prog w' = .ok (.agg tabV) w' ∧ (loadVar 9 (a.add q)).run Try.prog w' = .ok (.string X) w') ∧ Below wr.heap.size wr w')
        ((refine HKP.out _ ?_; first | exact hB9' | exact (Below.refl _ _).drew | exact Below.refl _ _))
        (first | (go_at_call 33; refine (HJN.out _).mono ?_; rintro e w9 ⟨rfl, hb9⟩; have hB9' : Below wr.heap.size wr w9 := (Below.refl _ _).drew.trans hb9))
      have hb' := hb.trans (hB9'.mono hb.size)
      clear hB9' hb9 HKP hb hBr HJN k0
      rename_i hHeld
      clear hHeld
      go_wp2
      go_roundg q
      case measure => have := HGH.out; have := HQ.out; omega
      case rel => exact ⟨q, i + 1, R, Lib.hid rfl, by rw [HPN.out]; go_num, by rw [HPN.out]; omega, rfl, hns, rfl, by omega, HP', hb'⟩
    · have HE : Hid (ss.take k ++ [r'] = F) := Lib.hid (by
        have e := HP.out
        rw [putM_off r' (by rw [HA0.out, List.length_take, HN.out]; intro h; exact ht ⟨h.1, by omega⟩)] at e
        exact e)
      have HTK := Lib.hid (show (ss.take k).length = k by rw [List.length_take, HN.out]; omega)
      obtain ⟨w1, hw1⟩ : ∃ w1, wr.alloc (.cells #[.string r'] 9) = w1 := ⟨_, rfl⟩
      obtain ⟨w2, hw2⟩ : ∃ w2, w1.alloc (.cells #[.slice oa k c, .slice (some ⟨wr.heap.size, 0, none⟩) 1 1] 22) = w2 := ⟨_, rfl⟩
      have hb1 : Below wr.heap.size wr w1 := by rw [← hw1]; exact (Below.refl _ _).alloc (Nat.le_refl _) _
      have hb2 : Below wr.heap.size wr w2 := by rw [← hw2]; exact hb1.alloc hb1.size _
      have hk1 : Blk w1 wr.heap.size 9 #[.string r'] := by rw [← hw1]; exact Blk.new _ _ _
      have hk2 : Blk w2 wr.heap.size 9 #[.string r'] := by rw [← hw2]; exact hk1.alloc _
      have hk3 : Blk w2 w1.heap.size 22 #[.slice oa k c, .slice (some ⟨wr.heap.size, 0, none⟩) 1 1] := by rw [← hw2]; exact Blk.new _ _ _
      have HC := Lib.hid (concat_any w1.heap.size oa (some ⟨wr.heap.size, 0, none⟩) k c 1 1 (ss.take k) [r'] HTK.out rfl (by omega) (by omega) (fun h => by have := hna h; omega) (fun h => by cases h) w2 hk3.lt (hk3.cell 0) (hk3.cell 1) ((hcr.below hb2).take k) (by
        intro i hi
        have hi1 : i < 1 := hi
        obtain rfl : i = 0 := by omega
        exact ⟨_, rfl, hk2.lt, hk2.cell 0⟩))
      rw [HE.out] at HC
      have hO2 := hOr.below hb2 hOr.lt
      have hB2 := hBr.trans (hb2.mono hBr.size)
      have HW1 := Lib.hid hw1
      have HW2 := Lib.hid hw2
      have ht' : ((a0 : Int) != 0) = false ∨ (((a0 : Int) != 0) = true ∧ ¬ (0 : Int) < (k : Int)) := by
        by_cases h : a0 = 0
        · left; rw [h]; rfl
        · right; exact ⟨by rw [bne_iff_ne]; omega, by omega⟩
      clear hw1 hw2 hk1 hk2 hk3 hTr hKr hOr hcr HP HLE HA0 hb1 hb2 hb hBr HE ht
      rcases ht' with h0 | ⟨h0, h1⟩
      · go_wp2_with (first | rw [HW1.out] | rw [HW2.out])
        refine HC.out.mono ?_
        rintro e w3 ⟨v, rfl, hv, hb3⟩
        obtain ⟨ov, capv, rfl, _⟩ := hv.formd
        have hO3 := hO2.below hb3 hO2.lt
        have hB3 := hB2.trans (hb3.mono hB2.size)
        have hlt2 := hO2.lt
        have s0 : w3.cell? ⟨B + 1 + 1, 0, none⟩ = some (.int .i64 0) := hO3.cell 0
        have s1 : w3.cell? ⟨B + 1 + 1, 1, none⟩ = some (.slice none 0 0) := hO3.cell 1
        have f0 := hO3.frozen 0
        have f1 := hO3.frozen 1
        have hown := own_far (own_far hv (p := ⟨B + 1 + 1, 0, none⟩) hlt2 (.int .i64 y)) (p := ⟨B + 1 + 1, 1, none⟩) hlt2 (.slice ov F.length capv)
        have HOW := Lib.hid (hown.mono hB2.size)
        have HBW := Lib.hid ((hB3.setCell (p := ⟨B + 1 + 1, 0, none⟩) (by show w.heap.size ≤ B + 1 + 1; omega) (.int .i64 y)).setCell (p := ⟨B + 1 + 1, 1, none⟩) (by show w.heap.size ≤ B + 1 + 1; omega) (.slice ov F.length capv))
        have HRES := Lib.hid ((hO3.set_ 0 (.int .i64 y)).set_ 1 (.slice ov F.length capv))
        clear hb3 HC hO2 hv hown
        go_wp2
        refine bodyPost_ret (results_cell_row rfl _ _ (B + 1 + 1) 33 #[.int .i64 y, .slice ov F.length capv] (0, 0) _ rfl HRES.out Try.underlying33 rfl infoRange) rfl ?_
        rw [HRP.out]
        exact ⟨_, rfl, HOW.out, HBW.out⟩
      · go_wp2_with (first | rw [HW1.out] | rw [HW2.out])
        refine HC.out.mono ?_
        rintro e w3 ⟨v, rfl, hv, hb3⟩
        obtain ⟨ov, capv, rfl, _⟩ := hv.formd
        have hO3 := hO2.below hb3 hO2.lt
        have hB3 := hB2.trans (hb3.mono hB2.size)
        have hlt2 := hO2.lt
        have s0 : w3.cell? ⟨B + 1 + 1, 0, none⟩ = some (.int .i64 0) := hO3.cell 0
        have s1 : w3.cell? ⟨B + 1 + 1, 1, none⟩ = some (.slice none 0 0) := hO3.cell 1
        have f0 := hO3.frozen 0
        have f1 := hO3.frozen 1
        have hown := own_far (own_far hv (p := ⟨B + 1 + 1, 0, none⟩) hlt2 (.int .i64 y)) (p := ⟨B + 1 + 1, 1, none⟩) hlt2 (.slice ov F.length capv)
        have HOW := Lib.hid (hown.mono hB2.size)
        have HBW := Lib.hid ((hB3.setCell (p := ⟨B + 1 + 1, 0, none⟩) (by show w.heap.size ≤ B + 1 + 1; omega) (.int .i64 y)).setCell (p := ⟨B + 1 + 1, 1, none⟩) (by show w.heap.size ≤ B + 1 + 1; omega) (.slice ov F.length capv))
        have HRES := Lib.hid ((hO3.set_ 0 (.int .i64 y)).set_ 1 (.slice ov F.length capv))
        clear hb3 HC hO2 hv hown
        go_wp2
        refine bodyPost_ret (results_cell_row rfl _ _ (B + 1 + 1) 33 #[.int .i64 y, .slice ov F.length capv] (0, 0) _ rfl HRES.out Try.underlying33 rfl infoRange) rfl ?_
        rw [HRP.out]
        exact ⟨_, rfl, HOW.out, HBW.out⟩
set_option maxRecDepth 100000 in
set_option maxHeartbeats 1000000 in
/-- Add: one leaf more -/
theorem add_any (s : Nat) (hs : s ≤ 1073741824) (oa : Option Addr) (n c : Nat) (ss : List ByteArray) (r : ByteArray) (hn : ss.length = n) (hn2 : n ≤ 1000) (hcap : n ≤ c) (hna : oa = none → n = 0 ∧ c = 0) (hz : Sz ss) (hr : r.size ≤ 1073741824) (w : World) (hc : Strs w oa ss) :
    Calls Try.prog 18 #[.agg tabV, .agg #[.int .i64 s, .slice oa n c], .string r] w (RP (s + 1) (putM s 1 ss r) w) := by
  obtain ⟨B, hB⟩ : ∃ B, w.heap.size = B := ⟨_, rfl⟩
  obtain ⟨w0, hw0⟩ : ∃ w0, ((w.alloc (.cells tabV 29)).alloc (.cells #[.int .i64 s, .slice oa n c] 33)).alloc (.cells #[.int .i64 0, .slice none 0 0] 33) = w0 := ⟨_, rfl⟩
  have hT : Blk w0 B 29 tabV := by rw [← hw0, ← hB]; exact ((Blk.new _ _ _).alloc _).alloc _
  have hK : Blk w0 (B + 1) 33 #[.int .i64 s, .slice oa n c] := by rw [← hw0]; exact (Blk.new_at (by simp [hB])).alloc _
  have hO : Blk w0 (B + 1 + 1) 33 #[.int .i64 0, .slice none 0 0] := by rw [← hw0]; exact Blk.new_at (by simp [hB])
  have hB0 : Below w.heap.size w w0 := by rw [← hw0]; exact (((Below.refl _ w).alloc (Nat.le_refl _) _).alloc (by simp) _).alloc (by simp; omega) _
  have hc0 := hc.below hB0
  have HRP := Lib.hid (show ∀ e w', RP (s + 1) (putM s 1 ss r) w e w' = ∃ v, e = .returned (.agg #[.int .i64 ((s + 1 : Nat) : Int), v]) ∧ Own w' w.heap.size v (putM s 1 ss r) ∧ Below w.heap.size w w' from fun _ _ => rfl)
  have HP : Hid (Calls Try.prog 35 #[.agg tabV, .agg #[.int .i64 s, .slice oa n c], .int .i64 1, .string r] w0 (RP (s + 1) (putM s 1 ss r) w0)) := Lib.hid (put_any s 0 hs (by decide) oa n c ss r hn hn2 hcap hna hz hr w0 hc0)
  generalize RP (s + 1) (putM s 1 ss r) w = PO at *
  generalize putM s 1 ss r = F at *
  have HW0 := Lib.hid hw0
  have hT1 := tab_run hT
  have hK1 := ld_rng hK
  clear hw0 hc hn hz
  go_enter Try.func18, Try.ntmps18
  go_wp2_with (rw [HW0.out])
  refine HP.out.mono ?_
  rintro e w3 ⟨v, rfl, hv, hb3⟩
  obtain ⟨ov, capv, rfl, _⟩ := hv.formd
  have hO3 := hO.below hb3 hO.lt
  have hB3 := hB0.trans (hb3.mono hB0.size)
  have hlt2 := hO.lt
  have s0 : w3.cell? ⟨B + 1 + 1, 0, none⟩ = some (.int .i64 0) := hO3.cell 0
  have s1 : w3.cell? ⟨B + 1 + 1, 1, none⟩ = some (.slice none 0 0) := hO3.cell 1
  have f0 := hO3.frozen 0
  have f1 := hO3.frozen 1
  obtain ⟨y, hy⟩ : ∃ y : Nat, s + 1 = y := ⟨_, rfl⟩
  rw [hy] at HRP ⊢
  have hown := own_far (own_far hv (p := ⟨B + 1 + 1, 0, none⟩) hlt2 (.int .i64 y)) (p := ⟨B + 1 + 1, 1, none⟩) hlt2 (.slice ov F.length capv)
  have HOW := Lib.hid (hown.mono hB0.size)
  have HBW := Lib.hid ((hB3.setCell (p := ⟨B + 1 + 1, 0, none⟩) (by show w.heap.size ≤ B + 1 + 1; omega) (.int .i64 y)).setCell (p := ⟨B + 1 + 1, 1, none⟩) (by show w.heap.size ≤ B + 1 + 1; omega) (.slice ov F.length capv))
  have HRES := Lib.hid ((hO3.set_ 0 (.int .i64 y)).set_ 1 (.slice ov F.length capv))
  clear hb3 HP hO hv hown hy hT1 hK1
  go_wp2
  refine bodyPost_ret (results_cell_row rfl _ _ (B + 1 + 1) 33 #[.int .i64 y, .slice ov F.length capv] (0, 0) _ rfl HRES.out Try.underlying33 rfl infoRange) rfl ?_
  rw [HRP.out]
  exact ⟨_, rfl, HOW.out, HBW.out⟩
end
end Go.Proofs.Ytmokkahkfmmnmaa

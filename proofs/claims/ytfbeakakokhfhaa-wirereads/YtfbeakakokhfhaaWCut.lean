/-
  What is read is cut off by a closure: cutter, cutNumber, cutText.
-/
import Derived.Test.YtfbeakakokhfhaaWNum
namespace Go.Proofs.Ytfbeakakokhfhaa
open Go.RowKit

/-- what is cut off, n bytes, and what is left -/
def cutF (n : Int) (s : ByteArray) : ByteArray := if 0 ≤ n ∧ n ≤ s.size then s.extract 0 n.toNat else ⟨#[]⟩
def cutR (n : Int) (s : ByteArray) : ByteArray := if 0 ≤ n ∧ n ≤ s.size then s.extract n.toNat s.size else s
/-- the reader's state: block g holds what is not read yet -/
def Cut (w : World) (g : Nat) (s : ByteArray) : Prop := Blk w g 9 #[.string s]

set_option maxHeartbeats 400000 in
theorem cut_no (n : Int) (g : Nat) (s : ByteArray) (hs : s.size ≤ 9223372036854775807) (hn : n < 0 ∨ (s.size : Int) < n) (w : World) (h : Cut w g s) :
    Calls Try.prog 32 #[.int .i64 n, .pointer (some ⟨g, 0, none⟩)] w fun e w' => e = .returned (.string ⟨#[]⟩) ∧ w = w' := by
  have hc : w.cell? ⟨g, 0, none⟩ = some (.string s) := h.cell 0
  rcases hn with hn | hn
  · go_enter Try.func32, Try.ntmps32
    go_wp2
    go_ret
    exact ⟨rfl, rfl⟩
  · have hn0 : ¬ n < 0 := by omega
    go_enter Try.func32, Try.ntmps32
    go_wp2
    go_ret
    exact ⟨rfl, rfl⟩
set_option maxHeartbeats 400000 in
theorem cut_yes (n : Nat) (g : Nat) (s : ByteArray) (hs : s.size ≤ 9223372036854775807) (hn : n ≤ s.size) (w : World) (h : Cut w g s) :
    Calls Try.prog 32 #[.int .i64 n, .pointer (some ⟨g, 0, none⟩)] w fun e w' => e = .returned (.string (s.extract 0 n)) ∧ w.setCell ⟨g, 0, none⟩ (.string (s.extract n s.size)) = w' := by
  have hc : w.cell? ⟨g, 0, none⟩ = some (.string s) := h.cell 0
  have hf := h.frozen 0
  have hn' : ¬ (s.size : Int) < (n : Int) := by omega
  go_enter Try.func32, Try.ntmps32
  go_wp2
  go_ret
  exact ⟨rfl, rfl⟩
theorem Cut.lt {w : World} {g : Nat} {s : ByteArray} (h : Cut w g s) : g < w.heap.size := Blk.lt h
theorem Cut.below {w w' : World} {g : Nat} {s : ByteArray} (h : Cut w g s) (hb : Below w.heap.size w w') : Cut w' g s := Blk.below h hb h.lt
theorem only_set {a w : World} {g : Nat} (h : a.grownBy w (some g)) (o : Nat) (u : Value) : a.grownBy (w.setCell ⟨g, o, none⟩ u) (some g) :=
  ⟨h.os, h.tape, h.output, by simpa [World.setCell] using h.size, fun i hi hne => (Below.heap_setCell w ⟨g, o, none⟩ u i (by rintro rfl; exact hne rfl)).trans (h.block i hi hne)⟩
theorem only_refl (w : World) (g : Nat) : w.grownBy w (some g) := World.grownBy.refl _ _
theorem only_then {a b c : World} {g : Nat} (h : a.grownBy b (some g)) (k : Below b.heap.size b c) : a.grownBy c (some g) :=
  ⟨k.os.trans h.os, k.tape.trans h.tape, k.output.trans h.output, Nat.le_trans h.size k.size, fun i hi hne => (k.block i (Nat.lt_of_lt_of_le hi h.size)).trans (h.block i hi hne)⟩
theorem cut_any (n : Int) (g : Nat) (s : ByteArray) (hs : s.size ≤ 9223372036854775807) (w : World) (h : Cut w g s) :
    Calls Try.prog 32 #[.int .i64 n, .pointer (some ⟨g, 0, none⟩)] w fun e w' => e = .returned (.string (cutF n s)) ∧ Cut w' g (cutR n s) ∧ w.grownBy w' (some g) := by
  unfold cutF cutR
  by_cases hn : 0 ≤ n ∧ n ≤ s.size
  · rw [if_pos hn, if_pos hn]
    obtain ⟨k, rfl⟩ : ∃ k : Nat, n = k := ⟨n.toNat, by omega⟩
    refine (cut_yes k g s hs (by omega) w h).mono ?_
    rintro e w' ⟨rfl, rfl⟩
    exact ⟨rfl, Blk.set_ h 0 _, only_set (only_refl w g) 0 _⟩
  · rw [if_neg hn, if_neg hn]
    refine (cut_no n g s hs (by omega) w h).mono ?_
    rintro e w' ⟨rfl, rfl⟩
    exact ⟨rfl, h, only_refl w g⟩
theorem cutF_size (n : Int) (s : ByteArray) : (cutF n s).size ≤ s.size := by
  unfold cutF
  split
  · rw [ByteArray.size_extract]; omega
  · exact Nat.zero_le _
theorem cutR_size (n : Int) (s : ByteArray) : (cutR n s).size ≤ s.size := by
  unfold cutR
  split
  · rw [ByteArray.size_extract]; omega
  · exact Nat.le_refl _
theorem cutF4 (s : ByteArray) : (cutF 4 s).size = 4 ∨ (cutF 4 s).size = 0 := by
  unfold cutF
  split
  · rw [ByteArray.size_extract]; omega
  · exact .inr rfl

set_option maxHeartbeats 400000 in
theorem cutter_any (s : ByteArray) (w : World) :
    Calls Try.prog 25 #[.string s] w fun e w' => e = .returned (.func (.func 32) #[] #[.pointer (some ⟨w.heap.size, 0, none⟩)]) ∧ Cut w' w.heap.size s ∧ Below w.heap.size w w' := by
  go_enter Try.func25, Try.ntmps25
  go_wp2
  go_ret
  exact ⟨rfl, Blk.new w _ _, (Below.refl _ w).alloc (Nat.le_refl _) _⟩

/-- bytes as a number, the greatest first -/
def beV (l : List Nat) : Nat := l.foldl (fun a b => a * 256 + b) 0
def numV (s : ByteArray) : Nat := beV (nums s)
theorem beV_snoc (l : List Nat) (x : Nat) : beV (l ++ [x]) = beV l * 256 + x := by simp [beV]
theorem beV_lt (l : List Nat) (h : ∀ x ∈ l, x < 256) : beV l < 256 ^ l.length := by
  have key : ∀ (l : List Nat) (a : Nat), (∀ x ∈ l, x < 256) → l.foldl (fun a b => a * 256 + b) a < (a + 1) * 256 ^ l.length := by
    intro l
    induction l with
    | nil => intro a _; simp
    | cons x r ih =>
      intro a hx
      have h1 := ih (a * 256 + x) (fun y hy => hx y (by simp [hy]))
      have h2 := hx x (by simp)
      rw [List.foldl_cons, List.length_cons, Nat.pow_succ]
      refine Nat.lt_of_lt_of_le h1 ?_
      rw [Nat.mul_comm (256 ^ r.length) 256, ← Nat.mul_assoc]
      exact Nat.mul_le_mul_right _ (by omega)
  have := key l 0 h
  simpa [beV] using this
theorem beV_take_lt (x : ByteArray) (k : Nat) (hk : k ≤ 3) : beV ((nums x).take k) < 16777216 := by
  have h1 := beV_lt ((nums x).take k) (fun y hy => nums_lt x y (List.mem_of_mem_take hy))
  refine Nat.lt_of_lt_of_le h1 ?_
  show _ ≤ 256 ^ 3
  exact Nat.pow_le_pow_right (by decide) (by rw [List.length_take]; omega)

theorem nat_or_low (v b : Nat) (hb : b < 256) : (v * 256) ||| b = v * 256 + b := by
  have := Nat.shiftLeft_add_eq_or_of_lt (i := 8) (show b < 2 ^ 8 from hb) v
  rw [Nat.shiftLeft_eq] at this
  exact this.symm
theorem or_low (v b : Nat) (hv : v < 16777216) (hb : b < 256) : bits .or .i64 ((v : Int) * 256) (b : Int) = ((v * 256 + b : Nat) : Int) := by
  have e : (v : Int) * 256 = ((v * 256 : Nat) : Int) := by omega
  have hx : ∀ a : Nat, a < 9223372036854775808 → (BitVec.ofInt 64 (a : Int)).toNat = a := fun a ha => by
    rw [BitVec.ofInt_natCast, BitVec.toNat_ofNat]
    exact Nat.mod_eq_of_lt (by omega)
  rw [e]
  show IntKind.i64.wrap ((BitVec.ofInt 64 ((v * 256 : Nat) : Int) ||| BitVec.ofInt 64 (b : Int)).toNat : Int) = _
  rw [BitVec.toNat_or, hx _ (by omega), hx _ (by omega), nat_or_low v b hb, IntKind.wrap_i64]
  omega

set_option maxRecDepth 100000 in
set_option maxHeartbeats 1000000 in
theorem cutNumber_any (g : Nat) (s : ByteArray) (hs : s.size ≤ 9223372036854775807) (w : World) (h : Cut w g s) :
    Calls Try.prog 26 #[.func (.func 32) #[] #[.pointer (some ⟨g, 0, none⟩)]] w fun e w' => e = .returned (.int .i64 (numV (cutF 4 s) : Nat)) ∧ Cut w' g (cutR 4 s) ∧ w.grownBy w' (some g) := by
  have HC := Lib.hid (fun W hW => cut_any 4 g s hs W hW)
  have h4 := cutF4 s
  obtain ⟨x, hx⟩ : ∃ x, cutF 4 s = x := ⟨_, rfl⟩
  obtain ⟨r, hr⟩ : ∃ r, cutR 4 s = r := ⟨_, rfl⟩
  rw [hx, hr] at HC
  rw [hx] at h4 ⊢
  rw [hr]
  clear hx hr
  go_enter Try.func26, Try.ntmps26
  go_wp2_with fail
  refine (HC.out _ h).mono ?_
  rintro e w1 ⟨rfl, hc1, hg1⟩
  obtain ⟨w2, cap, hrun, hrow, hB2⟩ := run_bytes_brow (P := Try.prog) w1 9 49 5 x Try.underlying9 Try.underlying49 Try.underlying5
  have hc2 := hc1.below hB2
  have hg2 := only_then hg1 hB2
  have HN := Lib.hid (nums_length x)
  have hx4 : x.size ≤ 4 := by omega
  have HR := Lib.hid hrow
  have HX := Lib.hid h4
  generalize w1.heap.size = gb at *
  clear hc1 hg1 hB2 h h4 hrow
  go_wp2
  clear hrun
  go_loop [3, 10] (fun t i => ∃ k : Nat, k ≤ x.size ∧ i = .int .i64 k ∧ t = .int .i64 (beV ((nums x).take k) : Nat)) (fun _ i => x.size - (intOf i).toNat)
  case atStart => exact ⟨0, by omega, rfl, rfl⟩
  case round =>
    obtain ⟨k, hk, rfl, rfl⟩ := hrel
    by_cases hlt : k < x.size
    · have hlt' : (k : Int) < (x.size : Int) := by omega
      have hv := beV_take_lt x k (by omega)
      have hcell := HR.out.cells k (by rw [HN.out]; exact hlt)
      have HT := Lib.hid (show beV ((nums x).take (k + 1)) = beV ((nums x).take k) * 256 + (nums x).getD k 0 by
        rw [List.take_succ_eq_append_getElem (by rw [HN.out]; exact hlt), beV_snoc]
        congr 1
        rw [List.getD_eq_getElem?_getD, List.getElem?_eq_getElem (by rw [HN.out]; exact hlt)]
        rfl)
      have hb : (nums x).getD k 0 < 256 := by
        rw [List.getD_eq_getElem?_getD, List.getElem?_eq_getElem (by rw [HN.out]; exact hlt)]
        exact nums_lt x _ (List.getElem_mem _)
      unfold U8 at hcell
      generalize (nums x).getD k 0 = b at *
      obtain ⟨V, hV⟩ : ∃ V, beV ((nums x).take k) = V := ⟨_, rfl⟩
      rw [hV] at hv HT ⊢
      clear hV
      have HO := Lib.hid (or_low V b hv hb)
      go_wp2
      go_round
      case rel => exact ⟨k + 1, by omega, by go_num, by rw [HO.out, HT.out]⟩
      case measure => simp [intOf]; omega
    · have hkx : k = x.size := by omega
      have HF := Lib.hid (show beV ((nums x).take k) = numV x by
        unfold numV
        rw [List.take_of_length_le (by rw [HN.out]; omega)])
      have hge : ¬ (k : Int) < (x.size : Int) := by omega
      clear hlt hkx
      rw [HF.out]
      go_wp2
      go_ret
      exact ⟨rfl, hc2, hg2⟩

set_option maxRecDepth 100000 in
set_option maxHeartbeats 400000 in
theorem cutText_any (g : Nat) (s : ByteArray) (hs : s.size ≤ 9223372036854775807) (w : World) (h : Cut w g s) :
    Calls Try.prog 27 #[.func (.func 32) #[] #[.pointer (some ⟨g, 0, none⟩)]] w fun e w' => e = .returned (.string (cutF (numV (cutF 4 s) : Nat) (cutR 4 s))) ∧ Cut w' g (cutR (numV (cutF 4 s) : Nat) (cutR 4 s)) ∧ w.grownBy w' (some g) := by
  have HN := Lib.hid (fun W hW => cutNumber_any g s hs W hW)
  have hr := cutR_size 4 s
  generalize numV (cutF 4 s) = n at *
  generalize cutR 4 s = r at *
  have HC := Lib.hid (fun W hW => cut_any (n : Int) g r (by omega) W hW)
  generalize cutF (n : Int) r = x at *
  generalize cutR (n : Int) r = y at *
  go_enter Try.func27, Try.ntmps27
  go_wp2_with fail
  refine (HN.out _ h).mono ?_
  rintro e w1 ⟨rfl, hc1, hg1⟩
  go_wp2_with fail
  refine (HC.out _ hc1).mono ?_
  rintro e w2 ⟨rfl, hc2, hg2⟩
  have hg3 := only_trans hg1 hg2
  go_wp2
  go_ret
  exact ⟨rfl, hc2, hg3⟩
end Go.Proofs.Ytfbeakakokhfhaa

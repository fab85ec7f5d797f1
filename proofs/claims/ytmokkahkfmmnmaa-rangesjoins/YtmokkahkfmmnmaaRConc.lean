/-
  slices.Concat of two slices of texts; slices.Clone; a join of two roots.
-/
import Derived.Test.YtmokkahkfmmnmaaRCat
namespace Go.Proofs.Ytmokkahkfmmnmaa
open Go.RowKit

theorem own_below2 {w a b : World} {v : Value} {B : Nat} {ss : List ByteArray} (h : Below w.heap.size w a) (hv : Own a B v ss) (hB : w.heap.size ≤ B) (hg : a.grownBy b v.ownBlock) : Below w.heap.size w b :=
  h.grown hg h.size (fun k hk => Nat.le_trans hB (World.ownsRow.lt hv k hk).1)
set_option maxRecDepth 100000 in
set_option maxHeartbeats 2000000 in
theorem concat_any (g : Nat) (oa ob : Option Addr) (n c m c' : Nat) (ts us : List ByteArray) (hn : ts.length = n) (hm : us.length = m) (h1 : 1 ≤ n + m) (hlen : n + m ≤ 1048576) (hna : oa = none → n = 0 ∧ c = 0) (hnb : ob = none → m = 0 ∧ c' = 0) (w : World) (hg : g < w.heap.size)
    (hc0 : w.cell? ⟨g, 0, none⟩ = some (.slice oa n c)) (hc1 : w.cell? ⟨g, 1, none⟩ = some (.slice ob m c')) (ha : Strs w oa ts) (hb : Strs w ob us) :
    Calls Try.prog 50 #[.slice (some ⟨g, 0, none⟩) 2 2] w (RT (ts ++ us) w) := by
  have HRT := Lib.hid (show ∀ e w', RT (ts ++ us) w e w' = ∃ v, e = .returned v ∧ Own w' w.heap.size v (ts ++ us) ∧ Below w.heap.size w w' from fun _ _ => rfl)
  have HG := Lib.hid (fun W => grow_any (n + m) h1 hlen W)
  rw [show ((n + m : Nat) : Int) = (n : Int) + (m : Int) by omega] at HG
  have HA := Lib.hid ha
  have HB := Lib.hid hb
  have HN := Lib.hid hn
  have HM := Lib.hid hm
  have HNA := Lib.hid hna
  have HNB := Lib.hid hnb
  generalize RT (ts ++ us) w = PO at *
  clear ha hb hn hm hna hnb
  go_enter Try.func50, Try.ntmps50
  go_wp2
  go_loop [3, 11] (fun s i => (i = .int .i64 0 ∧ s = .int .i64 0) ∨ (i = .int .i64 1 ∧ s = .int .i64 n) ∨ (i = .int .i64 2 ∧ s = .int .i64 ((n : Int) + (m : Int)))) (fun _ i => 2 - (intOf i).toNat)
  case atStart => exact .inl ⟨rfl, rfl⟩
  case round =>
    rcases hrel with ⟨rfl, rfl⟩ | ⟨rfl, rfl⟩ | ⟨rfl, rfl⟩
    · clear HG
      go_wp2
      go_round
      case rel => exact .inr (.inl ⟨rfl, by go_num⟩)
      case measure => simp [intOf]
    · clear HG
      go_wp2
      go_round
      case rel => exact .inr (.inr ⟨rfl, by go_num⟩)
      case measure => simp [intOf]
    · go_wp2_with fail
      refine (HG.out _).mono ?_
      rintro e w1 ⟨v1, rfl, hv1, _, hb1⟩
      clear HG
      go_wp2
      go_loopw [6, 27] (fun v i wr => ((i = .int .i64 0 ∧ Own wr w.heap.size v []) ∨ (i = .int .i64 1 ∧ Own wr w.heap.size v ts) ∨ (i = .int .i64 2 ∧ Own wr w.heap.size v (ts ++ us))) ∧ Below w.heap.size w wr) (fun _ i _ => 2 - (intOf i).toNat)
      case atStart => exact ⟨.inl ⟨rfl, hv1⟩, hb1⟩
      case round =>
        obtain ⟨hr0, hB⟩ := hrel
        clear hv1 hb1
        rcases hr0 with ⟨rfl, hown⟩ | ⟨rfl, hown⟩ | ⟨rfl, hown⟩
        · obtain ⟨v', w', hr, hown', hg', _⟩ := append_strs hown oa n c HN.out (HA.out.below hB) HNA.out (by simp; omega) hB.size
          have hB' := own_below2 hB hown (Nat.le_refl _) hg'
          have d0 : wr.cell? ⟨g, 0, none⟩ = some (.slice oa n c) := (hB.cell (p := ⟨g, 0, none⟩) hg).trans hc0
          clear hg' hown
          go_wp2_with (at_builtin; refine Lib.wpList_append_run _ rfl _ _ 22 22 rfl _ _ rfl rfl _ _ hr ?_)
          go_wp2
          go_roundw
          case rel => exact ⟨.inr (.inl ⟨rfl, by simpa using hown'⟩), hB'⟩
          case measure => simp [intOf]
        · obtain ⟨v', w', hr, hown', hg', _⟩ := append_strs hown ob m c' HM.out (HB.out.below hB) HNB.out (by rw [HN.out]; omega) hB.size
          have hB' := own_below2 hB hown (Nat.le_refl _) hg'
          have d1 : wr.cell? ⟨g, 1, none⟩ = some (.slice ob m c') := (hB.cell (p := ⟨g, 1, none⟩) hg).trans hc1
          clear hg' hown
          go_wp2_with (at_builtin; refine Lib.wpList_append_run _ rfl _ _ 22 22 rfl _ _ rfl rfl _ _ hr ?_)
          go_wp2
          go_roundw
          case rel => exact ⟨.inr (.inr ⟨rfl, hown'⟩), hB'⟩
          case measure => simp [intOf]
        · go_wp2
          rw [HRT.out]
          exact ⟨_, rfl, hown, hB⟩
set_option maxRecDepth 100000 in
set_option maxHeartbeats 1000000 in
theorem clone_any (oa : Option Addr) (n c : Nat) (ts : List ByteArray) (hn : ts.length = n) (hlen : n ≤ 1048576) (hna : oa = none → n = 0 ∧ c = 0) (w : World) (ha : Strs w oa ts) :
    Calls Try.prog 40 #[.slice oa n c] w (RT ts w) := by
  have q : ∀ (W : World) (a : Option Addr) (n c n' c' : Nat), (binOp .eql 22 (.slice a n c) (.slice none n' c')).run Try.prog W = .ok (.bool a.isNone) W := fun W a n c n' c' => Lib.run_eql_slice_nil W _ _ a n c n' c' Try.underlying22
  have HRT := Lib.hid (show ∀ e w', RT ts w e w' = ∃ v, e = .returned v ∧ Own w' w.heap.size v ts ∧ Below w.heap.size w w' from fun _ _ => rfl)
  cases oa with
  | none =>
    obtain ⟨rfl, rfl⟩ := hna rfl
    obtain rfl : ts = [] := List.length_eq_zero_iff.1 hn
    generalize RT [] w = PO at *
    go_enter Try.func40, Try.ntmps40
    go_wp2
    rw [HRT.out]
    exact ⟨_, rfl, own_nil _ _, Below.refl _ _⟩
  | some a =>
    have hm0 : Own (w.alloc (.cells #[] 9)) w.heap.size (.slice (some ⟨w.heap.size, 0, none⟩) 0 0) [] := World.ownsRow_made w #[] 0 (Nat.le_refl _) (by unfold maxLen; omega) rfl
    have hB0 := (Below.refl _ w).alloc (Nat.le_refl _) (.cells #[] 9)
    obtain ⟨v', w', hr, hown', hg', _⟩ := append_strs hm0 (some a) n c hn (ha.below hB0) (fun h => by cases h) (by simp; omega) (by simp)
    have hB' := own_below2 hB0 hm0 (Nat.le_refl _) hg'
    have HO := Lib.hid hown'
    generalize RT ts w = PO at *
    clear hown' hg' hm0
    go_enter Try.func40, Try.ntmps40
    go_wp2_with (at_builtin; refine Lib.wpList_append_run _ rfl _ _ 22 22 rfl _ _ rfl rfl _ _ hr ?_)
    go_wp2
    rw [HRT.out]
    exact ⟨_, rfl, by simpa using HO.out, hB'⟩
theorem rootM_pair (l r : ByteArray) : rootM [l, r] = nodM l r := by
  rw [rootM_more (show 2 ≤ [l, r].length from Nat.le_refl 2), show kM [l, r].length = 1 from (by decide : kM 2 = 1), rootM_one rfl, rootM_one rfl]
  rfl
section
attribute [-go_sem] loadVar
set_option maxRecDepth 100000 in
set_option maxHeartbeats 1000000 in
theorem rjoin_any (l r : ByteArray) (hl : l.size ≤ 1073741824) (hr : r.size ≤ 1073741824) (w : World) :
    Calls Try.prog 33 #[.agg tabV, .string l, .string r] w fun e w' => e = .returned (.string (nodM l r)) ∧ Below w.heap.size w w' := by
  obtain ⟨w1, hw1⟩ : ∃ w1, w.alloc (.cells tabV 29) = w1 := ⟨_, rfl⟩
  have hB1 : Below w.heap.size w w1 := by rw [← hw1]; exact (Below.refl _ w).alloc (Nat.le_refl _) _
  have hT : Blk w1 w.heap.size 29 tabV := by rw [← hw1]; exact Blk.new _ _ _
  have hR1 := tab_run hT
  obtain ⟨w2, hw2⟩ : ∃ w2, w1.alloc (.cells #[.string l, .string r] 9) = w2 := ⟨_, rfl⟩
  have hB2 : Below w.heap.size w w2 := by rw [← hw2]; exact hB1.alloc hB1.size _
  have hK : Blk w2 w1.heap.size 9 #[.string l, .string r] := by rw [← hw2]; exact Blk.new _ _ _
  have HM := Lib.hid (mroot_any 2 (some ⟨w1.heap.size, 0, none⟩) 2 [l, r] rfl (by decide) (by decide) (by intro x hx; simp at hx; rcases hx with rfl | rfl <;> assumption) w2 (by
    intro i hi
    refine ⟨_, rfl, hK.lt, ?_⟩
    rw [addr_add, Nat.zero_add, hK.cell]
    have hi2 : i < 2 := hi
    rcases (by omega : i = 0 ∨ i = 1) with rfl | rfl <;> rfl))
  rw [rootM_pair] at HM
  have HW1 := Lib.hid hw1
  have HW2 := Lib.hid hw2
  generalize nodM l r = R at *
  clear hw1 hw2 hK hT
  go_enter Try.func33, Try.ntmps33
  go_wp2_with (first | rw [HW1.out] | rw [HW2.out])
  refine HM.out.mono ?_
  rintro e w3 ⟨rfl, hb3⟩
  have hB3 := hB2.trans (hb3.mono hB2.size)
  go_wp2
  go_ret
  exact ⟨rfl, hB3⟩
end
end Go.Proofs.Ytmokkahkfmmnmaa

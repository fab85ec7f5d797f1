/-
Layer 8: slices.Concat of two slices of texts (out of layer 6's texts).
-/
import Derived.Test.YtfhfmfcmkiobdaaTxt
import Derived.Test.YtfhfmfcmkiobdaaCRef
import Derived.Lib.AppendZerosOnto
namespace Go.Proofs.Ytfhfmfcmkiobdaa
open Go.RowKit
/-- append(v, ts...) -/
theorem append_strsC {W : World} {B : Nat} {v : Value} {ss ts : List ByteArray} (hown : Own W B v ss) (oa : Option Addr) (m c : Nat) (hm : ts.length = m) (hs : Strs W oa ts) (hnil : oa = none → m = 0 ∧ c = 0) (hlen : ss.length + m ≤ 1073741824) (hB : B ≤ W.heap.size) :
    ∃ v' w', (Builtin.append_ #[22, 22] 22 #[v, .slice oa m c]).run Try.prog W = .ok v' w' ∧ Own w' B v' (ss ++ ts) ∧ W.grownBy w' v.ownBlock ∧ (v ≠ .slice none 0 0 → v' ≠ .slice none 0 0) := by
  obtain ⟨i0, hi, hz0, hz1, hz2⟩ := info_parts strInfo
  cases oa with
  | some a =>
    obtain ⟨v', w', hr, h2, h3, h4⟩ := run_append_own (P := Try.prog) W B 22 22 9 i0 (.string ⟨#[]⟩) 1 16 Try.underlying22 hi hz0 hz1 hz2 rfl (by decide) v ss.length (ss.map .string) hown a m c (ts.map .string) (by rw [List.length_map]; omega) (fun j u hj => by
        have hj2 : j < ts.length := by have := (List.getElem?_eq_some_iff.1 hj).1; rwa [List.length_map] at this
        obtain ⟨a', he, _, hc⟩ := hs j hj2
        cases he
        rw [hc]
        rw [List.getElem?_map, List.getElem?_eq_getElem hj2] at hj
        rw [List.getD_eq_getElem?_getD, List.getElem?_eq_getElem hj2]
        exact hj) (by intro u hu; obtain ⟨x, _, rfl⟩ := List.mem_map.1 hu; rfl) (by unfold maxLen; omega) (by omega) hB
    refine ⟨v', w', hr, ?_, h3, fun h k => h (h4.1 k).1⟩
    unfold Own
    rw [List.length_append, List.map_append, hm]
    exact h2
  | none =>
    obtain ⟨rfl, rfl⟩ := hnil rfl
    obtain rfl : ts = [] := List.length_eq_zero_iff.1 hm
    refine ⟨v, W, ?_, by rw [List.append_nil]; exact hown, grown_refl _ _, fun h => h⟩
    rcases hown.2 with ⟨rfl, hn⟩ | ⟨g, cap, cur, rfl, hg, hk, hc1, hc2, hc3, hc4⟩
    · simp [Builtin.append_, run_underlying Try.underlying22, sizeOf, typeInfo, hi, Builtin.lenOf, Builtin.firstCells]
    · simp [Builtin.append_, run_underlying Try.underlying22, sizeOf, typeInfo, hi, Builtin.lenOf, Builtin.firstCells, hc1, storeCells]
set_option maxRecDepth 100000 in
set_option maxHeartbeats 1000000 in
theorem sgrow_any (n : Nat) (h1 : 1 ≤ n) (hn : n ≤ 1048576) (w : World) : Calls Try.prog 50 #[.slice none 0 0, .int .i64 n] w fun e w' => ∃ v, e = .returned v ∧ Own w' w.heap.size v [] ∧ v ≠ .slice none 0 0 ∧ Below w.heap.size w w' := by
  obtain ⟨i0, hi, hz0, hz1, hz2⟩ := info_parts strInfo
  have hr : ∀ ty, (Builtin.append_ #[22, 3] ty #[.slice none 0 0, .int .i64 (n : Int)]).run Try.prog w = _ := fun ty =>
    Lib.run_append_grow_zeros w 22 3 ty 9 i0 (.string ⟨#[]⟩) .i64 .i64 Try.underlying22 Try.underlying3 hi hz0 none 0 0 [] (run_firstCells_none w.drew i0.size 0 0 0) n (by omega) (by omega) (by omega) (by omega) (by rw [hz2]; omega) (growslice_fits (by omega) (by rw [hz2]; omega))
  have hG := grownCap_ge w (0 + n) 0 9
  have hG2 := grownCap_le_maxLen w (0 + n) 0 9 (by unfold maxLen; omega)
  generalize grownCap w (0 + n) 0 9 = G at *
  have hsz : (([] : List Value).toArray ++ Builtin.zeroCells (Value.string ⟨#[]⟩).cells n ++ Builtin.zeroCells (Value.string ⟨#[]⟩).cells (G - (0 + n))).size = G * 1 := by
    simp only [Array.size_append, size_zeroCells]
    show 0 + n * 1 + (G - (0 + n)) * 1 = G * 1
    omega
  generalize (([] : List Value).toArray ++ Builtin.zeroCells (Value.string ⟨#[]⟩).cells n ++ Builtin.zeroCells (Value.string ⟨#[]⟩).cells (G - (0 + n))) = cs at *
  have HOW := Lib.hid (show Own (w.drew.alloc (.cells cs 9)) w.heap.size (.slice (some ⟨w.heap.size, 0, none⟩) 0 G) [] from World.ownsRow_made w.drew cs G (Nat.le_refl _) hG2 hsz)
  have HBW := Lib.hid (show Below w.heap.size w (w.drew.alloc (.cells cs 9)) from ((Below.refl _ w).drew).alloc (Nat.le_refl _) _)
  rw [Nat.zero_add] at hr hG
  have hr2 := hr 22
  have hpos : (0 : Int) < (n : Int) := by omega
  clear hr hsz
  go_enter Try.func50, Try.ntmps50
  go_wp2_with (at_builtin; refine Lib.wpList_append_run _ rfl _ _ 22 3 rfl _ _ rfl rfl _ _ hr2 ?_)
  go_wp2
  go_ret
  exact ⟨_, rfl, HOW.out, by simp, HBW.out⟩
theorem own_below8 {w a b : World} {v : Value} {B : Nat} {ss : List ByteArray} (h : Below w.heap.size w a) (hv : Own a B v ss) (hB : w.heap.size ≤ B) (hg : a.grownBy b v.ownBlock) : Below w.heap.size w b :=
  h.grown hg h.size (fun k hk => Nat.le_trans hB (World.ownsRow.lt hv k hk).1)
set_option maxRecDepth 100000 in
set_option maxHeartbeats 2000000 in
theorem concat_anyC (g : Nat) (oa ob : Option Addr) (n c m c' : Nat) (ts us : List ByteArray) (hn : ts.length = n) (hm : us.length = m) (h1 : 1 ≤ n + m) (hlen : n + m ≤ 1048576) (hna : oa = none → n = 0 ∧ c = 0) (hnb : ob = none → m = 0 ∧ c' = 0) (w : World) (hg : g < w.heap.size)
    (hc0 : w.cell? ⟨g, 0, none⟩ = some (.slice oa n c)) (hc1 : w.cell? ⟨g, 1, none⟩ = some (.slice ob m c')) (ha : Strs w oa ts) (hb : Strs w ob us) :
    Calls Try.prog 37 #[.slice (some ⟨g, 0, none⟩) 2 2] w (RT (ts ++ us) w) := by
  have HRT := Lib.hid (show ∀ e w', RT (ts ++ us) w e w' = ∃ v, e = .returned v ∧ Own w' w.heap.size v (ts ++ us) ∧ Below w.heap.size w w' from fun _ _ => rfl)
  have HG := Lib.hid (fun W => sgrow_any (n + m) h1 hlen W)
  rw [show ((n + m : Nat) : Int) = (n : Int) + (m : Int) by omega] at HG
  have HA := Lib.hid ha
  have HB := Lib.hid hb
  have HN := Lib.hid hn
  have HM := Lib.hid hm
  have HNA := Lib.hid hna
  have HNB := Lib.hid hnb
  generalize RT (ts ++ us) w = PO at *
  clear ha hb hn hm hna hnb
  go_enter Try.func37, Try.ntmps37
  go_wp2
  go_loop [3, 11] (fun s i => (i = .int .i64 0 ∧ s = .int .i64 0) ∨ (i = .int .i64 1 ∧ s = .int .i64 n) ∨ (i = .int .i64 2 ∧ s = .int .i64 ((n : Int) + (m : Int)))) (fun _ i => 2 - (intOf i).toNat)
  case atStart => exact .inl ⟨rfl, rfl⟩
  case round =>
    rcases hrel with ⟨rfl, rfl⟩ | ⟨rfl, rfl⟩ | ⟨rfl, rfl⟩
    · clear HG
      go_wp2
      go_round
      case rel => exact .inr (.inl ⟨rfl, by go_num⟩)
      case measure => simp [intOf]
    · clear HG
      go_wp2
      go_round
      case rel => exact .inr (.inr ⟨rfl, by go_num⟩)
      case measure => simp [intOf]
    · go_wp2_with fail
      refine (HG.out _).mono ?_
      rintro e w1 ⟨v1, rfl, hv1, _, hb1⟩
      clear HG
      go_wp2
      go_loopw [6, 27] (fun v i wr => ((i = .int .i64 0 ∧ Own wr w.heap.size v []) ∨ (i = .int .i64 1 ∧ Own wr w.heap.size v ts) ∨ (i = .int .i64 2 ∧ Own wr w.heap.size v (ts ++ us))) ∧ Below w.heap.size w wr) (fun _ i _ => 2 - (intOf i).toNat)
      case atStart => exact ⟨.inl ⟨rfl, hv1⟩, hb1⟩
      case round =>
        obtain ⟨hr0, hB⟩ := hrel
        clear hv1 hb1
        rcases hr0 with ⟨rfl, hown⟩ | ⟨rfl, hown⟩ | ⟨rfl, hown⟩
        · obtain ⟨v', w', hr, hown', hg', _⟩ := append_strsC hown oa n c HN.out (HA.out.below hB) HNA.out (by simp; omega) hB.size
          have hB' := own_below8 hB hown (Nat.le_refl _) hg'
          have d0 : wr.cell? ⟨g, 0, none⟩ = some (.slice oa n c) := (hB.cell (p := ⟨g, 0, none⟩) hg).trans hc0
          clear hg' hown
          go_wp2_with (at_builtin; refine Lib.wpList_append_run _ rfl _ _ 22 22 rfl _ _ rfl rfl _ _ hr ?_)
          go_wp2
          go_roundw
          case rel => exact ⟨.inr (.inl ⟨rfl, by simpa using hown'⟩), hB'⟩
          case measure => simp [intOf]
        · obtain ⟨v', w', hr, hown', hg', _⟩ := append_strsC hown ob m c' HM.out (HB.out.below hB) HNB.out (by rw [HN.out]; omega) hB.size
          have hB' := own_below8 hB hown (Nat.le_refl _) hg'
          have d1 : wr.cell? ⟨g, 1, none⟩ = some (.slice ob m c') := (hB.cell (p := ⟨g, 1, none⟩) hg).trans hc1
          clear hg' hown
          go_wp2_with (at_builtin; refine Lib.wpList_append_run _ rfl _ _ 22 22 rfl _ _ rfl rfl _ _ hr ?_)
          go_wp2
          go_roundw
          case rel => exact ⟨.inr (.inr ⟨rfl, hown'⟩), hB'⟩
          case measure => simp [intOf]
        · go_wp2
          rw [HRT.out]
          exact ⟨_, rfl, hown, hB⟩
end Go.Proofs.Ytfhfmfcmkiobdaa

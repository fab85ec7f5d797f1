/-
  Texts appended to texts; slices.Grow of nothing, slices.Concat of two, slices.Clone.
-/
import Derived.Test.YtmokkahkfmmnmaaTxt
import Derived.Test.YtmokkahkfmmnmaaMRoot
import Derived.Lib.AppendZerosOnto
namespace Go.Proofs.Ytmokkahkfmmnmaa
open Go.RowKit

theorem Own.formd {w : World} {B : Nat} {v : Value} {ss : List ByteArray} (h : Own w B v ss) : ∃ oa cap, v = .slice oa ss.length cap ∧ Strs w oa ss ∧ ss.length ≤ cap ∧ (oa = none → ss.length = 0 ∧ cap = 0) := by
  have h0 := h
  obtain ⟨oa, cap, hv, hs⟩ := h.form
  refine ⟨oa, cap, hv, hs, ?_⟩
  rcases h.2 with ⟨h1, hn⟩ | ⟨g, cap', cur, h1, hg, hk, hc1, _⟩
  · rw [h1] at hv
    injection hv with h2 h3 h4
    exact ⟨by omega, fun _ => ⟨hn, h4.symm⟩⟩
  · rw [h1] at hv
    injection hv with h2 _ h3
    exact ⟨by omega, fun h => by rw [h] at h2; cases h2⟩
/-- append(v, ts...) -/
theorem append_strs {W : World} {B : Nat} {v : Value} {ss ts : List ByteArray} (hown : Own W B v ss) (oa : Option Addr) (m c : Nat) (hm : ts.length = m) (hs : Strs W oa ts) (hnil : oa = none → m = 0 ∧ c = 0) (hlen : ss.length + m ≤ 1073741824) (hB : B ≤ W.heap.size) :
    ∃ v' w', (Builtin.append_ #[22, 22] 22 #[v, .slice oa m c]).run Try.prog W = .ok v' w' ∧ Own w' B v' (ss ++ ts) ∧ W.grownBy w' v.ownBlock ∧ (v ≠ .slice none 0 0 → v' ≠ .slice none 0 0) := by
  obtain ⟨i0, hi, hz0, hz1, hz2⟩ := info_parts strInfo
  cases oa with
  | some a =>
    obtain ⟨v', w', hr, h2, h3, h4⟩ := run_append_own (P := Try.prog) W B 22 22 9 i0 (.string ⟨#[]⟩) 1 16 Try.underlying22 hi hz0 hz1 hz2 rfl (by decide) v ss.length (ss.map .string) hown a m c (ts.map .string) (by rw [List.length_map]; omega) (fun j u hj => by
        have hj2 : j < ts.length := by have := (List.getElem?_eq_some_iff.1 hj).1; rwa [List.length_map] at this
        obtain ⟨a', he, _, hc⟩ := hs j hj2
        cases he
        rw [hc]
        rw [List.getElem?_map, List.getElem?_eq_getElem hj2] at hj
        rw [List.getD_eq_getElem?_getD, List.getElem?_eq_getElem hj2]
        exact hj) (by intro u hu; obtain ⟨x, _, rfl⟩ := List.mem_map.1 hu; rfl) (by unfold maxLen; omega) (by omega) hB
    refine ⟨v', w', hr, ?_, h3, fun h k => h (h4.1 k).1⟩
    unfold Own
    rw [List.length_append, List.map_append, hm]
    exact h2
  | none =>
    obtain ⟨rfl, rfl⟩ := hnil rfl
    obtain rfl : ts = [] := List.length_eq_zero_iff.1 hm
    refine ⟨v, W, ?_, by rw [List.append_nil]; exact hown, grown_refl _ _, fun h => h⟩
    rcases hown.2 with ⟨rfl, hn⟩ | ⟨g, cap, cur, rfl, hg, hk, hc1, hc2, hc3, hc4⟩
    · simp [Builtin.append_, run_underlying Try.underlying22, sizeOf, typeInfo, hi, Builtin.lenOf, Builtin.firstCells]
    · simp [Builtin.append_, run_underlying Try.underlying22, sizeOf, typeInfo, hi, Builtin.lenOf, Builtin.firstCells, hc1, storeCells]
set_option maxRecDepth 100000 in
set_option maxHeartbeats 1000000 in
theorem grow_any (n : Nat) (h1 : 1 ≤ n) (hn : n ≤ 1048576) (w : World) : Calls Try.prog 60 #[.slice none 0 0, .int .i64 n] w fun e w' => ∃ v, e = .returned v ∧ Own w' w.heap.size v [] ∧ v ≠ .slice none 0 0 ∧ Below w.heap.size w w' := by
  obtain ⟨i0, hi, hz0, hz1, hz2⟩ := info_parts strInfo
  have hr : ∀ ty, (Builtin.append_ #[22, 3] ty #[.slice none 0 0, .int .i64 (n : Int)]).run Try.prog w = _ := fun ty =>
    Lib.run_append_grow_zeros w 22 3 ty 9 i0 (.string ⟨#[]⟩) .i64 .i64 Try.underlying22 Try.underlying3 hi hz0 none 0 0 [] (run_firstCells_none w.drew i0.size 0 0 0) n (by omega) (by omega) (by omega) (by omega) (by rw [hz2]; omega) (growslice_fits (by omega) (by rw [hz2]; omega))
  have hG := grownCap_ge w (0 + n) 0 9
  have hG2 := grownCap_le_maxLen w (0 + n) 0 9 (by unfold maxLen; omega)
  generalize grownCap w (0 + n) 0 9 = G at *
  have hsz : (([] : List Value).toArray ++ Builtin.zeroCells (Value.string ⟨#[]⟩).cells n ++ Builtin.zeroCells (Value.string ⟨#[]⟩).cells (G - (0 + n))).size = G * 1 := by
    simp only [Array.size_append, size_zeroCells]
    show 0 + n * 1 + (G - (0 + n)) * 1 = G * 1
    omega
  generalize (([] : List Value).toArray ++ Builtin.zeroCells (Value.string ⟨#[]⟩).cells n ++ Builtin.zeroCells (Value.string ⟨#[]⟩).cells (G - (0 + n))) = cs at *
  have HOW := Lib.hid (show Own (w.drew.alloc (.cells cs 9)) w.heap.size (.slice (some ⟨w.heap.size, 0, none⟩) 0 G) [] from World.ownsRow_made w.drew cs G (Nat.le_refl _) hG2 hsz)
  have HBW := Lib.hid (show Below w.heap.size w (w.drew.alloc (.cells cs 9)) from ((Below.refl _ w).drew).alloc (Nat.le_refl _) _)
  rw [Nat.zero_add] at hr hG
  have hr2 := hr 22
  have hpos : (0 : Int) < (n : Int) := by omega
  clear hr hsz
  go_enter Try.func60, Try.ntmps60
  go_wp2_with (at_builtin; refine Lib.wpList_append_run _ rfl _ _ 22 3 rfl _ _ rfl rfl _ _ hr2 ?_)
  go_wp2
  go_ret
  exact ⟨_, rfl, HOW.out, by simp, HBW.out⟩
end Go.Proofs.Ytmokkahkfmmnmaa

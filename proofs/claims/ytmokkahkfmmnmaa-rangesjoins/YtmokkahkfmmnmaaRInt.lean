/-
  Slices of numbers that a call made; the powers of two that a number is made of: the reference's.
-/
import Derived.Test.YtmokkahkfmmnmaaRColl
namespace Go.Proofs.Ytmokkahkfmmnmaa
open Go.RowKit

/-- the slice at oa reads as the numbers xs -/
def Ints (w : World) (oa : Option Addr) (xs : List Nat) : Prop := ∀ i, i < xs.length → ∃ a, oa = some a ∧ a.block < w.heap.size ∧ w.cell? (a.add i) = some (vI (xs.getD i 0))
theorem Ints.below {w w' : World} {oa : Option Addr} {xs : List Nat} (h : Ints w oa xs) (hb : Below w.heap.size w w') : Ints w' oa xs := by
  intro i hi
  obtain ⟨a, rfl, hab, hc⟩ := h i hi
  exact ⟨a, rfl, Nat.lt_of_lt_of_le hab hb.size, (hb.cell (by rw [add_block]; exact hab)).trans hc⟩
theorem OwnI.formc {w : World} {B : Nat} {v : Value} {xs : List Nat} (h : OwnI w B v xs) : ∃ oa cap, v = .slice oa xs.length cap ∧ Ints w oa xs ∧ xs.length ≤ cap := by
  have h0 := h
  rcases h.2 with ⟨rfl, hn⟩ | ⟨g, cap, cur, rfl, hg, hk, hc1, hc2, hc3, hc4⟩
  · exact ⟨none, 0, by rw [hn], fun i hi => absurd hi (by omega), by omega⟩
  · refine ⟨some ⟨g, 0, none⟩, cap, rfl, fun i hi => ⟨_, rfl, (show Blk w g 3 cur from hk).lt, ?_⟩, hc1⟩
    have := World.ownsRow.cells h0 (g := g) rfl i (vI (xs.getD i 0)) (by rw [List.getElem?_map, List.getElem?_eq_getElem hi, List.getD_eq_getElem?_getD, List.getElem?_eq_getElem hi]; rfl)
    exact this
theorem OwnI.row {w : World} {B : Nat} {v : Value} {xs : List Nat} (h : OwnI w B v xs) (hne : 0 < xs.length) : ∃ g cap, v = .slice (some ⟨g, 0, none⟩) xs.length cap ∧ B ≤ g ∧ xs.length ≤ cap ∧ g < w.heap.size ∧ ∀ i, i < xs.length → w.cell? ⟨g, i, none⟩ = some (vI (xs.getD i 0)) := by
  have h0 := h
  rcases h.2 with ⟨rfl, hn⟩ | ⟨g, cap, cur, rfl, hg, hk, hc1, hc2, hc3, hc4⟩
  · omega
  · refine ⟨g, cap, rfl, hg, hc1, (show Blk w g 3 cur from hk).lt, fun i hi => ?_⟩
    have := World.ownsRow.cells h0 (g := g) rfl i (vI (xs.getD i 0)) (by rw [List.getElem?_map, List.getElem?_eq_getElem hi, List.getD_eq_getElem?_getD, List.getElem?_eq_getElem hi]; rfl)
    rw [addr_add, Nat.zero_add] at this
    exact this
theorem OwnI.mono {w : World} {B B' : Nat} {v : Value} {xs : List Nat} (h : OwnI w B v xs) (hb : B' ≤ B) : OwnI w B' v xs := World.ownsRow.mono h hb
theorem OwnI.below {w w' : World} {B : Nat} {v : Value} {xs : List Nat} (h : OwnI w B v xs) (hb : Below w.heap.size w w') : OwnI w' B v xs :=
  World.ownsRow.kept h (only_of_below hb none) (by cases v.ownBlock <;> simp)
theorem ownI_nil (w : World) (B : Nat) : OwnI w B (.slice none 0 0) [] := ⟨rfl, .inl ⟨rfl, rfl⟩⟩
/-- append(v, y) -/
theorem wpList_append_int {W : World} {ops : Array Oper} {rest : List Oper} {o : Oper} {a : Act} {Q : Exit → Act → World → Prop} (hgd : o.guard = none) (s x : Operand)
    (ho : o.op = .call { callee := .builtin .append, args := #[s, x], argTypes := #[45, 45] }) (B : Nat) (v : Value) (xs : List Nat) (hs : a.eval s = v) (hown : OwnI W B v xs) (y : Nat)
    (hx : a.eval x = .slice (some ⟨W.heap.size, 0, none⟩) 1 1) (hlen : xs.length ≤ 1073741824) (hB : B ≤ W.heap.size)
    (h : ∀ g cap w', OwnI w' B (.slice (some ⟨g, 0, none⟩) (xs.length + 1) cap) (xs ++ [y]) → W.grownBy w' v.ownBlock → wpList Try.prog ops Q rest (a.put o.dst (.slice (some ⟨g, 0, none⟩) (xs.length + 1) cap)) w') :
    wpList Try.prog ops Q (o :: rest) a (W.alloc (.cells #[vI y] 3)) := by
  obtain ⟨i0, hi, hz0, hz1, hz2⟩ := info_parts intInfo
  refine wpList_append_lies _ hgd s x 45 ho B 3 i0 (.int .i64 0) 1 8 Try.underlying45 hi hz0 hz1 hz2 rfl (by decide) v xs.length (xs.map vI) hs (World.ownsRow.alloc hown _)
    ⟨W.heap.size, 0, none⟩ 1 1 [vI y] hx rfl (cell_one_new W (vI y) 3) (by intro u hu; simp at hu; subst hu; rfl) (by decide) (by unfold maxLen; omega) (by omega) (by simp; omega) (W.heap.size + 1) (by simp) ?_
  intro g cap w' hown1 hgrow hat hlt
  refine h g cap w' ?_ (grown_trans (grown_alloc (grown_refl W _) _) hgrow)
  unfold OwnI
  rw [List.length_append, List.map_append]
  exact hown1
/-- only blocks made since w may have turned -/
theorem below_owned {w a b : World} {v : Value} {B : Nat} {xs : List Nat} (h : Below w.heap.size w a) (hv : OwnI a B v xs) (hB : w.heap.size ≤ B) (hg : a.grownBy b v.ownBlock) : Below w.heap.size w b :=
  h.grown hg h.size (fun k hk => by
    rcases hv.2 with ⟨rfl, _⟩ | ⟨g, cap, cur, rfl, hge, _⟩
    · cases hk
    · simp [Value.ownBlock] at hk; omega)
set_option maxRecDepth 100000 in
set_option maxHeartbeats 1000000 in
theorem sizes_any (n : Nat) (hn : n ≤ 1099511627776) (w : World) : Calls Try.prog 21 #[.int .i64 n] w (RI (strL n) w) := by
  obtain ⟨L, hL⟩ : ∃ L, strL n = L := ⟨_, rfl⟩
  rw [hL]
  have HN := Lib.hid (show n < 2 ^ (41 - 0) by omega)
  have HL0 := Lib.hid hL
  clear hL
  go_enter Try.func21, Try.ntmps21
  go_wp2
  go_loopw [0, 3, 4] (fun vr vo vp wr => ∃ (j r : Nat) (pre : List Nat), j ≤ 41 ∧ vp = .int .i64 ((1099511627776 / 2 ^ j : Nat) : Int) ∧ vr = .int .i64 r ∧ r ≤ 1099511627776 ∧ Hid (r < 2 ^ (41 - j)) ∧ Hid (L = pre ++ strL r) ∧ pre.length ≤ j ∧ OwnI wr w.heap.size vo pre ∧ Below w.heap.size w wr)
    (fun _ _ vp _ => (intOf vp).toNat)
  case atStart => exact ⟨0, n, [], by omega, by rfl, rfl, hn, HN, Lib.hid HL0.out.symm, by simp, ownI_nil _ _, Below.refl _ _⟩
  case round =>
    obtain ⟨j, r, pre, hj, rfl, rfl, hr, HR, HX, hpl, hown, hB⟩ := hrel
    have HE := Lib.hid (show 1099511627776 / 2 ^ (j + 1) = 1099511627776 / 2 ^ j / 2 by rw [Nat.pow_succ, Nat.div_div_eq_div_mul])
    have hle : 1099511627776 / 2 ^ j ≤ 1099511627776 := Nat.div_le_self _ _
    by_cases hend : j = 41
    · subst hend
      have h0 : r = 0 := by have := HR.out; simp at this; omega
      subst h0
      have HX' : Hid (L = pre) := Lib.hid (by have := HX.out; rw [strL_zero, List.append_nil] at this; exact this)
      rw [show ((1099511627776 / 2 ^ 41 : Nat) : Int) = 0 from rfl]
      clear HE hle HX HR
      go_wp2
      go_ret
      exact ⟨_, rfl, by rw [HX'.out]; exact hown, hB⟩
    · have hp : 1099511627776 / 2 ^ j = 2 ^ (40 - j) := by
        rw [show (1099511627776 : Nat) = 2 ^ 40 by decide, Nat.pow_div (by omega) (by decide)]
      have HP := Lib.hid hp
      have hp0 : 0 < 1099511627776 / 2 ^ j := by rw [hp]; exact Nat.two_pow_pos _
      have HQ := Lib.hid (show 2 ^ (41 - j) = 2 * (1099511627776 / 2 ^ j) by rw [hp, show 41 - j = (40 - j) + 1 by omega, Nat.pow_succ]; omega)
      have HQ2 := Lib.hid (show 2 ^ (41 - (j + 1)) = 1099511627776 / 2 ^ j by rw [hp, show 41 - (j + 1) = 40 - j by omega])
      clear hp
      obtain ⟨p, hpp⟩ : ∃ p, 1099511627776 / 2 ^ j = p := ⟨_, rfl⟩
      rw [hpp] at HE HP HQ HQ2 hp0 hle ⊢
      clear hpp
      by_cases hge : p ≤ r
      · have hge' : (p : Int) ≤ (r : Int) := by omega
        have HX' : Hid (L = (pre ++ [p]) ++ strL (r - p)) := Lib.hid (by
          have e := HX.out
          rw [strL_at (k := 40 - j) (by rw [← HP.out]; exact hge) (by rw [show 40 - j + 1 = 41 - j by omega]; exact HR.out), ← HP.out] at e
          rw [e, List.append_assoc]; rfl)
        have HR' : Hid (r - p < 2 ^ (41 - (j + 1))) := Lib.hid (by have := HR.out; rw [HQ.out] at this; rw [HQ2.out]; omega)
        clear HX HR HQ HQ2 HP
        go_wp2_with (refine wpList_append_int rfl _ _ rfl w.heap.size _ pre rfl hown p rfl (by omega) hB.size ?_; intro g cap w1 hown1 hg1; have hB1 := below_owned hB hown (Nat.le_refl _) hg1)
        go_roundw
        case rel => exact ⟨j + 1, r - p, pre ++ [p], by omega, by rw [HE.out]; go_num, by go_num, by omega, HR', HX', by simp; omega, hown1, hB1⟩
        case measure => simp [intOf]; omega
      · have hge' : ¬ (p : Int) ≤ (r : Int) := by omega
        have HR' : Hid (r < 2 ^ (41 - (j + 1))) := Lib.hid (by rw [HQ2.out]; omega)
        clear HR HQ HQ2 HP
        go_wp2
        go_roundw
        case rel => exact ⟨j + 1, r, pre, by omega, by rw [HE.out]; go_num, rfl, by omega, HR', HX, by omega, hown, hB⟩
        case measure => simp [intOf]; omega
end Go.Proofs.Ytmokkahkfmmnmaa

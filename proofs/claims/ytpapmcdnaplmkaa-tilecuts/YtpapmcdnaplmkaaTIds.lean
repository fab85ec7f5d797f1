/-
  Slices of tiles' places; tiles, row, Width.
-/
import Derived.Test.YtpapmcdnaplmkaaTIter
import Derived.Test.YtpapmcdnaplmkaaTxt
import Derived.Lib.AppendZerosOnto
namespace Go.Proofs.Ytpapmcdnaplmkaa
open Go.RowKit

abbrev iv (x : Nat) : Value := .int .i64 ((x : Nat) : Int)
def dcells (ps : List (Nat × Nat)) : List Value := ps.flatMap fun p => [iv p.1, iv p.2]
theorem dcells_len (ps : List (Nat × Nat)) : (dcells ps).length = ps.length * 2 := by
  induction ps with
  | nil => rfl
  | cons x r ih => simp [dcells] at ih ⊢; omega
theorem dcells_app (ps qs : List (Nat × Nat)) : dcells (ps ++ qs) = dcells ps ++ dcells qs := by simp [dcells]
theorem dcells_get : ∀ (ps : List (Nat × Nat)) (i : Nat), i < ps.length → (dcells ps)[i * 2]? = some (iv (ps.getD i (0, 0)).1) ∧ (dcells ps)[i * 2 + 1]? = some (iv (ps.getD i (0, 0)).2)
  | [], _, h => absurd h (Nat.not_lt_zero _)
  | x :: r, 0, _ => ⟨rfl, rfl⟩
  | x :: r, i + 1, h => by
    have e : dcells (x :: r) = iv x.1 :: iv x.2 :: dcells r := rfl
    rw [e, show (i + 1) * 2 = i * 2 + 1 + 1 by omega, List.getElem?_cons_succ, List.getElem?_cons_succ, List.getElem?_cons_succ, List.getElem?_cons_succ]
    exact dcells_get r i (Nat.lt_of_succ_lt_succ h)
theorem idInfo : (Try.prog.info? 26).map (fun i => (i.zero, i.size, i.bytes)) = some (some (.agg #[.int .i64 0, .int .i64 0]), 2, 16) := by kernel_rfl
theorem add_add7 (a : Addr) (k i : Nat) : (a.add k).add i = a.add (k + i) := by
  unfold Addr.add
  by_cases hk : k = 0
  · subst hk; simp
  · by_cases hi : i = 0
    · subst hi; simp
    · rw [if_neg hk, if_neg hi, if_neg (by omega)]
      simp [Nat.add_assoc]
/-- a slice of places that the call made -/
def OwnD (w : World) (B : Nat) (v : Value) (ps : List (Nat × Nat)) : Prop := w.ownsRow B 26 2 v ps.length (dcells ps)
/-- the slice at oa reads as the places ps -/
def Ids (w : World) (oa : Option Addr) (ps : List (Nat × Nat)) : Prop := ∀ i, i < ps.length → ∃ a, oa = some a ∧ a.block < w.heap.size ∧ w.cell? (a.add (i * 2)) = some (iv (ps.getD i (0, 0)).1) ∧ w.cell? (a.add (i * 2 + 1)) = some (iv (ps.getD i (0, 0)).2)
theorem Ids.below {w w' : World} {oa : Option Addr} {ps : List (Nat × Nat)} (h : Ids w oa ps) (hb : Below w.heap.size w w') : Ids w' oa ps := by
  intro i hi
  obtain ⟨a, rfl, hab, hc, hd⟩ := h i hi
  exact ⟨a, rfl, Nat.lt_of_lt_of_le hab hb.size, (hb.cell (by rw [add_block]; exact hab)).trans hc, (hb.cell (by rw [add_block]; exact hab)).trans hd⟩
theorem ownD_nil (w : World) (B : Nat) : OwnD w B (.slice none 0 0) [] := ⟨rfl, .inl ⟨rfl, rfl⟩⟩
theorem OwnD.mono {w : World} {B B' : Nat} {v : Value} {ps : List (Nat × Nat)} (h : OwnD w B v ps) (hb : B' ≤ B) : OwnD w B' v ps := World.ownsRow.mono h hb
theorem OwnD.grown {w w' : World} {B : Nat} {v : Value} {ps : List (Nat × Nat)} {row : Option Nat} (h : OwnD w B v ps) (hg : w.grownBy w' row) (hne : v.ownBlock = none ∨ v.ownBlock ≠ row) : OwnD w' B v ps := World.ownsRow.kept h hg hne
theorem OwnD.below {w w' : World} {B : Nat} {v : Value} {ps : List (Nat × Nat)} (h : OwnD w B v ps) (hb : Below w.heap.size w w') : OwnD w' B v ps :=
  World.ownsRow.kept h (only_of_below hb none) (by cases v.ownBlock <;> simp)
theorem OwnD.form {w : World} {B : Nat} {v : Value} {ps : List (Nat × Nat)} (h : OwnD w B v ps) : ∃ oa cap, v = .slice oa ps.length cap ∧ Ids w oa ps ∧ ps.length ≤ cap ∧ (oa = none → ps.length = 0 ∧ cap = 0) ∧ (∀ a, oa = some a → a = ⟨a.block, 0, none⟩ ∧ B ≤ a.block) := by
  have h0 := h
  rcases h.2 with ⟨rfl, hn⟩ | ⟨g, cap, cur, rfl, hg, hk, hc1, hc2, hc3, hc4⟩
  · exact ⟨none, 0, by rw [hn], fun i hi => absurd hi (by omega), by omega, fun _ => ⟨hn, rfl⟩, fun a e => by cases e⟩
  · refine ⟨some ⟨g, 0, none⟩, cap, rfl, fun i hi => ⟨_, rfl, (show Blk w g 26 cur from hk).lt, ?_, ?_⟩, hc1, (fun e => by cases e), fun a e => (by cases e; exact ⟨rfl, hg⟩)⟩
    · exact World.ownsRow.cells h0 (g := g) rfl (i * 2) _ (dcells_get ps i hi).1
    · exact World.ownsRow.cells h0 (g := g) rfl (i * 2 + 1) _ (dcells_get ps i hi).2
/-- what a call that makes a slice of places answers -/
def RD (ps : List (Nat × Nat)) (w : World) (e : Ending) (w' : World) : Prop := ∃ v, e = .returned v ∧ OwnD w' w.heap.size v ps ∧ Below w.heap.size w w'
theorem two_new (w : World) (x y : Value) (t : TypeId) : ∀ j u, ([x, y])[j]? = some u → (w.alloc (.cells #[x, y] t)).cell? ((⟨w.heap.size, 0, none⟩ : Addr).add j) = some u := by
  intro j u hu
  rw [addr_add, Nat.zero_add, (Blk.new w t #[x, y]).cell, ← hu]
  rw [← List.getElem?_toArray]
set_option maxRecDepth 100000 in
theorem wpList_append_id {W : World} {ops : Array Oper} {rest : List Oper} {o : Oper} {a : Act} {Q : Exit → Act → World → Prop} (hgd : o.guard = none) (s x : Operand)
    (ho : o.op = .call { callee := .builtin .append, args := #[s, x], argTypes := #[23, 23] }) (B : Nat) (v : Value) (ps : List (Nat × Nat)) (hs : a.eval s = v) (hown : OwnD W B v ps) (y : Nat × Nat)
    (hx : a.eval x = .slice (some ⟨W.heap.size, 0, none⟩) 1 1) (hlen : ps.length ≤ 1073741824) (hB : B ≤ W.heap.size)
    (h : ∀ g cap w', OwnD w' B (.slice (some ⟨g, 0, none⟩) (ps.length + 1) cap) (ps ++ [y]) → W.grownBy w' v.ownBlock → wpList Try.prog ops Q rest (a.put o.dst (.slice (some ⟨g, 0, none⟩) (ps.length + 1) cap)) w') :
    wpList Try.prog ops Q (o :: rest) a (W.alloc (.cells #[iv y.1, iv y.2] 26)) := by
  obtain ⟨i0, hi, hz0, hz1, hz2⟩ := info_parts idInfo
  refine wpList_append_lies _ hgd s x 23 ho B 26 i0 (.agg #[.int .i64 0, .int .i64 0]) 2 16 Try.underlying23 hi hz0 hz1 hz2 rfl (by decide) v ps.length (dcells ps) hs (World.ownsRow.alloc hown _)
    ⟨W.heap.size, 0, none⟩ 1 1 [iv y.1, iv y.2] hx rfl (two_new W _ _ 26) (by intro u hu; simp at hu; rcases hu with rfl | rfl <;> rfl) (by decide) (by unfold maxLen; omega) (by omega) (by simp; omega) (W.heap.size + 1) (by simp) ?_
  intro g cap w' hown1 hgrow _ _
  refine h g cap w' ?_ (grown_trans (grown_alloc (grown_refl W _) _) hgrow)
  unfold OwnD
  rw [List.length_append, dcells_app]
  exact hown1
/-- append(v, ts...) -/
theorem append_ids {W : World} {B : Nat} {v : Value} {ps ts : List (Nat × Nat)} (hown : OwnD W B v ps) (oa : Option Addr) (m c : Nat) (hm : ts.length = m) (hs : Ids W oa ts) (hnil : oa = none → m = 0 ∧ c = 0) (hlen : ps.length + m ≤ 1073741824) (hB : B ≤ W.heap.size) :
    ∃ v' w', (Builtin.append_ #[23, 23] 23 #[v, .slice oa m c]).run Try.prog W = .ok v' w' ∧ OwnD w' B v' (ps ++ ts) ∧ W.grownBy w' v.ownBlock := by
  obtain ⟨i0, hi, hz0, hz1, hz2⟩ := info_parts idInfo
  cases oa with
  | some a =>
    obtain ⟨v', w', hr, h2, h3, h4⟩ := run_append_own (P := Try.prog) W B 23 23 26 i0 (.agg #[.int .i64 0, .int .i64 0]) 2 16 Try.underlying23 hi hz0 hz1 hz2 rfl (by decide) v ps.length (dcells ps) hown a m c (dcells ts) (by rw [dcells_len]; omega) (fun j u hj => by
        have hj2 : j < ts.length * 2 := by have := (List.getElem?_eq_some_iff.1 hj).1; rwa [dcells_len] at this
        have hq : j / 2 < ts.length := by omega
        obtain ⟨a', he, _, hc, hd⟩ := hs (j / 2) hq
        cases he
        have hg := dcells_get ts (j / 2) hq
        rcases Nat.mod_two_eq_zero_or_one j with h0 | h1
        · rw [show j / 2 * 2 = j by omega] at hc hg
          rw [hc, ← hj, hg.1]
        · rw [show j / 2 * 2 + 1 = j by omega] at hd hg
          rw [hd, ← hj, hg.2]) (by intro u hu; obtain ⟨p, _, hp⟩ := List.mem_flatMap.1 hu; simp at hp; rcases hp with rfl | rfl <;> rfl) (by unfold maxLen; omega) (by omega) hB
    refine ⟨v', w', hr, ?_, h3⟩
    unfold OwnD
    rw [List.length_append, dcells_app, hm]
    exact h2
  | none =>
    obtain ⟨rfl, rfl⟩ := hnil rfl
    obtain rfl : ts = [] := List.length_eq_zero_iff.1 hm
    refine ⟨v, W, ?_, by rw [List.append_nil]; exact hown, grown_refl _ _⟩
    rcases hown.2 with ⟨rfl, hn⟩ | ⟨g, cap, cur, rfl, hg, hk, hc1, hc2, hc3, hc4⟩
    · simp [Builtin.append_, run_underlying Try.underlying23, sizeOf, typeInfo, hi, Builtin.lenOf, Builtin.firstCells]
    · simp [Builtin.append_, run_underlying Try.underlying23, sizeOf, typeInfo, hi, Builtin.lenOf, Builtin.firstCells, hc1, storeCells]
set_option maxRecDepth 100000 in
theorem tiles_any (c : Nat) (hc : c ≤ 64) (w : World) : Calls Try.prog 25 #[.int .i64 (c : Int)] w fun e w' => e = .returned (iv (tlT c)) ∧ w' = w := by
  have HV := Lib.hid (show ((c : Int) + 4 - 1) / 4 = ((tlT c : Nat) : Int) by unfold tlT; omega)
  go_enter Try.func25, Try.ntmps25
  go_wp2
  go_ret
  exact ⟨by rw [HV.out]; rfl, rfl⟩
set_option maxRecDepth 100000 in
set_option maxHeartbeats 1000000 in
theorem row_any (l c : Nat) (_hl : l ≤ 4) (hc : c ≤ 64) (w : World) : Calls Try.prog 24 #[iv l, iv c] w (RD (rowT l c) w) := by
  have HT := Lib.hid (fun W => tiles_any c hc W)
  have HRD := Lib.hid (show ∀ e w', RD (rowT l c) w e w' = ∃ v, e = .returned v ∧ OwnD w' w.heap.size v (rowT l c) ∧ Below w.heap.size w w' from fun _ _ => rfl)
  have HR := Lib.hid (show rowT l c = (List.range (tlT c)).map fun i => (l, i) from rfl)
  have hk : tlT c ≤ 16 := by unfold tlT; omega
  generalize tlT c = m at *
  generalize RD (rowT l c) w = PO at *
  generalize rowT l c = R at *
  go_enter Try.func24, Try.ntmps24
  go_wp2_with fail
  refine (HT.out _).mono ?_
  rintro e w' ⟨rfl, rfl⟩
  clear HT
  go_wp2
  go_loopw [5, 9] (fun v i wr => ∃ k : Nat, i = .int .i64 (k : Int) ∧ k ≤ m ∧ OwnD wr w'.heap.size v ((List.range k).map fun i => (l, i)) ∧ Below w'.heap.size w' wr) (fun _ i _ => m - (intOf i).toNat)
  case atStart => exact ⟨0, rfl, by omega, ownD_nil _ _, Below.refl _ _⟩
  case round =>
    obtain ⟨k, rfl, hkm, hown, hB⟩ := hrel
    by_cases hlt : k < m
    · have hlen : ((List.range k).map fun i => (l, i)).length = k := by simp
      go_wp2_with (at_builtin; refine wpList_append_id rfl _ _ rfl w'.heap.size _ _ rfl hown (l, k) rfl (by rw [hlen]; omega) hB.size ?_; intro g cap w1 hown1 hgrow)
      go_wp2
      go_roundw
      case rel => exact ⟨k + 1, by go_num, by omega, by rw [List.range_succ, List.map_append]; simpa using hown1, hB.grown hgrow hB.size (fun j hj => (World.ownsRow.lt hown j hj).1)⟩
      case measure => simp [intOf]; omega
    · obtain rfl : k = m := by omega
      go_wp2
      rw [HRD.out, HR.out]
      exact ⟨_, rfl, hown, hB⟩
set_option maxRecDepth 100000 in
set_option maxHeartbeats 1000000 in
theorem width_any (n level index : Int) (hi : -9223372036854775808 ≤ index ∧ index ≤ 9223372036854775807) (w : World) : Calls Try.prog 9 #[.int .i64 n, .agg #[.int .i64 level, .int .i64 index]] w fun e w' => e = .returned (iv (widT n level index)) ∧ Below w.heap.size w w' := by
  obtain ⟨w0, hw0⟩ : ∃ w0, w.alloc (.cells #[.int .i64 level, .int .i64 index] 26) = w0 := ⟨_, rfl⟩
  have hb0 : Below w.heap.size w w0 := by rw [← hw0]; exact (Below.refl _ w).alloc (Nat.le_refl _) _
  have hK : Blk w0 w.heap.size 26 #[.int .i64 level, .int .i64 index] := by rw [← hw0]; exact Blk.new _ _ _
  have c0 : w0.cell? ⟨w.heap.size, 0, none⟩ = some (.int .i64 level) := hK.cell 0
  have HC := Lib.hid (fun W => count_any n level W)
  have HV := Lib.hid (show widT n level index = if index < 0 ∨ (tlT (cntT n level) : Int) ≤ index then 0 else min 4 (cntT n level - 4 * index.toNat) from rfl)
  have hc := cnt_le n level
  generalize widT n level index = V at *
  generalize cntT n level = c at *
  have HT := Lib.hid (show ∀ W, Calls Try.prog 25 #[.int .i64 (c : Int)] W fun e w' => e = .returned (iv (tlT c)) ∧ w' = W from fun W => tiles_any c hc W)
  have hk : tlT c = (c + 3) / 4 := rfl
  generalize tlT c = m at *
  have HW0 := Lib.hid hw0
  clear hw0
  go_enter Try.func9, Try.ntmps9
  go_wp2_with (rw [HW0.out])
  refine (HC.out _).mono ?_
  rintro e w1 ⟨rfl, hb1⟩
  have hB1 := hb0.trans (hb1.mono hb0.size)
  have c1 : w1.cell? ⟨w.heap.size, 1, none⟩ = some (.int .i64 index) := (hb1.cell (p := ⟨w.heap.size, 1, none⟩) hK.lt).trans (hK.cell 1)
  clear c0 hb1 hK HC HW0
  by_cases hneg : index < 0
  · have hV : V = 0 := by rw [HV.out, if_pos (Or.inl hneg)]
    subst hV
    clear HV HT hk
    go_wp2
    go_quiet (fail)
    go_wp2
    go_ret
    exact ⟨rfl, below_drewN hB1 _⟩
  · have hV : V = if (m : Int) ≤ index then 0 else min 4 (c - 4 * index.toNat) := by
      rw [HV.out]
      by_cases h : (m : Int) ≤ index
      · rw [if_pos (Or.inr h), if_pos h]
      · rw [if_neg (by omega), if_neg h]
    clear HV
    by_cases hm : (m : Int) ≤ index
    · rw [if_pos hm] at hV
      subst hV
      go_wp2
      go_quiet ((go_at_call 25; exact (HT.out _).mono fun _ _ h => ⟨h.1, _, h.2⟩))
      go_wp2
      go_ret
      exact ⟨rfl, below_drewN hB1 _⟩
    · rw [if_neg hm] at hV
      obtain ⟨i, rfl⟩ : ∃ i : Nat, index = (i : Int) := ⟨index.toNat, by omega⟩
      rw [Int.toNat_natCast] at hV
      have HV := Lib.hid hV
      clear hV
      have hm' : (i : Int) < (m : Int) := by omega
      have hi64 : i < 16 := by omega
      clear hm hneg hi
      go_wp2
      go_quiet ((go_at_call 25; exact (HT.out _).mono fun _ _ h => ⟨h.1, _, h.2⟩))
      go_wp2
      go_ret
      refine ⟨?_, below_drewN hB1 _⟩
      show Ending.returned (.int .i64 (min 4 ((c : Int) - (i : Int) * 4))) = .returned (.int .i64 ((V : Nat) : Int))
      rw [HV.out, show min 4 ((c : Int) - (i : Int) * 4) = ((min 4 (c - 4 * i) : Nat) : Int) by omega]
end Go.Proofs.Ytpapmcdnaplmkaa

/-
  Stretches: the iterator's numbers collected.
-/
import Derived.Test.YtmokkahkfmmnmaaRIter
import Derived.RangeFuncBox
import Derived.Maps.AppendAt
import Derived.Test.YtmokkahkfmmnmaaTxt
namespace Go.Proofs.Ytmokkahkfmmnmaa
open Go.RowKit Go.Shelf
attribute [local go_sem] Oper.semAt_some

theorem intInfo : (Try.prog.info? 3).map (fun i => (i.zero, i.size, i.bytes)) = some (some (.int .i64 0), 1, 8) := by kernel_rfl
abbrev vI (x : Nat) : Value := .int .i64 ((x : Nat) : Int)
/-- a slice of numbers that the call made -/
def OwnI (w : World) (B : Nat) (v : Value) (xs : List Nat) : Prop := w.ownsRow B 3 1 v xs.length (xs.map vI)
def RI (xs : List Nat) (w : World) (e : Ending) (w' : World) : Prop := ∃ v, e = .returned v ∧ OwnI w' w.heap.size v xs ∧ Below w.heap.size w w'
theorem Hands.later {α : Type} {n g : Nat} {lb : Array Value} {encs : α → Array Value} {xs : List α} {w w' : World} (h : Hands n g lb encs xs w) (hb : Below w.heap.size w w') : Hands n g lb encs xs w' :=
  fun l J W hW hY h0 => h l J W (hb.trans (hW.mono hb.size)) hY h0
set_option maxRecDepth 100000 in
set_option maxHeartbeats 2000000 in
theorem appendSeq_in (n : Nat) (hn : 3 ≤ n) (lb : Array Value) (xs : List Nat) (hxs : xs.length ≤ 64) (w : World) (hs : Hands (n - 1) 46 lb encN xs w) :
    CallsIn Fence.wide n Try.prog 54 #[.slice none 0 0, .func (.func 46) #[] lb] w (RI xs w) := by
  obtain ⟨i0, hi, hz0, hz1, hz2⟩ := info_parts intInfo
  refine callsIn_of_wp_marks Try.func54 rfl trivial ?_ rfl
  simp only [Try.ntmps54, List.size_toArray, List.length_cons, List.length_nil, Nat.reduceAdd, Nat.reduceSub, Array.replicate_succ, Array.replicate_zero, List.push_toArray, List.append_toArray, List.nil_append, List.cons_append]
  gi_wp2
  have bO := Boxed.new w 45 (.slice none 0 0)
  have hB0 : Below w.heap.size w (w.alloc (.cells #[.slice none 0 0] 45)) := (Below.refl _ w).alloc (Nat.le_refl _) _
  refine range_hands (by omega) (gf := 46) (lb := lb) rfl (enters_of Try.func46 (by kernel_rfl) rfl) (hs.later hB0) (fun _ => rfl)
    (fun pre W => (∃ v, Boxed W w.heap.size 45 v ∧ W.ownsRow w.heap.size 3 1 v pre.length (pre.map vI) ∧ True) ∧ Below w.heap.size w W)
    (OwnFrom.and (Own.from (holdsRow_own w.heap.size w.heap.size 45 3 1 (fun pre : List Nat => pre.length) (fun pre => pre.map vI) (fun _ _ => True)) _) (ownFrom_below (Nat.le_refl _) (by simp)))
    ⟨⟨_, bO, World.ownsRow_nil _ _ _ _, trivial⟩, hB0⟩
    (fun x => { tmps := #[.slice none 0 0, .func (.func 46) #[] lb, .pointer (some ⟨w.heap.size, 0, none⟩), undef, .slice none 0 0, vI x, .func (.func 46) #[] lb, vI x, undef, undef, undef, undef, undef], defers := [] }) ?assign ?body ?done
  case assign =>
    intro l x W K hK
    gi_wp2
    exact hK
  case body =>
    rintro l pre x rest W hx ⟨⟨v, hv, hrow, _⟩, hB⟩
    have hc := hv.cell
    have hpl : pre.length < 64 := by have := congrArg List.length hx; simp at this; omega
    gi_wp2_with (gi_at_builtin; refine wpListIn_append_own _ rfl _ _ 45 rfl w.heap.size 3 i0 (.int .i64 0) 1 8 Try.underlying45 hi hz0 hz1 hz2 rfl (by decide) _ _ _ rfl (hrow.alloc _) ⟨W.heap.size, 0, none⟩ 1 1 [vI x] rfl rfl (cell_one_new _ _ _) (by simp [Value.oneCell']) (by unfold maxLen; omega) (by omega) (by have := hB.size; simp; omega) ?_; intro v' w1 hown' hgrow _; obtain ⟨g', cap', rfl⟩ := ownsRow_succ hown'; obtain ⟨hv1, hv2, hr2, hk2, hb2⟩ := hv.appended (by decide) hrow hB.size (Nat.le_refl _) hown' hgrow; have hc1 := hv1.cell; have hf1 := hv1.frozen)
    exact ⟨hk2, ⟨_, hv2, by simpa using hr2, trivial⟩, hB.trans hb2⟩
  case done =>
    rintro D W hD ⟨⟨v, hv, hrow, _⟩, hB⟩ hK
    have hc := hv.cell
    gi_wp2
    refine ⟨by simp, .inl ⟨_, _, rfl, run_takeDeferred hK, ?_⟩⟩
    exact ⟨_, results_tmp rfl _ _ _, v, rfl, ownsRow_putObj hrow _ hK rfl, hB.trans (belowK_b (w := w) (Nat.le_refl _) W D _ _ (by simp at hD; omega) hK rfl rfl)⟩
set_option maxRecDepth 100000 in
theorem collect_in (n : Nat) (hn : 4 ≤ n) (lb : Array Value) (xs : List Nat) (hxs : xs.length ≤ 64) (w : World) (hs : Hands (n - 1 - 1) 46 lb encN xs w) :
    CallsIn Fence.wide n Try.prog 41 #[.func (.func 46) #[] lb] w (RI xs w) := by
  have H := Lib.hid (appendSeq_in (n - 1) (by omega) lb xs hxs w hs)
  refine callsIn_of_wp Try.func41 rfl trivial ?_ rfl
  simp only [Try.ntmps41, List.size_toArray, List.length_cons, List.length_nil, Nat.reduceAdd, Nat.reduceSub, Array.replicate_succ, Array.replicate_zero, List.push_toArray, List.append_toArray, List.nil_append, List.cons_append]
  gi_wp2_with fail
  refine ⟨trivial, ?_⟩
  refine ⟨fun _ => by omega, ?_⟩
  refine H.out.mono ?_
  rintro e w' ⟨v, rfl, hv, hb⟩
  gi_wp2
  refine bodyPost_ret (results_tmp rfl _ _ _) rfl ?_
  exact ⟨_, rfl, hv, hb⟩
set_option maxRecDepth 100000 in
theorem stretches_any (HLN : Hid LenOf) (z : Int) (hz : z ≤ 9223372036854775807) (w : World) : Calls Try.prog 22 #[.int .i64 z] w (RI (strL z.toNat) w) := by
  have hlen : (strL z.toNat).length ≤ 64 := by
    have := strL_len 63 z.toNat (by have : (2 : Nat) ^ 63 = 9223372036854775808 := by decide
                                    omega)
    omega
  have hb : Below w.heap.size w (w.alloc (.cells #[.int .i64 z] 3)) := (Below.refl _ w).alloc (Nat.le_refl _) _
  have H := Lib.hid (collect_in 6 (by decide) #[.pointer (some ⟨w.heap.size, 0, none⟩)] (strL z.toNat) hlen (w.alloc (.cells #[.int .i64 z] 3)) (str1_hands HLN 4 w.heap.size (by decide) z hz _ (by simp) (Boxed.new w 3 (.int .i64 z)).cell))
  generalize strL z.toNat = L at *
  refine (callsIn_wide (n := 7)).1 ?_
  refine callsIn_of_wp Try.func22 rfl trivial ?_ rfl
  simp only [Try.ntmps22, List.size_toArray, List.length_cons, List.length_nil, Nat.reduceAdd, Nat.reduceSub, Array.replicate_succ, Array.replicate_zero, List.push_toArray, List.append_toArray, List.nil_append, List.cons_append]
  gi_wp2_with fail
  refine ⟨trivial, ?_⟩
  refine (stretches_in _ _ _).mono ?_
  rintro e w1 ⟨rfl, rfl⟩
  gi_wp2_with fail
  refine ⟨trivial, ?_⟩
  refine H.out.mono ?_
  rintro e w' ⟨v, rfl, hv, hb2⟩
  gi_wp2
  refine bodyPost_ret (results_tmp rfl _ _ _) rfl ?_
  exact ⟨_, rfl, World.ownsRow.mono hv (by simp), hb.trans (hb2.mono (by simp))⟩
end Go.Proofs.Ytmokkahkfmmnmaa

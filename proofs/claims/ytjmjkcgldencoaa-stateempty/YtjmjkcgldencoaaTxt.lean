/-
  Texts, slices of texts, and such slices that a call made and appends to.
-/
import Derived.Test.YtjmjkcgldencoaaBase
import Derived.Deep.AppendLies
import Derived.Deep.Onto
namespace Go.Proofs.Ytjmjkcgldencoaa
open Go.RowKit

theorem boolEq {a b : Bool} (h : a = b) : Ending.returned (.bool a) = .returned (.bool b) := by rw [h]
theorem strEq {a b : ByteArray} (h : a = b) : Ending.returned (.string a) = .returned (.string b) := by rw [h]
theorem toList_nil (s : ByteArray) : (s.toList = []) = (s.size = 0) := by
  rw [ByteArray.toList_eq, Array.toList_eq_nil_iff, ← Array.size_eq_zero_iff]
  rfl
theorem toList_nil' (s : ByteArray) : s.toList.isEmpty = decide (s.size = 0) := by
  rw [Bool.eq_iff_iff, List.isEmpty_iff, toList_nil, decide_eq_true_iff]
theorem toList_nil'' (s : ByteArray) : (s.toList == []) = decide (s.size = 0) := by
  rw [Bool.eq_iff_iff, beq_iff_eq, toList_nil, decide_eq_true_iff]
theorem addRun {a b : ByteArray} (h : a.size + b.size ≤ 9223372036854775807) : ∀ W : World, (Op.stringOp .add a b).run Try.prog W = .ok (.string (a ++ b)) W := by
  intro W
  exact run_string_add_sum W a b (by omega)
theorem empty_append (b : ByteArray) : (⟨#[]⟩ : ByteArray) ++ b = b := by apply ByteArray.ext; rw [ByteArray.data_append]; simp
theorem append_empty (b : ByteArray) : b ++ (⟨#[]⟩ : ByteArray) = b := by apply ByteArray.ext; rw [ByteArray.data_append]; simp
theorem toList_append (a b : ByteArray) : (a ++ b).data.toList = a.data.toList ++ b.data.toList := by rw [ByteArray.data_append]; simp
theorem of_toList (a : ByteArray) : (⟨a.data.toList.toArray⟩ : ByteArray) = a := by cases a; simp
/-- the slice at oa reads as the texts ss -/
def Strs (w : World) (oa : Option Addr) (ss : List ByteArray) : Prop := ∀ i, i < ss.length → ∃ a, oa = some a ∧ a.block < w.heap.size ∧ w.cell? (a.add i) = some (.string (ss.getD i ByteArray.empty))
theorem Strs.below {w w' : World} {oa : Option Addr} {ss : List ByteArray} (h : Strs w oa ss) (hb : Below w.heap.size w w') : Strs w' oa ss := by
  intro i hi
  obtain ⟨a, rfl, hab, hc⟩ := h i hi
  exact ⟨a, rfl, Nat.lt_of_lt_of_le hab hb.size, (hb.cell (by rw [add_block]; exact hab)).trans hc⟩
theorem only_of_below {a w : World} (h : Below a.heap.size a w) (row : Option Nat) : a.grownBy w row := ⟨h.os, h.tape, h.output, h.size, fun i hi _ => h.block i hi⟩
theorem strInfo : (Try.prog.info? 9).map (fun i => (i.zero, i.size, i.bytes)) = some (some (.string ⟨#[]⟩), 1, 16) := by kernel_rfl
/-- a slice of texts that the call made -/
def Own (w : World) (B : Nat) (v : Value) (ss : List ByteArray) : Prop := w.ownsRow B 9 1 v ss.length (ss.map .string)
theorem Own.form {w : World} {B : Nat} {v : Value} {ss : List ByteArray} (h : Own w B v ss) : ∃ oa cap, v = .slice oa ss.length cap ∧ Strs w oa ss := by
  have h0 := h
  rcases h.2 with ⟨rfl, hn⟩ | ⟨g, cap, cur, rfl, hg, hk, hc1, hc2, hc3, hc4⟩
  · exact ⟨none, 0, by rw [hn], fun i hi => absurd hi (by omega)⟩
  · refine ⟨some ⟨g, 0, none⟩, cap, rfl, fun i hi => ⟨_, rfl, (show Blk w g 9 cur from hk).lt, ?_⟩⟩
    have := World.ownsRow.cells h0 (g := g) rfl i (.string (ss.getD i ByteArray.empty)) (by rw [List.getElem?_map, List.getElem?_eq_getElem hi, List.getD_eq_getElem?_getD, List.getElem?_eq_getElem hi]; rfl)
    exact this
theorem own_nil (w : World) (B : Nat) : Own w B (.slice none 0 0) [] := ⟨rfl, .inl ⟨rfl, rfl⟩⟩
/-- the texts ss lie in block g, from o on -/
def Row (w : World) (g o : Nat) (ss : List ByteArray) : Prop := g < w.heap.size ∧ ∀ i, i < ss.length → w.cell? ⟨g, o + i, none⟩ = some (.string (ss.getD i ByteArray.empty))
theorem Row.below {w w' : World} {B g o : Nat} {ss : List ByteArray} (h : Row w g o ss) (hb : Below B w w') (hg : g < B) : Row w' g o ss :=
  ⟨Nat.lt_of_lt_of_le h.1 hb.size, fun i hi => (hb.cell (p := ⟨g, o + i, none⟩) hg).trans (h.2 i hi)⟩
theorem addr_add (g o i : Nat) : (⟨g, o, none⟩ : Addr).add i = ⟨g, o + i, none⟩ := by unfold Addr.add; split <;> simp_all
set_option maxRecDepth 100000 in
theorem slice_from (g o n cap l : Nat) (hn : l < n) (hc : n ≤ cap) (W : World) : (Instr.slice 45 (.slice (some ⟨g, o, none⟩) n cap) (some (.int .i64 (l : Int))) none none).run Try.prog W = .ok (.slice (some ⟨g, o + l, none⟩) (n - l) (cap - l)) W := by
  rw [run_slice_l W _ _ n cap Try.underlying45 .i64 (l : Int) (by omega) (by omega)]
  have hs : (sizeOf (Try.prog.elem 45)).run Try.prog W = .ok 1 W := by kernel_rfl
  rw [hs]
  simp only [Result.andThen_ok, sliced, Int.toNat_natCast, if_neg (show ¬ cap = l by omega), Nat.mul_one, Option.map_some, addr_add]
theorem grown_refl (w : World) (row : Option Nat) : w.grownBy w row := ⟨rfl, rfl, rfl, Nat.le_refl _, fun _ _ _ => rfl⟩
theorem grown_trans {a b c : World} {row : Option Nat} (h : a.grownBy b row) (k : b.grownBy c row) : a.grownBy c row :=
  ⟨k.os.trans h.os, k.tape.trans h.tape, k.output.trans h.output, Nat.le_trans h.size k.size, fun i hi hne => (k.block i (Nat.lt_of_lt_of_le hi h.size) hne).trans (h.block i hi hne)⟩
theorem grown_alloc {a w : World} {row : Option Nat} (h : a.grownBy w row) (o : Obj) : a.grownBy (w.alloc o) row :=
  ⟨h.os, h.tape, h.output, Nat.le_trans h.size (by simp), fun i hi hne => (Below.heap_alloc w o i (Nat.lt_of_lt_of_le hi h.size)).trans (h.block i hi hne)⟩
theorem Row.grown {w w' : World} {g o : Nat} {ss : List ByteArray} {row : Option Nat} (h : Row w g o ss) (hg : w.grownBy w' row) (hne : some g ≠ row) : Row w' g o ss :=
  ⟨Nat.lt_of_lt_of_le h.1 hg.size, fun i hi => (World.cell?_of_block (a := ⟨g, o + i, none⟩) (hg.block g h.1 hne)).trans (h.2 i hi)⟩
theorem Own.mono {w : World} {B B' : Nat} {v : Value} {ss : List ByteArray} (h : Own w B v ss) (hb : B' ≤ B) : Own w B' v ss := World.ownsRow.mono h hb
theorem Own.grown {w w' : World} {B : Nat} {v : Value} {ss : List ByteArray} {row : Option Nat} (h : Own w B v ss) (hg : w.grownBy w' row) (hne : v.ownBlock ≠ row) : Own w' B v ss := World.ownsRow.kept h hg (.inr hne)
theorem Own.below {w w' : World} {B : Nat} {v : Value} {ss : List ByteArray} (h : Own w B v ss) (hb : Below w.heap.size w w') : Own w' B v ss :=
  World.ownsRow.kept h (only_of_below hb none) (by cases v.ownBlock <;> simp)
theorem Own.row {w : World} {B : Nat} {v : Value} {ss : List ByteArray} (h : Own w B v ss) (hne : 0 < ss.length) : ∃ g cap, v = .slice (some ⟨g, 0, none⟩) ss.length cap ∧ B ≤ g ∧ ss.length ≤ cap ∧ Row w g 0 ss := by
  have h0 := h
  rcases h.2 with ⟨rfl, hn⟩ | ⟨g, cap, cur, rfl, hg, hk, hc1, hc2, hc3, hc4⟩
  · omega
  · refine ⟨g, cap, rfl, hg, hc1, (show Blk w g 9 cur from hk).lt, fun i hi => ?_⟩
    have := World.ownsRow.cells h0 (g := g) rfl i (.string (ss.getD i ByteArray.empty)) (by rw [List.getElem?_map, List.getElem?_eq_getElem hi, List.getD_eq_getElem?_getD, List.getElem?_eq_getElem hi]; rfl)
    rw [addr_add] at this
    exact this
theorem Own.at {w : World} {B : Nat} {v : Value} {ss : List ByteArray} {n : Nat} (h : Own w B v ss) (hn : ss.length = n) : ∃ oa cap, v = .slice oa n cap := by
  obtain ⟨oa, cap, hv, _⟩ := h.form
  exact ⟨oa, cap, by rw [hv, hn]⟩
/-- append(v, y) in a region that draws its order -/
theorem step_append_txt {W : World} {ops : Array Oper} {o : Oper} {a : Act} {K : Act → World → Prop} {Q : Exit → Act → World → Prop} {E : Prop} (hgd : o.guard = none) (s x : Operand)
    (ho : o.op = .call { callee := .builtin .append, args := #[s, x], argTypes := #[45, 45] }) (B : Nat) (v : Value) (ss : List ByteArray) (hs : a.eval s = v) (hown : Own W B v ss) (y : ByteArray)
    (hx : a.eval x = .slice (some ⟨W.heap.size, 0, none⟩) 1 1) (hlen : ss.length ≤ 1073741824) (hB : B ≤ W.heap.size)
    (h : ∀ g cap w', Own w' B (.slice (some ⟨g, 0, none⟩) (ss.length + 1) cap) (ss ++ [y]) → W.grownBy w' v.ownBlock → K (a.put o.dst (.slice (some ⟨g, 0, none⟩) (ss.length + 1) cap)) w') :
    if Region.wanted o (yielded ops a.tmps) = true then Oper.wp Try.prog o a (W.alloc (.cells #[.string y] 9)) K Q else E := by
  obtain ⟨i0, hi, hz0, hz1, hz2⟩ := info_parts strInfo
  refine step_append_lies _ hgd s x 45 ho B 9 i0 (.string ⟨#[]⟩) 1 16 Try.underlying45 hi hz0 hz1 hz2 rfl (by decide) v ss.length (ss.map .string) hs (World.ownsRow.alloc hown _)
    ⟨W.heap.size, 0, none⟩ 1 1 [.string y] hx rfl (cell_one_new W (.string y) 9) (by intro u hu; simp at hu; subst hu; rfl) (by decide) (by unfold maxLen; omega) (by omega) (by simp; omega) (W.heap.size + 1) (by simp) ?_
  intro g cap w' hown1 hgrow hat hlt
  refine h g cap w' ?_ (grown_trans (grown_alloc (grown_refl W _) _) hgrow)
  unfold Own
  rw [List.length_append, List.map_append]
  exact hown1
/-- append(v, y) -/
theorem wpList_append_txt {W : World} {ops : Array Oper} {rest : List Oper} {o : Oper} {a : Act} {Q : Exit → Act → World → Prop} (hgd : o.guard = none) (s x : Operand)
    (ho : o.op = .call { callee := .builtin .append, args := #[s, x], argTypes := #[45, 45] }) (B : Nat) (v : Value) (ss : List ByteArray) (hs : a.eval s = v) (hown : Own W B v ss) (y : ByteArray)
    (hx : a.eval x = .slice (some ⟨W.heap.size, 0, none⟩) 1 1) (hlen : ss.length ≤ 1073741824) (hB : B ≤ W.heap.size)
    (h : ∀ g cap w', Own w' B (.slice (some ⟨g, 0, none⟩) (ss.length + 1) cap) (ss ++ [y]) → W.grownBy w' v.ownBlock → wpList Try.prog ops Q rest (a.put o.dst (.slice (some ⟨g, 0, none⟩) (ss.length + 1) cap)) w') :
    wpList Try.prog ops Q (o :: rest) a (W.alloc (.cells #[.string y] 9)) := by
  obtain ⟨i0, hi, hz0, hz1, hz2⟩ := info_parts strInfo
  refine wpList_append_lies _ hgd s x 45 ho B 9 i0 (.string ⟨#[]⟩) 1 16 Try.underlying45 hi hz0 hz1 hz2 rfl (by decide) v ss.length (ss.map .string) hs (World.ownsRow.alloc hown _)
    ⟨W.heap.size, 0, none⟩ 1 1 [.string y] hx rfl (cell_one_new W (.string y) 9) (by intro u hu; simp at hu; subst hu; rfl) (by decide) (by unfold maxLen; omega) (by omega) (by simp; omega) (W.heap.size + 1) (by simp) ?_
  intro g cap w' hown1 hgrow hat hlt
  refine h g cap w' ?_ (grown_trans (grown_alloc (grown_refl W _) _) hgrow)
  unfold Own
  rw [List.length_append, List.map_append]
  exact hown1
theorem txt_load {w : World} {p : Addr} {x : ByteArray} (h : w.cell? p = some (.string x)) : (loadVar 9 p).run Try.prog w = .ok (.string x) w := str_load h
/-- what a call that makes a slice of texts answers -/
def RT (ss : List ByteArray) (w : World) (e : Ending) (w' : World) : Prop := ∃ v, e = .returned v ∧ Own w' w.heap.size v ss ∧ Below w.heap.size w w'
/-- f of 0 and so on below n -/
def fstN (f : Nat → ByteArray) (n : Nat) : List ByteArray := (List.range n).map f
theorem fstN_length (f : Nat → ByteArray) (n : Nat) : (fstN f n).length = n := by simp [fstN]
theorem fstN_succ (f : Nat → ByteArray) (n : Nat) : fstN f (n + 1) = fstN f n ++ [f n] := by simp [fstN, List.range_succ]
theorem fstN_get (f : Nat → ByteArray) {n i : Nat} (h : i < n) : (fstN f n).getD i ByteArray.empty = f i := by
  simp [fstN, List.getD_eq_getElem?_getD, h]
theorem fstN_congr {f g : Nat → ByteArray} {n : Nat} (h : ∀ i, i < n → f i = g i) : fstN f n = fstN g n := by
  unfold fstN
  exact List.map_congr_left fun i hi => h i (List.mem_range.1 hi)
theorem beqB5 (a b : ByteArray) : (a.toList == b.toList) = decide (a = b) := by
  rw [Bool.eq_iff_iff, beq_iff_eq, decide_eq_true_iff]
  constructor
  · intro h
    rw [ByteArray.toList_eq, ByteArray.toList_eq] at h
    exact ByteArray.ext (Array.toList_inj.1 h)
  · rintro rfl; rfl
end Go.Proofs.Ytjmjkcgldencoaa

/-
  Texts, slices of texts, and such slices that a call made and appends to. Slices of structs, of any kind: how they read, and such slices that a call made and appends to.
-/
import Derived.Test.YtakgolbgeeoioaaGreatBase
import Derived.Deep.AppendLies
import Derived.Deep.Onto
import Derived.Lib.AppendZerosOnto
import Derived.Deep.MidRow
namespace Go.Proofs.YtakgolbgeeoioaaGreat
open Go.RowKit

theorem boolEq {a b : Bool} (h : a = b) : Ending.returned (.bool a) = .returned (.bool b) := by rw [h]
theorem strEq {a b : ByteArray} (h : a = b) : Ending.returned (.string a) = .returned (.string b) := by rw [h]
theorem toList_nil (s : ByteArray) : (s.toList = []) = (s.size = 0) := by
 rw [ByteArray.toList_eq, Array.toList_eq_nil_iff, ← Array.size_eq_zero_iff]
 rfl
theorem toList_nil' (s : ByteArray) : s.toList.isEmpty = decide (s.size = 0) := by
 rw [Bool.eq_iff_iff, List.isEmpty_iff, toList_nil, decide_eq_true_iff]
theorem toList_nil'' (s : ByteArray) : (s.toList == []) = decide (s.size = 0) := by
 rw [Bool.eq_iff_iff, beq_iff_eq, toList_nil, decide_eq_true_iff]
theorem addRun {a b : ByteArray} (h : a.size + b.size ≤ 9223372036854775807) : ∀ W : World, (Op.stringOp .add a b).run Tryz.prog W = .ok (.string (a ++ b)) W := by
 intro W
 exact run_string_add_sum W a b (by omega)
theorem empty_append (b : ByteArray) : (⟨#[]⟩ : ByteArray) ++ b = b := by apply ByteArray.ext; rw [ByteArray.data_append]; simp
theorem append_empty (b : ByteArray) : b ++ (⟨#[]⟩ : ByteArray) = b := by apply ByteArray.ext; rw [ByteArray.data_append]; simp
theorem toList_append (a b : ByteArray) : (a ++ b).data.toList = a.data.toList ++ b.data.toList := by rw [ByteArray.data_append]; simp
theorem of_toList (a : ByteArray) : (⟨a.data.toList.toArray⟩ : ByteArray) = a := by cases a; simp
/-- the slice at oa reads as the texts ss -/
def Strs (w : World) (oa : Option Addr) (ss : List ByteArray) : Prop := ∀ i, i < ss.length → ∃ a, oa = some a ∧ a.block < w.heap.size ∧ w.cell? (a.add i) = some (.string (ss.getD i ByteArray.empty))
theorem Strs.below {w w' : World} {oa : Option Addr} {ss : List ByteArray} (h : Strs w oa ss) (hb : Below w.heap.size w w') : Strs w' oa ss := by
 intro i hi
 obtain ⟨a, rfl, hab, hc⟩ := h i hi
 exact ⟨a, rfl, Nat.lt_of_lt_of_le hab hb.size, (hb.cell (by rw [add_block]; exact hab)).trans hc⟩
theorem only_of_below {a w : World} (h : Below a.heap.size a w) (row : Option Nat) : a.grownBy w row := ⟨h.os, h.tape, h.output, h.size, fun i hi _ => h.block i hi⟩
theorem strInfo : (Tryz.prog.info? 9).map (fun i => (i.zero, i.size, i.bytes)) = some (some (.string ⟨#[]⟩), 1, 16) := by kernel_rfl
/-- a slice of texts that the call made -/
def Own (w : World) (B : Nat) (v : Value) (ss : List ByteArray) : Prop := w.ownsRow B 9 1 v ss.length (ss.map .string)
theorem Own.form {w : World} {B : Nat} {v : Value} {ss : List ByteArray} (h : Own w B v ss) : ∃ oa cap, v = .slice oa ss.length cap ∧ Strs w oa ss := by
 have h0 := h
 rcases h.2 with ⟨rfl, hn⟩ | ⟨g, cap, cur, rfl, hg, hk, hc1, hc2, hc3, hc4⟩
 · exact ⟨none, 0, by rw [hn], fun i hi => absurd hi (by omega)⟩
 · refine ⟨some ⟨g, 0, none⟩, cap, rfl, fun i hi => ⟨_, rfl, (show Blk w g 9 cur from hk).lt, ?_⟩⟩
   have := World.ownsRow.cells h0 (g := g) rfl i (.string (ss.getD i ByteArray.empty)) (by rw [List.getElem?_map, List.getElem?_eq_getElem hi, List.getD_eq_getElem?_getD, List.getElem?_eq_getElem hi]; rfl)
   exact this
theorem own_nil (w : World) (B : Nat) : Own w B (.slice none 0 0) [] := ⟨rfl, .inl ⟨rfl, rfl⟩⟩
/-- the texts ss lie in block g, from o on -/
def Row (w : World) (g o : Nat) (ss : List ByteArray) : Prop := g < w.heap.size ∧ ∀ i, i < ss.length → w.cell? ⟨g, o + i, none⟩ = some (.string (ss.getD i ByteArray.empty))
theorem Row.below {w w' : World} {B g o : Nat} {ss : List ByteArray} (h : Row w g o ss) (hb : Below B w w') (hg : g < B) : Row w' g o ss :=
 ⟨Nat.lt_of_lt_of_le h.1 hb.size, fun i hi => (hb.cell (p := ⟨g, o + i, none⟩) hg).trans (h.2 i hi)⟩
theorem addr_add (g o i : Nat) : (⟨g, o, none⟩ : Addr).add i = ⟨g, o + i, none⟩ := by unfold Addr.add; split <;> simp_all
set_option maxRecDepth 100000 in
theorem slice_from (g o n cap l : Nat) (hn : l < n) (hc : n ≤ cap) (W : World) : (Instr.slice 86 (.slice (some ⟨g, o, none⟩) n cap) (some (.int .i64 (l : Int))) none none).run Tryz.prog W = .ok (.slice (some ⟨g, o + l, none⟩) (n - l) (cap - l)) W := by
 rw [run_slice_l W _ _ n cap Tryz.underlying86 .i64 (l : Int) (by omega) (by omega)]
 have hs : (sizeOf (Tryz.prog.elem 86)).run Tryz.prog W = .ok 1 W := by kernel_rfl
 rw [hs]
 simp only [Result.andThen_ok, sliced, Int.toNat_natCast, if_neg (show ¬ cap = l by omega), Nat.mul_one, Option.map_some, addr_add]
theorem grown_refl (w : World) (row : Option Nat) : w.grownBy w row := ⟨rfl, rfl, rfl, Nat.le_refl _, fun _ _ _ => rfl⟩
theorem grown_trans {a b c : World} {row : Option Nat} (h : a.grownBy b row) (k : b.grownBy c row) : a.grownBy c row :=
 ⟨k.os.trans h.os, k.tape.trans h.tape, k.output.trans h.output, Nat.le_trans h.size k.size, fun i hi hne => (k.block i (Nat.lt_of_lt_of_le hi h.size) hne).trans (h.block i hi hne)⟩
theorem grown_alloc {a w : World} {row : Option Nat} (h : a.grownBy w row) (o : Obj) : a.grownBy (w.alloc o) row :=
 ⟨h.os, h.tape, h.output, Nat.le_trans h.size (by simp), fun i hi hne => (Below.heap_alloc w o i (Nat.lt_of_lt_of_le hi h.size)).trans (h.block i hi hne)⟩
theorem Row.grown {w w' : World} {g o : Nat} {ss : List ByteArray} {row : Option Nat} (h : Row w g o ss) (hg : w.grownBy w' row) (hne : some g ≠ row) : Row w' g o ss :=
 ⟨Nat.lt_of_lt_of_le h.1 hg.size, fun i hi => (World.cell?_of_block (a := ⟨g, o + i, none⟩) (hg.block g h.1 hne)).trans (h.2 i hi)⟩
theorem Own.mono {w : World} {B B' : Nat} {v : Value} {ss : List ByteArray} (h : Own w B v ss) (hb : B' ≤ B) : Own w B' v ss := World.ownsRow.mono h hb
theorem Own.grown {w w' : World} {B : Nat} {v : Value} {ss : List ByteArray} {row : Option Nat} (h : Own w B v ss) (hg : w.grownBy w' row) (hne : v.ownBlock ≠ row) : Own w' B v ss := World.ownsRow.kept h hg (.inr hne)
theorem Own.below {w w' : World} {B : Nat} {v : Value} {ss : List ByteArray} (h : Own w B v ss) (hb : Below w.heap.size w w') : Own w' B v ss :=
 World.ownsRow.kept h (only_of_below hb none) (by cases v.ownBlock <;> simp)
theorem Own.row {w : World} {B : Nat} {v : Value} {ss : List ByteArray} (h : Own w B v ss) (hne : 0 < ss.length) : ∃ g cap, v = .slice (some ⟨g, 0, none⟩) ss.length cap ∧ B ≤ g ∧ ss.length ≤ cap ∧ Row w g 0 ss := by
 have h0 := h
 rcases h.2 with ⟨rfl, hn⟩ | ⟨g, cap, cur, rfl, hg, hk, hc1, hc2, hc3, hc4⟩
 · omega
 · refine ⟨g, cap, rfl, hg, hc1, (show Blk w g 9 cur from hk).lt, fun i hi => ?_⟩
   have := World.ownsRow.cells h0 (g := g) rfl i (.string (ss.getD i ByteArray.empty)) (by rw [List.getElem?_map, List.getElem?_eq_getElem hi, List.getD_eq_getElem?_getD, List.getElem?_eq_getElem hi]; rfl)
   rw [addr_add] at this
   exact this
theorem Own.at {w : World} {B : Nat} {v : Value} {ss : List ByteArray} {n : Nat} (h : Own w B v ss) (hn : ss.length = n) : ∃ oa cap, v = .slice oa n cap := by
 obtain ⟨oa, cap, hv, _⟩ := h.form
 exact ⟨oa, cap, by rw [hv, hn]⟩
/-- append(v, y) in a region that draws its order -/
theorem step_append_txt {W : World} {ops : Array Oper} {o : Oper} {a : Act} {K : Act → World → Prop} {Q : Exit → Act → World → Prop} {E : Prop} (hgd : o.guard = none) (s x : Operand)
 (ho : o.op = .call { callee := .builtin .append, args := #[s, x], argTypes := #[86, 86] }) (B : Nat) (v : Value) (ss : List ByteArray) (hs : a.eval s = v) (hown : Own W B v ss) (y : ByteArray)
 (hx : a.eval x = .slice (some ⟨W.heap.size, 0, none⟩) 1 1) (hlen : ss.length ≤ 1073741824) (hB : B ≤ W.heap.size)
 (h : ∀ g cap w', Own w' B (.slice (some ⟨g, 0, none⟩) (ss.length + 1) cap) (ss ++ [y]) → W.grownBy w' v.ownBlock → K (a.put o.dst (.slice (some ⟨g, 0, none⟩) (ss.length + 1) cap)) w') :
 if Region.wanted o (yielded ops a.tmps) = true then Oper.wp Tryz.prog o a (W.alloc (.cells #[.string y] 9)) K Q else E := by
 obtain ⟨i0, hi, hz0, hz1, hz2⟩ := info_parts strInfo
 refine step_append_lies _ hgd s x 86 ho B 9 i0 (.string ⟨#[]⟩) 1 16 Tryz.underlying86 hi hz0 hz1 hz2 rfl (by decide) v ss.length (ss.map .string) hs (World.ownsRow.alloc hown _)
  ⟨W.heap.size, 0, none⟩ 1 1 [.string y] hx rfl (cell_one_new W (.string y) 9) (by intro u hu; simp at hu; subst hu; rfl) (by decide) (by unfold maxLen; omega) (by omega) (by simp; omega) (W.heap.size + 1) (by simp) ?_
 intro g cap w' hown1 hgrow hat hlt
 refine h g cap w' ?_ (grown_trans (grown_alloc (grown_refl W _) _) hgrow)
 unfold Own
 rw [List.length_append, List.map_append]
 exact hown1
/-- append(v, y) -/
theorem wpList_append_txt {W : World} {ops : Array Oper} {rest : List Oper} {o : Oper} {a : Act} {Q : Exit → Act → World → Prop} (hgd : o.guard = none) (s x : Operand)
 (ho : o.op = .call { callee := .builtin .append, args := #[s, x], argTypes := #[86, 86] }) (B : Nat) (v : Value) (ss : List ByteArray) (hs : a.eval s = v) (hown : Own W B v ss) (y : ByteArray)
 (hx : a.eval x = .slice (some ⟨W.heap.size, 0, none⟩) 1 1) (hlen : ss.length ≤ 1073741824) (hB : B ≤ W.heap.size)
 (h : ∀ g cap w', Own w' B (.slice (some ⟨g, 0, none⟩) (ss.length + 1) cap) (ss ++ [y]) → W.grownBy w' v.ownBlock → wpList Tryz.prog ops Q rest (a.put o.dst (.slice (some ⟨g, 0, none⟩) (ss.length + 1) cap)) w') :
 wpList Tryz.prog ops Q (o :: rest) a (W.alloc (.cells #[.string y] 9)) := by
 obtain ⟨i0, hi, hz0, hz1, hz2⟩ := info_parts strInfo
 refine wpList_append_lies _ hgd s x 86 ho B 9 i0 (.string ⟨#[]⟩) 1 16 Tryz.underlying86 hi hz0 hz1 hz2 rfl (by decide) v ss.length (ss.map .string) hs (World.ownsRow.alloc hown _)
  ⟨W.heap.size, 0, none⟩ 1 1 [.string y] hx rfl (cell_one_new W (.string y) 9) (by intro u hu; simp at hu; subst hu; rfl) (by decide) (by unfold maxLen; omega) (by omega) (by simp; omega) (W.heap.size + 1) (by simp) ?_
 intro g cap w' hown1 hgrow hat hlt
 refine h g cap w' ?_ (grown_trans (grown_alloc (grown_refl W _) _) hgrow)
 unfold Own
 rw [List.length_append, List.map_append]
 exact hown1
theorem txt_load {w : World} {p : Addr} {x : ByteArray} (h : w.cell? p = some (.string x)) : (loadVar 9 p).run Tryz.prog w = .ok (.string x) w := str_load h
/-- what a call that makes a slice of texts answers -/
def RT (ss : List ByteArray) (w : World) (e : Ending) (w' : World) : Prop := ∃ v, e = .returned v ∧ Own w' w.heap.size v ss ∧ Below w.heap.size w w'
/-- f of 0 and so on below n -/
def fstN (f : Nat → ByteArray) (n : Nat) : List ByteArray := (List.range n).map f
theorem fstN_length (f : Nat → ByteArray) (n : Nat) : (fstN f n).length = n := by simp [fstN]
theorem fstN_succ (f : Nat → ByteArray) (n : Nat) : fstN f (n + 1) = fstN f n ++ [f n] := by simp [fstN, List.range_succ]
theorem fstN_get (f : Nat → ByteArray) {n i : Nat} (h : i < n) : (fstN f n).getD i ByteArray.empty = f i := by
 simp [fstN, List.getD_eq_getElem?_getD, h]
theorem fstN_congr {f g : Nat → ByteArray} {n : Nat} (h : ∀ i, i < n → f i = g i) : fstN f n = fstN g n := by
 unfold fstN
 exact List.map_congr_left fun i hi => h i (List.mem_range.1 hi)
theorem beqB5 (a b : ByteArray) : (a.toList == b.toList) = decide (a = b) := by
 rw [Bool.eq_iff_iff, beq_iff_eq, decide_eq_true_iff]
 constructor
 · intro h
   rw [ByteArray.toList_eq, ByteArray.toList_eq] at h
   exact ByteArray.ext (Array.toList_inj.1 h)
 · rintro rfl; rfl
end Go.Proofs.YtakgolbgeeoioaaGreat
namespace Go.Proofs.YtakgolbgeeoioaaGreat
open Go.RowKit

/-- a kind of struct: its type, that of its slices, how many cells and bytes it has, what is zero, and a value's cells -/
structure Kind (α : Type) where
 t : TypeId
 ts : TypeId
 k : Nat
 bytes : Nat
 zero : Value
 enc : α → List Value
structure Kind.Ok {α : Type} (K : Kind α) : Prop where
 info : (Tryz.prog.info? K.t).map (fun i => (i.zero, i.size, i.bytes)) = some (some K.zero, K.k, K.bytes)
 under : Tryz.prog.underlying K.ts = some (.slice K.t)
 self : ∃ d, Tryz.prog.underlying K.t = some d ∧ d.isRow = true
 len : ∀ x, (K.enc x).length = K.k
 one : ∀ x, ∀ v ∈ K.enc x, v.oneCell' = true
 pos : 0 < K.k
 zlen : K.zero.cells.size = K.k
 small : K.bytes ≤ 1024

section
variable {α : Type} {K : Kind α}
def cellsG (K : Kind α) (xs : List α) : List Value := xs.flatMap K.enc
theorem cellsG_len (h : K.Ok) (xs : List α) : (cellsG K xs).length = xs.length * K.k := by
 induction xs with
 | nil => simp [cellsG]
 | cons x r ih =>
  show (K.enc x ++ cellsG K r).length = (r.length + 1) * K.k
  rw [List.length_append, h.len, ih, Nat.add_mul, Nat.one_mul, Nat.add_comm]
theorem cellsG_app (xs ys : List α) : cellsG K (xs ++ ys) = cellsG K xs ++ cellsG K ys := by simp [cellsG]
theorem cellsG_one (x : α) : cellsG K [x] = K.enc x := by simp [cellsG]
theorem cellsG_mem (h : K.Ok) {xs : List α} : ∀ u ∈ cellsG K xs, u.oneCell' = true := by
 intro u hu
 obtain ⟨x, _, hx⟩ := List.mem_flatMap.1 hu
 exact h.one x u hx
theorem cellsG_get (h : K.Ok) : ∀ {xs : List α} {i : Nat} {x : α}, xs[i]? = some x → ∀ {j : Nat} {v : Value}, (K.enc x)[j]? = some v → (cellsG K xs)[i * K.k + j]? = some v
 | [], i, x, hx, _, _, _ => by simp at hx
 | y :: r, 0, x, hx, j, v, hv => by
  obtain rfl : y = x := by simpa using hx
  show (K.enc y ++ cellsG K r)[0 * K.k + j]? = some v
  rw [Nat.zero_mul, Nat.zero_add, List.getElem?_append_left (List.getElem?_eq_some_iff.1 hv).1]
  exact hv
 | y :: r, i + 1, x, hx, j, v, hv => by
  show (K.enc y ++ cellsG K r)[(i + 1) * K.k + j]? = some v
  have hk := h.len y
  rw [List.getElem?_append_right (by rw [hk, Nat.add_mul, Nat.one_mul]; omega), hk, show (i + 1) * K.k + j - K.k = i * K.k + j by rw [Nat.add_mul, Nat.one_mul]; omega]
  exact cellsG_get h (by simpa using hx) hv
theorem cellsG_inv (h : K.Ok) : ∀ {xs : List α} {m : Nat} {v : Value}, (cellsG K xs)[m]? = some v → ∃ i j x, m = i * K.k + j ∧ xs[i]? = some x ∧ (K.enc x)[j]? = some v
 | [], m, v, hv => by simp [cellsG] at hv
 | y :: r, m, v, hv => by
  have hk := h.len y
  have hv : (K.enc y ++ cellsG K r)[m]? = some v := hv
  by_cases hm : m < K.k
  · rw [List.getElem?_append_left (by omega)] at hv
    exact ⟨0, m, y, by omega, rfl, hv⟩
  · rw [List.getElem?_append_right (by omega), hk] at hv
    obtain ⟨i, j, x, e, hx, hj⟩ := cellsG_inv h hv
    exact ⟨i + 1, j, x, by rw [Nat.add_mul, Nat.one_mul]; omega, by simpa using hx, hj⟩
/-- the slice at oa reads as xs -/
def RowG (K : Kind α) (w : World) (oa : Option Addr) (xs : List α) : Prop := ∀ i x, xs[i]? = some x → ∃ g o, oa = some ⟨g, o, none⟩ ∧ g < w.heap.size ∧ ∀ j v, (K.enc x)[j]? = some v → w.cell? ⟨g, o + (i * K.k + j), none⟩ = some v
theorem RowG.nil (w : World) (oa : Option Addr) : RowG K w oa [] := fun i x hx => by simp at hx
theorem RowG.below {w w' : World} {oa : Option Addr} {xs : List α} (h : RowG K w oa xs) (hb : Below w.heap.size w w') : RowG K w' oa xs := by
 intro i x hx
 obtain ⟨g, o, h1, h2, h3⟩ := h i x hx
 exact ⟨g, o, h1, Nat.lt_of_lt_of_le h2 hb.size, fun j v hv => (hb.cell (p := ⟨g, o + (i * K.k + j), none⟩) h2).trans (h3 j v hv)⟩
theorem RowG.take {w : World} {oa : Option Addr} {xs : List α} (h : RowG K w oa xs) (n : Nat) : RowG K w oa (xs.take n) := by
 intro i x hx
 refine h i x ?_
 rw [List.getElem?_take] at hx
 split at hx
 · exact hx
 · cases hx
/-- an element's struct, as the walk loads it -/
theorem RowG.load (hK : K.Ok) {w : World} {g o : Nat} {xs : List α} (h : RowG K w (some ⟨g, o, none⟩) xs) {i : Nat} {x : α} (hx : xs[i]? = some x) : (loadVar K.t ⟨g, o + i * K.k, none⟩).run Tryz.prog w = .ok (.agg (K.enc x).toArray) w := by
 obtain ⟨g', o', h1, _, h3⟩ := h i x hx
 cases h1
 obtain ⟨d, hd1, hd2⟩ := hK.self
 refine run_loadVar_mid (P := Tryz.prog) w g (o + i * K.k) K.t (K.enc x) d (fun j v hv => ?_) hd1 hd2 ?_
 · rw [Nat.add_assoc]; exact h3 j v hv
 · rw [hK.len]
   have := hK.info
   cases e : Tryz.prog.info? K.t with
   | none => simp [e] at this
   | some i => simp [e] at this; simp [this]
/-- a slice of structs that the call made -/
def OwnG (K : Kind α) (w : World) (B : Nat) (v : Value) (xs : List α) : Prop := w.ownsRow B K.t K.k v xs.length (cellsG K xs)
theorem ownG_nil (w : World) (B : Nat) : OwnG K w B (.slice none 0 0) [] := ⟨by simp [cellsG], .inl ⟨rfl, rfl⟩⟩
theorem OwnG.mono {w : World} {B B' : Nat} {v : Value} {xs : List α} (h : OwnG K w B v xs) (hb : B' ≤ B) : OwnG K w B' v xs := World.ownsRow.mono h hb
theorem OwnG.grown {w w' : World} {B : Nat} {v : Value} {xs : List α} {row : Option Nat} (h : OwnG K w B v xs) (hg : w.grownBy w' row) (hne : v.ownBlock = none ∨ v.ownBlock ≠ row) : OwnG K w' B v xs := World.ownsRow.kept h hg hne
theorem OwnG.below {w w' : World} {B : Nat} {v : Value} {xs : List α} (h : OwnG K w B v xs) (hb : Below w.heap.size w w') : OwnG K w' B v xs :=
 World.ownsRow.kept h (only_of_below hb none) (by cases v.ownBlock <;> simp)
theorem OwnG.form (hK : K.Ok) {w : World} {B : Nat} {v : Value} {xs : List α} (h : OwnG K w B v xs) : ∃ oa cap, v = .slice oa xs.length cap ∧ RowG K w oa xs ∧ xs.length ≤ cap ∧ (oa = none → xs.length = 0 ∧ cap = 0) ∧ (∀ a, oa = some a → a = ⟨a.block, 0, none⟩ ∧ B ≤ a.block ∧ a.block < w.heap.size) := by
 have h0 := h
 rcases h.2 with ⟨rfl, hn⟩ | ⟨g, cap, cur, rfl, hg, hk, hc1, hc2, hc3, hc4⟩
 · exact ⟨none, 0, by rw [hn], fun i x hx => (by have := (List.getElem?_eq_some_iff.1 hx).1; omega), by omega, fun _ => ⟨hn, rfl⟩, fun a e => by cases e⟩
 · have hlt := (show Blk w g K.t cur from hk).lt
   refine ⟨some ⟨g, 0, none⟩, cap, rfl, fun i x hx => ⟨g, 0, rfl, hlt, fun j v hv => ?_⟩, hc1, (fun e => by cases e), fun a e => (by cases e; exact ⟨rfl, hg, hlt⟩)⟩
   have := World.ownsRow.cells h0 (g := g) rfl _ _ (cellsG_get hK hx hv)
   rwa [addr_add] at this
/-- a slice, be it whose it may, that reads as xs -/
def SlG (K : Kind α) (w : World) (v : Value) (xs : List α) : Prop := ∃ oa cap, v = .slice oa xs.length cap ∧ RowG K w oa xs ∧ xs.length ≤ cap ∧ (oa = none → cap = 0)
theorem SlG.below {w w' : World} {v : Value} {xs : List α} (h : SlG K w v xs) (hb : Below w.heap.size w w') : SlG K w' v xs := by
 obtain ⟨oa, cap, h1, h2, h3, h4⟩ := h
 exact ⟨oa, cap, h1, h2.below hb, h3, h4⟩
theorem slG_nil (w : World) : SlG K w (.slice none 0 0) [] := ⟨none, 0, rfl, RowG.nil w none, Nat.le_refl _, fun _ => rfl⟩
theorem OwnG.sl (hK : K.Ok) {w : World} {B : Nat} {v : Value} {xs : List α} (h : OwnG K w B v xs) : SlG K w v xs := by
 obtain ⟨oa, cap, h1, h2, h3, h4, _⟩ := h.form hK
 exact ⟨oa, cap, h1, h2, h3, fun e => (h4 e).2⟩
/-- what a call that makes such a slice answers -/
def RG (K : Kind α) (xs : List α) (w : World) (e : Ending) (w' : World) : Prop := ∃ v, e = .returned v ∧ OwnG K w' w.heap.size v xs ∧ Below w.heap.size w w'
theorem cells_new (w : World) (l : List Value) (t : TypeId) : ∀ j u, l[j]? = some u → (w.alloc (.cells l.toArray t)).cell? ((⟨w.heap.size, 0, none⟩ : Addr).add j) = some u := by
 intro j u hu
 rw [addr_add, Nat.zero_add, (Blk.new w t l.toArray).cell, ← hu, ← List.getElem?_toArray]
/-- append(v, y) -/
theorem wpList_append_g (hK : K.Ok) {W : World} {ops : Array Oper} {rest : List Oper} {o : Oper} {a : Act} {Q : Exit → Act → World → Prop} (hgd : o.guard = none) (s x : Operand)
 (ho : o.op = .call { callee := .builtin .append, args := #[s, x], argTypes := #[K.ts, K.ts] }) (B : Nat) (v : Value) (xs : List α) (hs : a.eval s = v) (hown : OwnG K W B v xs) (y : α)
 (hx : a.eval x = .slice (some ⟨W.heap.size, 0, none⟩) 1 1) (hlen : xs.length ≤ 1073741824) (hB : B ≤ W.heap.size)
 (h : ∀ g cap w', OwnG K w' B (.slice (some ⟨g, 0, none⟩) (xs.length + 1) cap) (xs ++ [y]) → W.grownBy w' v.ownBlock → (v.ownBlock = some g ∨ g = W.heap.size + 1) → wpList Tryz.prog ops Q rest (a.put o.dst (.slice (some ⟨g, 0, none⟩) (xs.length + 1) cap)) w') :
 wpList Tryz.prog ops Q (o :: rest) a (W.alloc (.cells (K.enc y).toArray K.t)) := by
 obtain ⟨i0, hi, hz0, hz1, hz2⟩ := info_parts hK.info
 have hb := hK.small
 refine wpList_append_lies _ hgd s x K.ts ho B K.t i0 K.zero K.k K.bytes hK.under hi hz0 hz1 hz2 hK.zlen hK.pos v xs.length (cellsG K xs) hs (World.ownsRow.alloc hown _)
  ⟨W.heap.size, 0, none⟩ 1 1 (K.enc y) hx (by rw [hK.len, Nat.one_mul]) (cells_new W _ K.t) (hK.one y) (by decide) (by unfold maxLen; omega) (Nat.le_trans (Nat.mul_le_mul (show xs.length + 1 ≤ 1073741825 by omega) hb) (by decide)) (by simp; omega) (W.heap.size + 1) (by simp) ?_
 intro g cap w' hown1 hgrow hat _
 refine h g cap w' ?_ (grown_trans (grown_alloc (grown_refl W _) _) hgrow) hat
 unfold OwnG
 rw [List.length_append, cellsG_app, cellsG_one]
 exact hown1
/-- append(v, ys...) -/
theorem append_g (hK : K.Ok) {W : World} {B : Nat} {v : Value} {xs ys : List α} (hown : OwnG K W B v xs) (oa : Option Addr) (m c : Nat) (hm : ys.length = m) (hs : RowG K W oa ys) (hnil : m = 0 → oa = none → c = 0) (hlen : xs.length + m ≤ 1073741824) (hB : B ≤ W.heap.size) :
 ∃ v' w', (Builtin.append_ #[K.ts, K.ts] K.ts #[v, .slice oa m c]).run Tryz.prog W = .ok v' w' ∧ OwnG K w' B v' (xs ++ ys) ∧ W.grownBy w' v.ownBlock := by
 obtain ⟨i0, hi, hz0, hz1, hz2⟩ := info_parts hK.info
 have hb := hK.small
 cases oa with
 | some a =>
  obtain ⟨v', w', hr, h2, h3, h4⟩ := run_append_own (P := Tryz.prog) W B K.ts K.ts K.t i0 K.zero K.k K.bytes hK.under hi hz0 hz1 hz2 hK.zlen hK.pos v xs.length (cellsG K xs) hown a m c (cellsG K ys) (by rw [cellsG_len hK, hm]) (fun j u hj => by
   obtain ⟨i, j', x, rfl, hx, hv⟩ := cellsG_inv hK hj
   obtain ⟨g, o, e, _, hc⟩ := hs i x hx
   cases e
   rw [addr_add]
   exact hc j' u hv) (cellsG_mem hK) (by unfold maxLen; omega) (Nat.le_trans (Nat.mul_le_mul hlen hb) (by decide)) hB
  refine ⟨v', w', hr, ?_, h3⟩
  unfold OwnG
  rw [List.length_append, cellsG_app, hm]
  exact h2
 | none =>
  have h0 : ys = [] := by
   cases ys with
   | nil => rfl
   | cons y r => obtain ⟨g, o, e, _⟩ := hs 0 y rfl; cases e
  subst h0
  obtain rfl : m = 0 := hm.symm
  obtain rfl : c = 0 := hnil rfl rfl
  refine ⟨v, W, ?_, by rw [List.append_nil]; exact hown, grown_refl _ _⟩
  rcases hown.2 with ⟨rfl, hn⟩ | ⟨g, cap, cur, rfl, hg, hk, hc1, hc2, hc3, hc4⟩
  · simp [Builtin.append_, run_underlying hK.under, sizeOf, typeInfo, hi, Builtin.lenOf, Builtin.firstCells]
  · simp [Builtin.append_, run_underlying hK.under, sizeOf, typeInfo, hi, Builtin.lenOf, Builtin.firstCells, hc1, storeCells]
theorem ownG_lit (_ : K.Ok) (W : World) (B : Nat) (hB : B ≤ W.heap.size) : OwnG K (W.alloc (.cells #[] K.t)) B (.slice (some ⟨W.heap.size, 0, none⟩) 0 0) [] := by
 have := World.ownsRow_lit (base := B) (e := K.t) (size := K.k) W #[] 0 hB (Nat.zero_le _) (by simp)
 exact this
theorem rowG_new (_ : K.Ok) (W : World) (x : α) : RowG K (W.alloc (.cells (K.enc x).toArray K.t)) (some ⟨W.heap.size, 0, none⟩) [x] := by
 intro i y hy
 match i, hy with
 | 0, hy =>
  obtain rfl : x = y := by simpa using hy
  refine ⟨W.heap.size, 0, rfl, by simp, fun j v hv => ?_⟩
  have := cells_new W (K.enc x) K.t j v hv
  rw [addr_add] at this
  rw [Nat.zero_mul, Nat.zero_add]
  exact this
theorem RowG.grown {w w' : World} {oa : Option Addr} {xs : List α} {row : Option Nat} (h : RowG K w oa xs) (hg : w.grownBy w' row) (hne : ∀ a, oa = some a → row ≠ some a.block) : RowG K w' oa xs := by
 intro i x hx
 obtain ⟨g, o, h1, h2, h3⟩ := h i x hx
 refine ⟨g, o, h1, Nat.lt_of_lt_of_le h2 hg.size, fun j v hv => ?_⟩
 rw [World.cell?_of_block (a := ⟨g, o + (i * K.k + j), none⟩) (hg.block g h2 (fun e => hne _ h1 e.symm))]
 exact h3 j v hv
theorem grownG_setCell (w : World) (p : Addr) (u : Value) : w.grownBy (w.setCell p u) (some p.block) :=
 ⟨rfl, rfl, rfl, by simp [World.setCell], fun i _ hne => Below.heap_setCell w p u i (by rintro rfl; exact hne rfl)⟩
/-- behind an append that the call's own slice took -/
theorem ownG_below {w a b : World} {v : Value} {B : Nat} {xs : List α} (h : Below w.heap.size w a) (hv : OwnG K a B v xs) (hB : w.heap.size ≤ B) (hg : a.grownBy b v.ownBlock) : Below w.heap.size w b :=
 h.grown hg h.size (fun k hk => Nat.le_trans hB (World.ownsRow.lt hv k hk).1)
end
end Go.Proofs.YtakgolbgeeoioaaGreat

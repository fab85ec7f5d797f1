/-
  Slices of structs, of any kind: how they read, and such slices that a call made and appends to.
-/
import Derived.Test.YtjmjkcgldencoaaTxt
import Derived.Lib.AppendZerosOnto
import Derived.Deep.MidRow
namespace Go.Proofs.Ytjmjkcgldencoaa
open Go.RowKit

/-- a kind of struct: its type, that of its slices, how many cells and bytes it has, what is zero, and a value's cells -/
structure Kind (α : Type) where
  t : TypeId
  ts : TypeId
  k : Nat
  bytes : Nat
  zero : Value
  enc : α → List Value
structure Kind.Ok {α : Type} (K : Kind α) : Prop where
  info : (Try.prog.info? K.t).map (fun i => (i.zero, i.size, i.bytes)) = some (some K.zero, K.k, K.bytes)
  under : Try.prog.underlying K.ts = some (.slice K.t)
  self : ∃ d, Try.prog.underlying K.t = some d ∧ d.isRow = true
  len : ∀ x, (K.enc x).length = K.k
  one : ∀ x, ∀ v ∈ K.enc x, v.oneCell' = true
  pos : 0 < K.k
  zlen : K.zero.cells.size = K.k
  small : K.bytes ≤ 1024

section
variable {α : Type} {K : Kind α}
def cellsG (K : Kind α) (xs : List α) : List Value := xs.flatMap K.enc
theorem cellsG_len (h : K.Ok) (xs : List α) : (cellsG K xs).length = xs.length * K.k := by
  induction xs with
  | nil => simp [cellsG]
  | cons x r ih =>
    show (K.enc x ++ cellsG K r).length = (r.length + 1) * K.k
    rw [List.length_append, h.len, ih, Nat.add_mul, Nat.one_mul, Nat.add_comm]
theorem cellsG_app (xs ys : List α) : cellsG K (xs ++ ys) = cellsG K xs ++ cellsG K ys := by simp [cellsG]
theorem cellsG_one (x : α) : cellsG K [x] = K.enc x := by simp [cellsG]
theorem cellsG_mem (h : K.Ok) {xs : List α} : ∀ u ∈ cellsG K xs, u.oneCell' = true := by
  intro u hu
  obtain ⟨x, _, hx⟩ := List.mem_flatMap.1 hu
  exact h.one x u hx
theorem cellsG_get (h : K.Ok) : ∀ {xs : List α} {i : Nat} {x : α}, xs[i]? = some x → ∀ {j : Nat} {v : Value}, (K.enc x)[j]? = some v → (cellsG K xs)[i * K.k + j]? = some v
  | [], i, x, hx, _, _, _ => by simp at hx
  | y :: r, 0, x, hx, j, v, hv => by
    obtain rfl : y = x := by simpa using hx
    show (K.enc y ++ cellsG K r)[0 * K.k + j]? = some v
    rw [Nat.zero_mul, Nat.zero_add, List.getElem?_append_left (List.getElem?_eq_some_iff.1 hv).1]
    exact hv
  | y :: r, i + 1, x, hx, j, v, hv => by
    show (K.enc y ++ cellsG K r)[(i + 1) * K.k + j]? = some v
    have hk := h.len y
    rw [List.getElem?_append_right (by rw [hk, Nat.add_mul, Nat.one_mul]; omega), hk, show (i + 1) * K.k + j - K.k = i * K.k + j by rw [Nat.add_mul, Nat.one_mul]; omega]
    exact cellsG_get h (by simpa using hx) hv
theorem cellsG_inv (h : K.Ok) : ∀ {xs : List α} {m : Nat} {v : Value}, (cellsG K xs)[m]? = some v → ∃ i j x, m = i * K.k + j ∧ xs[i]? = some x ∧ (K.enc x)[j]? = some v
  | [], m, v, hv => by simp [cellsG] at hv
  | y :: r, m, v, hv => by
    have hk := h.len y
    have hv : (K.enc y ++ cellsG K r)[m]? = some v := hv
    by_cases hm : m < K.k
    · rw [List.getElem?_append_left (by omega)] at hv
      exact ⟨0, m, y, by omega, rfl, hv⟩
    · rw [List.getElem?_append_right (by omega), hk] at hv
      obtain ⟨i, j, x, e, hx, hj⟩ := cellsG_inv h hv
      exact ⟨i + 1, j, x, by rw [Nat.add_mul, Nat.one_mul]; omega, by simpa using hx, hj⟩
/-- the slice at oa reads as xs -/
def RowG (K : Kind α) (w : World) (oa : Option Addr) (xs : List α) : Prop := ∀ i x, xs[i]? = some x → ∃ g o, oa = some ⟨g, o, none⟩ ∧ g < w.heap.size ∧ ∀ j v, (K.enc x)[j]? = some v → w.cell? ⟨g, o + (i * K.k + j), none⟩ = some v
theorem RowG.nil (w : World) (oa : Option Addr) : RowG K w oa [] := fun i x hx => by simp at hx
theorem RowG.below {w w' : World} {oa : Option Addr} {xs : List α} (h : RowG K w oa xs) (hb : Below w.heap.size w w') : RowG K w' oa xs := by
  intro i x hx
  obtain ⟨g, o, h1, h2, h3⟩ := h i x hx
  exact ⟨g, o, h1, Nat.lt_of_lt_of_le h2 hb.size, fun j v hv => (hb.cell (p := ⟨g, o + (i * K.k + j), none⟩) h2).trans (h3 j v hv)⟩
theorem RowG.take {w : World} {oa : Option Addr} {xs : List α} (h : RowG K w oa xs) (n : Nat) : RowG K w oa (xs.take n) := by
  intro i x hx
  refine h i x ?_
  rw [List.getElem?_take] at hx
  split at hx
  · exact hx
  · cases hx
/-- an element's struct, as the walk loads it -/
theorem RowG.load (hK : K.Ok) {w : World} {g o : Nat} {xs : List α} (h : RowG K w (some ⟨g, o, none⟩) xs) {i : Nat} {x : α} (hx : xs[i]? = some x) : (loadVar K.t ⟨g, o + i * K.k, none⟩).run Try.prog w = .ok (.agg (K.enc x).toArray) w := by
  obtain ⟨g', o', h1, _, h3⟩ := h i x hx
  cases h1
  obtain ⟨d, hd1, hd2⟩ := hK.self
  refine run_loadVar_mid (P := Try.prog) w g (o + i * K.k) K.t (K.enc x) d (fun j v hv => ?_) hd1 hd2 ?_
  · rw [Nat.add_assoc]; exact h3 j v hv
  · rw [hK.len]
    have := hK.info
    cases e : Try.prog.info? K.t with
    | none => simp [e] at this
    | some i => simp [e] at this; simp [this]
/-- a slice of structs that the call made -/
def OwnG (K : Kind α) (w : World) (B : Nat) (v : Value) (xs : List α) : Prop := w.ownsRow B K.t K.k v xs.length (cellsG K xs)
theorem ownG_nil (w : World) (B : Nat) : OwnG K w B (.slice none 0 0) [] := ⟨by simp [cellsG], .inl ⟨rfl, rfl⟩⟩
theorem OwnG.mono {w : World} {B B' : Nat} {v : Value} {xs : List α} (h : OwnG K w B v xs) (hb : B' ≤ B) : OwnG K w B' v xs := World.ownsRow.mono h hb
theorem OwnG.grown {w w' : World} {B : Nat} {v : Value} {xs : List α} {row : Option Nat} (h : OwnG K w B v xs) (hg : w.grownBy w' row) (hne : v.ownBlock = none ∨ v.ownBlock ≠ row) : OwnG K w' B v xs := World.ownsRow.kept h hg hne
theorem OwnG.below {w w' : World} {B : Nat} {v : Value} {xs : List α} (h : OwnG K w B v xs) (hb : Below w.heap.size w w') : OwnG K w' B v xs :=
  World.ownsRow.kept h (only_of_below hb none) (by cases v.ownBlock <;> simp)
theorem OwnG.form (hK : K.Ok) {w : World} {B : Nat} {v : Value} {xs : List α} (h : OwnG K w B v xs) : ∃ oa cap, v = .slice oa xs.length cap ∧ RowG K w oa xs ∧ xs.length ≤ cap ∧ (oa = none → xs.length = 0 ∧ cap = 0) ∧ (∀ a, oa = some a → a = ⟨a.block, 0, none⟩ ∧ B ≤ a.block ∧ a.block < w.heap.size) := by
  have h0 := h
  rcases h.2 with ⟨rfl, hn⟩ | ⟨g, cap, cur, rfl, hg, hk, hc1, hc2, hc3, hc4⟩
  · exact ⟨none, 0, by rw [hn], fun i x hx => (by have := (List.getElem?_eq_some_iff.1 hx).1; omega), by omega, fun _ => ⟨hn, rfl⟩, fun a e => by cases e⟩
  · have hlt := (show Blk w g K.t cur from hk).lt
    refine ⟨some ⟨g, 0, none⟩, cap, rfl, fun i x hx => ⟨g, 0, rfl, hlt, fun j v hv => ?_⟩, hc1, (fun e => by cases e), fun a e => (by cases e; exact ⟨rfl, hg, hlt⟩)⟩
    have := World.ownsRow.cells h0 (g := g) rfl _ _ (cellsG_get hK hx hv)
    rwa [addr_add] at this
/-- a slice, be it whose it may, that reads as xs -/
def SlG (K : Kind α) (w : World) (v : Value) (xs : List α) : Prop := ∃ oa cap, v = .slice oa xs.length cap ∧ RowG K w oa xs ∧ xs.length ≤ cap ∧ (oa = none → cap = 0)
theorem SlG.below {w w' : World} {v : Value} {xs : List α} (h : SlG K w v xs) (hb : Below w.heap.size w w') : SlG K w' v xs := by
  obtain ⟨oa, cap, h1, h2, h3, h4⟩ := h
  exact ⟨oa, cap, h1, h2.below hb, h3, h4⟩
theorem slG_nil (w : World) : SlG K w (.slice none 0 0) [] := ⟨none, 0, rfl, RowG.nil w none, Nat.le_refl _, fun _ => rfl⟩
theorem OwnG.sl (hK : K.Ok) {w : World} {B : Nat} {v : Value} {xs : List α} (h : OwnG K w B v xs) : SlG K w v xs := by
  obtain ⟨oa, cap, h1, h2, h3, h4, _⟩ := h.form hK
  exact ⟨oa, cap, h1, h2, h3, fun e => (h4 e).2⟩
/-- what a call that makes such a slice answers -/
def RG (K : Kind α) (xs : List α) (w : World) (e : Ending) (w' : World) : Prop := ∃ v, e = .returned v ∧ OwnG K w' w.heap.size v xs ∧ Below w.heap.size w w'
theorem cells_new (w : World) (l : List Value) (t : TypeId) : ∀ j u, l[j]? = some u → (w.alloc (.cells l.toArray t)).cell? ((⟨w.heap.size, 0, none⟩ : Addr).add j) = some u := by
  intro j u hu
  rw [addr_add, Nat.zero_add, (Blk.new w t l.toArray).cell, ← hu, ← List.getElem?_toArray]
/-- append(v, y) -/
theorem wpList_append_g (hK : K.Ok) {W : World} {ops : Array Oper} {rest : List Oper} {o : Oper} {a : Act} {Q : Exit → Act → World → Prop} (hgd : o.guard = none) (s x : Operand)
    (ho : o.op = .call { callee := .builtin .append, args := #[s, x], argTypes := #[K.ts, K.ts] }) (B : Nat) (v : Value) (xs : List α) (hs : a.eval s = v) (hown : OwnG K W B v xs) (y : α)
    (hx : a.eval x = .slice (some ⟨W.heap.size, 0, none⟩) 1 1) (hlen : xs.length ≤ 1073741824) (hB : B ≤ W.heap.size)
    (h : ∀ g cap w', OwnG K w' B (.slice (some ⟨g, 0, none⟩) (xs.length + 1) cap) (xs ++ [y]) → W.grownBy w' v.ownBlock → (v.ownBlock = some g ∨ g = W.heap.size + 1) → wpList Try.prog ops Q rest (a.put o.dst (.slice (some ⟨g, 0, none⟩) (xs.length + 1) cap)) w') :
    wpList Try.prog ops Q (o :: rest) a (W.alloc (.cells (K.enc y).toArray K.t)) := by
  obtain ⟨i0, hi, hz0, hz1, hz2⟩ := info_parts hK.info
  have hb := hK.small
  refine wpList_append_lies _ hgd s x K.ts ho B K.t i0 K.zero K.k K.bytes hK.under hi hz0 hz1 hz2 hK.zlen hK.pos v xs.length (cellsG K xs) hs (World.ownsRow.alloc hown _)
    ⟨W.heap.size, 0, none⟩ 1 1 (K.enc y) hx (by rw [hK.len, Nat.one_mul]) (cells_new W _ K.t) (hK.one y) (by decide) (by unfold maxLen; omega) (Nat.le_trans (Nat.mul_le_mul (show xs.length + 1 ≤ 1073741825 by omega) hb) (by decide)) (by simp; omega) (W.heap.size + 1) (by simp) ?_
  intro g cap w' hown1 hgrow hat _
  refine h g cap w' ?_ (grown_trans (grown_alloc (grown_refl W _) _) hgrow) hat
  unfold OwnG
  rw [List.length_append, cellsG_app, cellsG_one]
  exact hown1
/-- append(v, ys...) -/
theorem append_g (hK : K.Ok) {W : World} {B : Nat} {v : Value} {xs ys : List α} (hown : OwnG K W B v xs) (oa : Option Addr) (m c : Nat) (hm : ys.length = m) (hs : RowG K W oa ys) (hnil : m = 0 → oa = none → c = 0) (hlen : xs.length + m ≤ 1073741824) (hB : B ≤ W.heap.size) :
    ∃ v' w', (Builtin.append_ #[K.ts, K.ts] K.ts #[v, .slice oa m c]).run Try.prog W = .ok v' w' ∧ OwnG K w' B v' (xs ++ ys) ∧ W.grownBy w' v.ownBlock := by
  obtain ⟨i0, hi, hz0, hz1, hz2⟩ := info_parts hK.info
  have hb := hK.small
  cases oa with
  | some a =>
    obtain ⟨v', w', hr, h2, h3, h4⟩ := run_append_own (P := Try.prog) W B K.ts K.ts K.t i0 K.zero K.k K.bytes hK.under hi hz0 hz1 hz2 hK.zlen hK.pos v xs.length (cellsG K xs) hown a m c (cellsG K ys) (by rw [cellsG_len hK, hm]) (fun j u hj => by
        obtain ⟨i, j', x, rfl, hx, hv⟩ := cellsG_inv hK hj
        obtain ⟨g, o, e, _, hc⟩ := hs i x hx
        cases e
        rw [addr_add]
        exact hc j' u hv) (cellsG_mem hK) (by unfold maxLen; omega) (Nat.le_trans (Nat.mul_le_mul hlen hb) (by decide)) hB
    refine ⟨v', w', hr, ?_, h3⟩
    unfold OwnG
    rw [List.length_append, cellsG_app, hm]
    exact h2
  | none =>
    have h0 : ys = [] := by
      cases ys with
      | nil => rfl
      | cons y r => obtain ⟨g, o, e, _⟩ := hs 0 y rfl; cases e
    subst h0
    obtain rfl : m = 0 := hm.symm
    obtain rfl : c = 0 := hnil rfl rfl
    refine ⟨v, W, ?_, by rw [List.append_nil]; exact hown, grown_refl _ _⟩
    rcases hown.2 with ⟨rfl, hn⟩ | ⟨g, cap, cur, rfl, hg, hk, hc1, hc2, hc3, hc4⟩
    · simp [Builtin.append_, run_underlying hK.under, sizeOf, typeInfo, hi, Builtin.lenOf, Builtin.firstCells]
    · simp [Builtin.append_, run_underlying hK.under, sizeOf, typeInfo, hi, Builtin.lenOf, Builtin.firstCells, hc1, storeCells]
theorem ownG_lit (_ : K.Ok) (W : World) (B : Nat) (hB : B ≤ W.heap.size) : OwnG K (W.alloc (.cells #[] K.t)) B (.slice (some ⟨W.heap.size, 0, none⟩) 0 0) [] := by
  have := World.ownsRow_lit (base := B) (e := K.t) (size := K.k) W #[] 0 hB (Nat.zero_le _) (by simp)
  exact this
theorem rowG_new (_ : K.Ok) (W : World) (x : α) : RowG K (W.alloc (.cells (K.enc x).toArray K.t)) (some ⟨W.heap.size, 0, none⟩) [x] := by
  intro i y hy
  match i, hy with
  | 0, hy =>
    obtain rfl : x = y := by simpa using hy
    refine ⟨W.heap.size, 0, rfl, by simp, fun j v hv => ?_⟩
    have := cells_new W (K.enc x) K.t j v hv
    rw [addr_add] at this
    rw [Nat.zero_mul, Nat.zero_add]
    exact this
theorem RowG.grown {w w' : World} {oa : Option Addr} {xs : List α} {row : Option Nat} (h : RowG K w oa xs) (hg : w.grownBy w' row) (hne : ∀ a, oa = some a → row ≠ some a.block) : RowG K w' oa xs := by
  intro i x hx
  obtain ⟨g, o, h1, h2, h3⟩ := h i x hx
  refine ⟨g, o, h1, Nat.lt_of_lt_of_le h2 hg.size, fun j v hv => ?_⟩
  rw [World.cell?_of_block (a := ⟨g, o + (i * K.k + j), none⟩) (hg.block g h2 (fun e => hne _ h1 e.symm))]
  exact h3 j v hv
theorem grownG_setCell (w : World) (p : Addr) (u : Value) : w.grownBy (w.setCell p u) (some p.block) :=
  ⟨rfl, rfl, rfl, by simp [World.setCell], fun i _ hne => Below.heap_setCell w p u i (by rintro rfl; exact hne rfl)⟩
/-- behind an append that the call's own slice took -/
theorem ownG_below {w a b : World} {v : Value} {B : Nat} {xs : List α} (h : Below w.heap.size w a) (hv : OwnG K a B v xs) (hB : w.heap.size ≤ B) (hg : a.grownBy b v.ownBlock) : Below w.heap.size w b :=
  h.grown hg h.size (fun k hk => Nat.le_trans hB (World.ownsRow.lt hv k hk).1)
end
end Go.Proofs.Ytjmjkcgldencoaa

/-
  Slices of structs, of any kind: how they read, and such slices that a call made and appends to. Numbers and texts as bytes: the program's and the reference's. Requests: whether one is right, and its bytes: the program's and the reference's. Requests, replies, heads, and slices of them. Slices of structs that lie in no block below a bound; results in memory; loads as equations.
-/
import Derived.Test.YtjmjkcgldencoaaGreatBaseTxt
import Derived.Lib.AppendZerosOnto
import Derived.Deep.MidRow
import Derived.Deep.RegionHeld3
namespace Go.Proofs.YtjmjkcgldencoaaGreat
open Go.RowKit

/-- a kind of struct: its type, that of its slices, how many cells and bytes it has, what is zero, and a value's cells -/
structure Kind (α : Type) where
  t : TypeId
  ts : TypeId
  k : Nat
  bytes : Nat
  zero : Value
  enc : α → List Value
structure Kind.Ok {α : Type} (K : Kind α) : Prop where
  info : (Tryz.prog.info? K.t).map (fun i => (i.zero, i.size, i.bytes)) = some (some K.zero, K.k, K.bytes)
  under : Tryz.prog.underlying K.ts = some (.slice K.t)
  self : ∃ d, Tryz.prog.underlying K.t = some d ∧ d.isRow = true
  len : ∀ x, (K.enc x).length = K.k
  one : ∀ x, ∀ v ∈ K.enc x, v.oneCell' = true
  pos : 0 < K.k
  zlen : K.zero.cells.size = K.k
  small : K.bytes ≤ 1024

section
variable {α : Type} {K : Kind α}
def cellsG (K : Kind α) (xs : List α) : List Value := xs.flatMap K.enc
theorem cellsG_len (h : K.Ok) (xs : List α) : (cellsG K xs).length = xs.length * K.k := by
  induction xs with
  | nil => simp [cellsG]
  | cons x r ih =>
    show (K.enc x ++ cellsG K r).length = (r.length + 1) * K.k
    rw [List.length_append, h.len, ih, Nat.add_mul, Nat.one_mul, Nat.add_comm]
theorem cellsG_app (xs ys : List α) : cellsG K (xs ++ ys) = cellsG K xs ++ cellsG K ys := by simp [cellsG]
theorem cellsG_one (x : α) : cellsG K [x] = K.enc x := by simp [cellsG]
theorem cellsG_mem (h : K.Ok) {xs : List α} : ∀ u ∈ cellsG K xs, u.oneCell' = true := by
  intro u hu
  obtain ⟨x, _, hx⟩ := List.mem_flatMap.1 hu
  exact h.one x u hx
theorem cellsG_get (h : K.Ok) : ∀ {xs : List α} {i : Nat} {x : α}, xs[i]? = some x → ∀ {j : Nat} {v : Value}, (K.enc x)[j]? = some v → (cellsG K xs)[i * K.k + j]? = some v
  | [], i, x, hx, _, _, _ => by simp at hx
  | y :: r, 0, x, hx, j, v, hv => by
    obtain rfl : y = x := by simpa using hx
    show (K.enc y ++ cellsG K r)[0 * K.k + j]? = some v
    rw [Nat.zero_mul, Nat.zero_add, List.getElem?_append_left (List.getElem?_eq_some_iff.1 hv).1]
    exact hv
  | y :: r, i + 1, x, hx, j, v, hv => by
    show (K.enc y ++ cellsG K r)[(i + 1) * K.k + j]? = some v
    have hk := h.len y
    rw [List.getElem?_append_right (by rw [hk, Nat.add_mul, Nat.one_mul]; omega), hk, show (i + 1) * K.k + j - K.k = i * K.k + j by rw [Nat.add_mul, Nat.one_mul]; omega]
    exact cellsG_get h (by simpa using hx) hv
theorem cellsG_inv (h : K.Ok) : ∀ {xs : List α} {m : Nat} {v : Value}, (cellsG K xs)[m]? = some v → ∃ i j x, m = i * K.k + j ∧ xs[i]? = some x ∧ (K.enc x)[j]? = some v
  | [], m, v, hv => by simp [cellsG] at hv
  | y :: r, m, v, hv => by
    have hk := h.len y
    have hv : (K.enc y ++ cellsG K r)[m]? = some v := hv
    by_cases hm : m < K.k
    · rw [List.getElem?_append_left (by omega)] at hv
      exact ⟨0, m, y, by omega, rfl, hv⟩
    · rw [List.getElem?_append_right (by omega), hk] at hv
      obtain ⟨i, j, x, e, hx, hj⟩ := cellsG_inv h hv
      exact ⟨i + 1, j, x, by rw [Nat.add_mul, Nat.one_mul]; omega, by simpa using hx, hj⟩
/-- the slice at oa reads as xs -/
def RowG (K : Kind α) (w : World) (oa : Option Addr) (xs : List α) : Prop := ∀ i x, xs[i]? = some x → ∃ g o, oa = some ⟨g, o, none⟩ ∧ g < w.heap.size ∧ ∀ j v, (K.enc x)[j]? = some v → w.cell? ⟨g, o + (i * K.k + j), none⟩ = some v
theorem RowG.nil (w : World) (oa : Option Addr) : RowG K w oa [] := fun i x hx => by simp at hx
theorem RowG.below {w w' : World} {oa : Option Addr} {xs : List α} (h : RowG K w oa xs) (hb : Below w.heap.size w w') : RowG K w' oa xs := by
  intro i x hx
  obtain ⟨g, o, h1, h2, h3⟩ := h i x hx
  exact ⟨g, o, h1, Nat.lt_of_lt_of_le h2 hb.size, fun j v hv => (hb.cell (p := ⟨g, o + (i * K.k + j), none⟩) h2).trans (h3 j v hv)⟩
theorem RowG.take {w : World} {oa : Option Addr} {xs : List α} (h : RowG K w oa xs) (n : Nat) : RowG K w oa (xs.take n) := by
  intro i x hx
  refine h i x ?_
  rw [List.getElem?_take] at hx
  split at hx
  · exact hx
  · cases hx
/-- an element's struct, as the walk loads it -/
theorem RowG.load (hK : K.Ok) {w : World} {g o : Nat} {xs : List α} (h : RowG K w (some ⟨g, o, none⟩) xs) {i : Nat} {x : α} (hx : xs[i]? = some x) : (loadVar K.t ⟨g, o + i * K.k, none⟩).run Tryz.prog w = .ok (.agg (K.enc x).toArray) w := by
  obtain ⟨g', o', h1, _, h3⟩ := h i x hx
  cases h1
  obtain ⟨d, hd1, hd2⟩ := hK.self
  refine run_loadVar_mid (P := Tryz.prog) w g (o + i * K.k) K.t (K.enc x) d (fun j v hv => ?_) hd1 hd2 ?_
  · rw [Nat.add_assoc]; exact h3 j v hv
  · rw [hK.len]
    have := hK.info
    cases e : Tryz.prog.info? K.t with
    | none => simp [e] at this
    | some i => simp [e] at this; simp [this]
/-- a slice of structs that the call made -/
def OwnG (K : Kind α) (w : World) (B : Nat) (v : Value) (xs : List α) : Prop := w.ownsRow B K.t K.k v xs.length (cellsG K xs)
theorem ownG_nil (w : World) (B : Nat) : OwnG K w B (.slice none 0 0) [] := ⟨by simp [cellsG], .inl ⟨rfl, rfl⟩⟩
theorem OwnG.mono {w : World} {B B' : Nat} {v : Value} {xs : List α} (h : OwnG K w B v xs) (hb : B' ≤ B) : OwnG K w B' v xs := World.ownsRow.mono h hb
theorem OwnG.grown {w w' : World} {B : Nat} {v : Value} {xs : List α} {row : Option Nat} (h : OwnG K w B v xs) (hg : w.grownBy w' row) (hne : v.ownBlock = none ∨ v.ownBlock ≠ row) : OwnG K w' B v xs := World.ownsRow.kept h hg hne
theorem OwnG.below {w w' : World} {B : Nat} {v : Value} {xs : List α} (h : OwnG K w B v xs) (hb : Below w.heap.size w w') : OwnG K w' B v xs :=
  World.ownsRow.kept h (only_of_below hb none) (by cases v.ownBlock <;> simp)
theorem OwnG.form (hK : K.Ok) {w : World} {B : Nat} {v : Value} {xs : List α} (h : OwnG K w B v xs) : ∃ oa cap, v = .slice oa xs.length cap ∧ RowG K w oa xs ∧ xs.length ≤ cap ∧ (oa = none → xs.length = 0 ∧ cap = 0) ∧ (∀ a, oa = some a → a = ⟨a.block, 0, none⟩ ∧ B ≤ a.block ∧ a.block < w.heap.size) := by
  have h0 := h
  rcases h.2 with ⟨rfl, hn⟩ | ⟨g, cap, cur, rfl, hg, hk, hc1, hc2, hc3, hc4⟩
  · exact ⟨none, 0, by rw [hn], fun i x hx => (by have := (List.getElem?_eq_some_iff.1 hx).1; omega), by omega, fun _ => ⟨hn, rfl⟩, fun a e => by cases e⟩
  · have hlt := (show Blk w g K.t cur from hk).lt
    refine ⟨some ⟨g, 0, none⟩, cap, rfl, fun i x hx => ⟨g, 0, rfl, hlt, fun j v hv => ?_⟩, hc1, (fun e => by cases e), fun a e => (by cases e; exact ⟨rfl, hg, hlt⟩)⟩
    have := World.ownsRow.cells h0 (g := g) rfl _ _ (cellsG_get hK hx hv)
    rwa [addr_add] at this
/-- a slice, be it whose it may, that reads as xs -/
def SlG (K : Kind α) (w : World) (v : Value) (xs : List α) : Prop := ∃ oa cap, v = .slice oa xs.length cap ∧ RowG K w oa xs ∧ xs.length ≤ cap ∧ (oa = none → cap = 0)
theorem SlG.below {w w' : World} {v : Value} {xs : List α} (h : SlG K w v xs) (hb : Below w.heap.size w w') : SlG K w' v xs := by
  obtain ⟨oa, cap, h1, h2, h3, h4⟩ := h
  exact ⟨oa, cap, h1, h2.below hb, h3, h4⟩
theorem slG_nil (w : World) : SlG K w (.slice none 0 0) [] := ⟨none, 0, rfl, RowG.nil w none, Nat.le_refl _, fun _ => rfl⟩
theorem OwnG.sl (hK : K.Ok) {w : World} {B : Nat} {v : Value} {xs : List α} (h : OwnG K w B v xs) : SlG K w v xs := by
  obtain ⟨oa, cap, h1, h2, h3, h4, _⟩ := h.form hK
  exact ⟨oa, cap, h1, h2, h3, fun e => (h4 e).2⟩
/-- what a call that makes such a slice answers -/
def RG (K : Kind α) (xs : List α) (w : World) (e : Ending) (w' : World) : Prop := ∃ v, e = .returned v ∧ OwnG K w' w.heap.size v xs ∧ Below w.heap.size w w'
theorem cells_new (w : World) (l : List Value) (t : TypeId) : ∀ j u, l[j]? = some u → (w.alloc (.cells l.toArray t)).cell? ((⟨w.heap.size, 0, none⟩ : Addr).add j) = some u := by
  intro j u hu
  rw [addr_add, Nat.zero_add, (Blk.new w t l.toArray).cell, ← hu, ← List.getElem?_toArray]
/-- append(v, y) -/
theorem wpList_append_g (hK : K.Ok) {W : World} {ops : Array Oper} {rest : List Oper} {o : Oper} {a : Act} {Q : Exit → Act → World → Prop} (hgd : o.guard = none) (s x : Operand)
    (ho : o.op = .call { callee := .builtin .append, args := #[s, x], argTypes := #[K.ts, K.ts] }) (B : Nat) (v : Value) (xs : List α) (hs : a.eval s = v) (hown : OwnG K W B v xs) (y : α)
    (hx : a.eval x = .slice (some ⟨W.heap.size, 0, none⟩) 1 1) (hlen : xs.length ≤ 1073741824) (hB : B ≤ W.heap.size)
    (h : ∀ g cap w', OwnG K w' B (.slice (some ⟨g, 0, none⟩) (xs.length + 1) cap) (xs ++ [y]) → W.grownBy w' v.ownBlock → (v.ownBlock = some g ∨ g = W.heap.size + 1) → wpList Tryz.prog ops Q rest (a.put o.dst (.slice (some ⟨g, 0, none⟩) (xs.length + 1) cap)) w') :
    wpList Tryz.prog ops Q (o :: rest) a (W.alloc (.cells (K.enc y).toArray K.t)) := by
  obtain ⟨i0, hi, hz0, hz1, hz2⟩ := info_parts hK.info
  have hb := hK.small
  refine wpList_append_lies _ hgd s x K.ts ho B K.t i0 K.zero K.k K.bytes hK.under hi hz0 hz1 hz2 hK.zlen hK.pos v xs.length (cellsG K xs) hs (World.ownsRow.alloc hown _)
    ⟨W.heap.size, 0, none⟩ 1 1 (K.enc y) hx (by rw [hK.len, Nat.one_mul]) (cells_new W _ K.t) (hK.one y) (by decide) (by unfold maxLen; omega) (Nat.le_trans (Nat.mul_le_mul (show xs.length + 1 ≤ 1073741825 by omega) hb) (by decide)) (by simp; omega) (W.heap.size + 1) (by simp) ?_
  intro g cap w' hown1 hgrow hat _
  refine h g cap w' ?_ (grown_trans (grown_alloc (grown_refl W _) _) hgrow) hat
  unfold OwnG
  rw [List.length_append, cellsG_app, cellsG_one]
  exact hown1
/-- append(v, ys...) -/
theorem append_g (hK : K.Ok) {W : World} {B : Nat} {v : Value} {xs ys : List α} (hown : OwnG K W B v xs) (oa : Option Addr) (m c : Nat) (hm : ys.length = m) (hs : RowG K W oa ys) (hnil : m = 0 → oa = none → c = 0) (hlen : xs.length + m ≤ 1073741824) (hB : B ≤ W.heap.size) :
    ∃ v' w', (Builtin.append_ #[K.ts, K.ts] K.ts #[v, .slice oa m c]).run Tryz.prog W = .ok v' w' ∧ OwnG K w' B v' (xs ++ ys) ∧ W.grownBy w' v.ownBlock := by
  obtain ⟨i0, hi, hz0, hz1, hz2⟩ := info_parts hK.info
  have hb := hK.small
  cases oa with
  | some a =>
    obtain ⟨v', w', hr, h2, h3, h4⟩ := run_append_own (P := Tryz.prog) W B K.ts K.ts K.t i0 K.zero K.k K.bytes hK.under hi hz0 hz1 hz2 hK.zlen hK.pos v xs.length (cellsG K xs) hown a m c (cellsG K ys) (by rw [cellsG_len hK, hm]) (fun j u hj => by
        obtain ⟨i, j', x, rfl, hx, hv⟩ := cellsG_inv hK hj
        obtain ⟨g, o, e, _, hc⟩ := hs i x hx
        cases e
        rw [addr_add]
        exact hc j' u hv) (cellsG_mem hK) (by unfold maxLen; omega) (Nat.le_trans (Nat.mul_le_mul hlen hb) (by decide)) hB
    refine ⟨v', w', hr, ?_, h3⟩
    unfold OwnG
    rw [List.length_append, cellsG_app, hm]
    exact h2
  | none =>
    have h0 : ys = [] := by
      cases ys with
      | nil => rfl
      | cons y r => obtain ⟨g, o, e, _⟩ := hs 0 y rfl; cases e
    subst h0
    obtain rfl : m = 0 := hm.symm
    obtain rfl : c = 0 := hnil rfl rfl
    refine ⟨v, W, ?_, by rw [List.append_nil]; exact hown, grown_refl _ _⟩
    rcases hown.2 with ⟨rfl, hn⟩ | ⟨g, cap, cur, rfl, hg, hk, hc1, hc2, hc3, hc4⟩
    · simp [Builtin.append_, run_underlying hK.under, sizeOf, typeInfo, hi, Builtin.lenOf, Builtin.firstCells]
    · simp [Builtin.append_, run_underlying hK.under, sizeOf, typeInfo, hi, Builtin.lenOf, Builtin.firstCells, hc1, storeCells]
theorem ownG_lit (_ : K.Ok) (W : World) (B : Nat) (hB : B ≤ W.heap.size) : OwnG K (W.alloc (.cells #[] K.t)) B (.slice (some ⟨W.heap.size, 0, none⟩) 0 0) [] := by
  have := World.ownsRow_lit (base := B) (e := K.t) (size := K.k) W #[] 0 hB (Nat.zero_le _) (by simp)
  exact this
theorem rowG_new (_ : K.Ok) (W : World) (x : α) : RowG K (W.alloc (.cells (K.enc x).toArray K.t)) (some ⟨W.heap.size, 0, none⟩) [x] := by
  intro i y hy
  match i, hy with
  | 0, hy =>
    obtain rfl : x = y := by simpa using hy
    refine ⟨W.heap.size, 0, rfl, by simp, fun j v hv => ?_⟩
    have := cells_new W (K.enc x) K.t j v hv
    rw [addr_add] at this
    rw [Nat.zero_mul, Nat.zero_add]
    exact this
theorem RowG.grown {w w' : World} {oa : Option Addr} {xs : List α} {row : Option Nat} (h : RowG K w oa xs) (hg : w.grownBy w' row) (hne : ∀ a, oa = some a → row ≠ some a.block) : RowG K w' oa xs := by
  intro i x hx
  obtain ⟨g, o, h1, h2, h3⟩ := h i x hx
  refine ⟨g, o, h1, Nat.lt_of_lt_of_le h2 hg.size, fun j v hv => ?_⟩
  rw [World.cell?_of_block (a := ⟨g, o + (i * K.k + j), none⟩) (hg.block g h2 (fun e => hne _ h1 e.symm))]
  exact h3 j v hv
theorem grownG_setCell (w : World) (p : Addr) (u : Value) : w.grownBy (w.setCell p u) (some p.block) :=
  ⟨rfl, rfl, rfl, by simp [World.setCell], fun i _ hne => Below.heap_setCell w p u i (by rintro rfl; exact hne rfl)⟩
/-- behind an append that the call's own slice took -/
theorem ownG_below {w a b : World} {v : Value} {B : Nat} {xs : List α} (h : Below w.heap.size w a) (hv : OwnG K a B v xs) (hB : w.heap.size ≤ B) (hg : a.grownBy b v.ownBlock) : Below w.heap.size w b :=
  h.grown hg h.size (fun k hk => Nat.le_trans hB (World.ownsRow.lt hv k hk).1)
end
end Go.Proofs.YtjmjkcgldencoaaGreat
namespace Go.Proofs.YtjmjkcgldencoaaGreat
open Go.RowKit

/-- a number that has bytes of its own, else 0 -/
def clip (n : Int) : Nat := if 0 ≤ n ∧ n ≤ 2147483647 then n.toNat else 0
theorem clip_in {n : Int} (h0 : 0 ≤ n) (h1 : n ≤ 2147483647) : clip n = n.toNat := if_pos ⟨h0, h1⟩
theorem clip_out {n : Int} (h : n < 0 ∨ 2147483647 < n) : clip n = 0 := if_neg (by omega)
theorem clip_le (n : Int) : clip n ≤ 2147483647 := by unfold clip; split <;> omega
/-- a number's bytes -/
def num4 (n : Int) : ByteArray := strN (by4 (clip n))
theorem num4_size (n : Int) : (num4 n).size = 4 := by unfold num4; rw [strN_size]; rfl
/-- a text's bytes -/
def txt (s : ByteArray) : ByteArray := num4 s.size ++ s
theorem txt_size (s : ByteArray) : (txt s).size = 4 + s.size := by unfold txt; rw [ByteArray.size_append, num4_size]

theorem conv4 (w : World) (a b c d : Int) (l : List Nat) (hl : [a, b, c, d] = l.map (fun n : Nat => (n : Int))) (h4 : l.length = 4) :
    (convert 123 9 (.slice (some ⟨w.heap.size, 0, none⟩) 4 4)).run Tryz.prog (w.alloc (.cells #[.int .u8 a, .int .u8 b, .int .u8 c, .int .u8 d] 5)) =
      .ok (.string (strN l)) (w.alloc (.cells #[.int .u8 a, .int .u8 b, .int .u8 c, .int .u8 d] 5)) := by
  match l, h4 with
  | [x, y, z, u], _ =>
    simp only [List.map_cons, List.map_nil, List.cons.injEq, and_true] at hl
    obtain ⟨rfl, rfl, rfl, rfl⟩ := hl
    refine conv_cells _ 123 5 9 Tryz.underlying123 Tryz.underlying5 Tryz.underlying9 w.heap.size 4 [x, y, z, u] (fun i hi => ?_)
    rw [(Blk.new w 5 _).cell]
    have h4 : i < 4 := hi
    rcases i with _ | _ | _ | _ | i
    · rfl
    · rfl
    · rfl
    · rfl
    · omega

set_option maxRecDepth 100000 in
set_option maxHeartbeats 400000 in
theorem number_in (n : Nat) (hn : n ≤ 2147483647) (w : World) :
    Calls Tryz.prog 50 #[.int .i64 n] w fun e w' => e = .returned (.string (strN (by4 n))) ∧ Below w.heap.size w w' := by
  have hc := conv4 w ((n : Int) / 16777216) ((n : Int) / 65536 % 256) ((n : Int) / 256 % 256) ((n : Int) % 256) (by4 n) (by simp [by4]; omega) rfl
  obtain ⟨S, hS⟩ : ∃ S, strN (by4 n) = S := ⟨_, rfl⟩
  rw [hS] at hc ⊢
  clear hS
  go_enter Tryz.func50, Tryz.ntmps50
  go_wp2
  go_ret
  exact ⟨rfl, (Below.refl _ _).alloc (Nat.le_refl _) _⟩
set_option maxRecDepth 100000 in
set_option maxHeartbeats 400000 in
theorem number_lo (n : Int) (hn : n < 0) (w : World) :
    Calls Tryz.prog 50 #[.int .i64 n] w fun e w' => e = .returned (.string (strN (by4 0))) ∧ Below w.heap.size w w' := by
  have hc := conv4 w 0 0 0 0 (by4 0) rfl rfl
  obtain ⟨S, hS⟩ : ∃ S, strN (by4 0) = S := ⟨_, rfl⟩
  rw [hS] at hc ⊢
  clear hS
  go_enter Tryz.func50, Tryz.ntmps50
  go_wp2
  go_ret
  exact ⟨rfl, (Below.refl _ _).alloc (Nat.le_refl _) _⟩
set_option maxRecDepth 100000 in
set_option maxHeartbeats 400000 in
theorem number_hi (n : Int) (hn : 2147483647 < n) (w : World) :
    Calls Tryz.prog 50 #[.int .i64 n] w fun e w' => e = .returned (.string (strN (by4 0))) ∧ Below w.heap.size w w' := by
  have hc := conv4 w 0 0 0 0 (by4 0) rfl rfl
  have hn0 : ¬ n < 0 := by omega
  obtain ⟨S, hS⟩ : ∃ S, strN (by4 0) = S := ⟨_, rfl⟩
  rw [hS] at hc ⊢
  clear hS
  go_enter Tryz.func50, Tryz.ntmps50
  go_wp2
  go_ret
  exact ⟨rfl, (Below.refl _ _).alloc (Nat.le_refl _) _⟩
theorem number_any (n : Int) (w : World) :
    Calls Tryz.prog 50 #[.int .i64 n] w fun e w' => e = .returned (.string (num4 n)) ∧ Below w.heap.size w w' := by
  unfold num4
  by_cases h0 : n < 0
  · rw [clip_out (.inl h0)]
    exact number_lo n h0 w
  · by_cases h1 : 2147483647 < n
    · rw [clip_out (.inr h1)]
      exact number_hi n h1 w
    · rw [clip_in (by omega) (by omega)]
      obtain ⟨k, rfl⟩ : ∃ k : Nat, n = k := ⟨n.toNat, by omega⟩
      exact number_in k (by omega) w
set_option maxRecDepth 100000 in
set_option maxHeartbeats 400000 in
theorem text_any (s : ByteArray) (hs : s.size ≤ 4611686018427387904) (w : World) :
    Calls Tryz.prog 51 #[.string s] w fun e w' => e = .returned (.string (txt s)) ∧ Below w.heap.size w w' := by
  unfold txt
  have hz := num4_size s.size
  have HN := Lib.hid (fun W => number_any s.size W)
  generalize num4 (s.size : Int) = N at *
  have hadd : ¬ N.size + s.size > 9223372036854775807 := by omega
  clear hz
  go_enter Tryz.func51, Tryz.ntmps51
  go_wp2_with fail
  refine (HN.out _).mono ?_
  rintro e w' ⟨rfl, hB⟩
  go_wp2
  go_ret
  exact ⟨rfl, hB⟩
set_option maxRecDepth 100000 in
set_option maxHeartbeats 400000 in
theorem rnumber_in (n : Nat) (hn : n ≤ 2147483647) (w : World) :
    Calls Tryz.prog 52 #[.int .i64 n] w fun e w' => e = .returned (.string (strN (by4 n))) ∧ Below w.heap.size w w' := by
  have hc := conv4 w ((n : Int) / 16777216) ((n : Int) / 65536 % 256) ((n : Int) / 256 % 256) ((n : Int) % 256) (by4 n) (by simp [by4]; omega) rfl
  obtain ⟨S, hS⟩ : ∃ S, strN (by4 n) = S := ⟨_, rfl⟩
  rw [hS] at hc ⊢
  clear hS
  go_enter Tryz.func52, Tryz.ntmps52
  go_wp2
  go_ret
  exact ⟨rfl, (Below.refl _ _).alloc (Nat.le_refl _) _⟩
set_option maxRecDepth 100000 in
set_option maxHeartbeats 400000 in
theorem rnumber_lo (n : Int) (hn : n < 0) (w : World) :
    Calls Tryz.prog 52 #[.int .i64 n] w fun e w' => e = .returned (.string (strN (by4 0))) ∧ Below w.heap.size w w' := by
  have hc := conv4 w 0 0 0 0 (by4 0) rfl rfl
  obtain ⟨S, hS⟩ : ∃ S, strN (by4 0) = S := ⟨_, rfl⟩
  rw [hS] at hc ⊢
  clear hS
  go_enter Tryz.func52, Tryz.ntmps52
  go_wp2
  go_ret
  exact ⟨rfl, (Below.refl _ _).alloc (Nat.le_refl _) _⟩
set_option maxRecDepth 100000 in
set_option maxHeartbeats 400000 in
theorem rnumber_hi (n : Int) (hn : 2147483647 < n) (w : World) :
    Calls Tryz.prog 52 #[.int .i64 n] w fun e w' => e = .returned (.string (strN (by4 0))) ∧ Below w.heap.size w w' := by
  have hc := conv4 w 0 0 0 0 (by4 0) rfl rfl
  have hn0 : ¬ n < 0 := by omega
  obtain ⟨S, hS⟩ : ∃ S, strN (by4 0) = S := ⟨_, rfl⟩
  rw [hS] at hc ⊢
  clear hS
  go_enter Tryz.func52, Tryz.ntmps52
  go_wp2
  go_ret
  exact ⟨rfl, (Below.refl _ _).alloc (Nat.le_refl _) _⟩
theorem rnumber_any (n : Int) (w : World) :
    Calls Tryz.prog 52 #[.int .i64 n] w fun e w' => e = .returned (.string (num4 n)) ∧ Below w.heap.size w w' := by
  unfold num4
  by_cases h0 : n < 0
  · rw [clip_out (.inl h0)]
    exact rnumber_lo n h0 w
  · by_cases h1 : 2147483647 < n
    · rw [clip_out (.inr h1)]
      exact rnumber_hi n h1 w
    · rw [clip_in (by omega) (by omega)]
      obtain ⟨k, rfl⟩ : ∃ k : Nat, n = k := ⟨n.toNat, by omega⟩
      exact rnumber_in k (by omega) w
set_option maxRecDepth 100000 in
set_option maxHeartbeats 400000 in
theorem rtext_any (s : ByteArray) (hs : s.size ≤ 4611686018427387904) (w : World) :
    Calls Tryz.prog 53 #[.string s] w fun e w' => e = .returned (.string (txt s)) ∧ Below w.heap.size w w' := by
  unfold txt
  have hz := num4_size s.size
  have HN := Lib.hid (fun W => rnumber_any s.size W)
  generalize num4 (s.size : Int) = N at *
  have hadd : ¬ N.size + s.size > 9223372036854775807 := by omega
  clear hz
  go_enter Tryz.func53, Tryz.ntmps53
  go_wp2_with fail
  refine (HN.out _).mono ?_
  rintro e w' ⟨rfl, hB⟩
  go_wp2
  go_ret
  exact ⟨rfl, hB⟩
end Go.Proofs.YtjmjkcgldencoaaGreat
namespace Go.Proofs.YtjmjkcgldencoaaGreat
open Go.RowKit

/-- whether a request is right -/
def rightB (c q : Int) (l k v : ByteArray) : Bool := decide (0 ≤ c ∧ c ≤ 3 ∧ 1 ≤ q ∧ q ≤ 2147483647 ∧ 1 ≤ l.size ∧ l.size ≤ 200 ∧ k.size ≤ 50 ∧ v.size ≤ 100 ∧ (k.size ≠ 0 ∨ v.size = 0))
/-- a request's value -/
def reqV (c q : Int) (l k v : ByteArray) : Array Value := #[.int .i64 c, .int .i64 q, .string l, .string k, .string v]
/-- a request's bytes -/
def reqB (c q : Int) (l k v : ByteArray) : ByteArray := ⟨#[82]⟩ ++ num4 c ++ num4 q ++ txt l ++ txt k ++ txt v
theorem reqB_size (c q : Int) (l k v : ByteArray) : (reqB c q l k v).size = 21 + l.size + k.size + v.size := by
  unfold reqB
  simp only [ByteArray.size_append, num4_size, txt_size]
  show 1 + 4 + 4 + (4 + l.size) + (4 + k.size) + (4 + v.size) = _
  omega
theorem cells5 {w : World} {g : Nat} {t : TypeId} {a b c d e : Value} (h : Blk w g t #[a, b, c, d, e]) :
    w.cell? ⟨g, 0, none⟩ = some a ∧ w.cell? ⟨g, 1, none⟩ = some b ∧ w.cell? ⟨g, 2, none⟩ = some c ∧ w.cell? ⟨g, 3, none⟩ = some d ∧ w.cell? ⟨g, 4, none⟩ = some e :=
  ⟨h.cell 0, h.cell 1, h.cell 2, h.cell 3, h.cell 4⟩

set_option maxRecDepth 100000 in
set_option maxHeartbeats 1000000 in
theorem right_any (c q : Int) (l k v : ByteArray) (hl : l.size ≤ 9223372036854775807) (hk : k.size ≤ 9223372036854775807) (hv : v.size ≤ 9223372036854775807) (w : World) :
    Calls Tryz.prog 30 #[.agg (reqV c q l k v)] w fun e w' => e = .returned (.bool (rightB c q l k v)) ∧ Below w.heap.size w w' := by
  unfold reqV
  obtain ⟨R, hR⟩ : ∃ R, rightB c q l k v = R := ⟨_, rfl⟩
  have HR := Lib.hid hR
  rw [hR]
  clear hR
  have HB := Lib.hid ((Below.refl _ w).alloc (Nat.le_refl _) (.cells #[.int .i64 c, .int .i64 q, .string l, .string k, .string v] 24))
  go_enter Tryz.func30, Tryz.ntmps30
  go_wp2
  all_goals
    go_ret
    refine ⟨boolEq ?_, HB.out⟩
    rw [← HR.out]
    clear HB HR
    simp only [toList_nil, toList_nil', rightB] at *
    first
      | (rw [decide_eq_decide]; omega)
      | (symm; rw [decide_eq_true_iff]; omega)
      | (symm; rw [decide_eq_false_iff_not]; omega)
set_option maxRecDepth 100000 in
set_option maxHeartbeats 2000000 in
theorem request_any (c q : Int) (l k v : ByteArray) (hl : l.size ≤ 1099511627776) (hk : k.size ≤ 1099511627776) (hv : v.size ≤ 1099511627776) (w : World) :
    Calls Tryz.prog 34 #[.agg (reqV c q l k v)] w fun e w' => e = .returned (.string (reqB c q l k v)) ∧ Below w.heap.size w w' := by
  unfold reqV reqB
  have HC := Lib.hid (fun W => number_any c W)
  have HQ := Lib.hid (fun W => number_any q W)
  have HL := Lib.hid (fun W => text_any l (by omega) W)
  have HK := Lib.hid (fun W => text_any k (by omega) W)
  have HV := Lib.hid (fun W => text_any v (by omega) W)
  have z1 := num4_size c; have z2 := num4_size q; have z3 := txt_size l; have z4 := txt_size k; have z5 := txt_size v
  generalize num4 c = N1 at *; generalize num4 q = N2 at *; generalize txt l = N3 at *; generalize txt k = N4 at *; generalize txt v = N5 at *
  have z0 : (⟨#[82]⟩ : ByteArray).size = 1 := rfl
  have r1 := addRun (a := ⟨#[82]⟩) (b := N1) (by omega)
  have r2 := addRun (a := ⟨#[82]⟩ ++ N1) (b := N2) (by simp only [ByteArray.size_append]; omega)
  have r3 := addRun (a := ⟨#[82]⟩ ++ N1 ++ N2) (b := N3) (by simp only [ByteArray.size_append]; omega)
  have r4 := addRun (a := ⟨#[82]⟩ ++ N1 ++ N2 ++ N3) (b := N4) (by simp only [ByteArray.size_append]; omega)
  have r5 := addRun (a := ⟨#[82]⟩ ++ N1 ++ N2 ++ N3 ++ N4) (b := N5) (by simp only [ByteArray.size_append]; omega)
  clear z0 z1 z2 z3 z4 z5
  have HB := Lib.hid ((Below.refl _ w).alloc (Nat.le_refl _) (.cells #[.int .i64 c, .int .i64 q, .string l, .string k, .string v] 24))
  have HK5 : Hid (∀ W, Below (w.alloc (.cells #[.int .i64 c, .int .i64 q, .string l, .string k, .string v] 24)).heap.size (w.alloc (.cells #[.int .i64 c, .int .i64 q, .string l, .string k, .string v] 24)) W → (W.cell? ⟨w.heap.size, 0, none⟩ = some (.int .i64 c) ∧ W.cell? ⟨w.heap.size, 1, none⟩ = some (.int .i64 q) ∧ W.cell? ⟨w.heap.size, 2, none⟩ = some (.string l) ∧ W.cell? ⟨w.heap.size, 3, none⟩ = some (.string k) ∧ W.cell? ⟨w.heap.size, 4, none⟩ = some (.string v)) ∧ Below (w.alloc (.cells #[.int .i64 c, .int .i64 q, .string l, .string k, .string v] 24)).heap.size (w.alloc (.cells #[.int .i64 c, .int .i64 q, .string l, .string k, .string v] 24)) W) :=
    Lib.hid fun W hW => ⟨cells5 ((Blk.new w 24 _).below hW (by simp)), hW⟩
  go_enter Tryz.func34, Tryz.ntmps34
  go_wp2
  have hg : w.heap.size < (w.alloc (.cells #[.int .i64 c, .int .i64 q, .string l, .string k, .string v] 24)).heap.size := by simp
  generalize w.alloc (.cells #[.int .i64 c, .int .i64 q, .string l, .string k, .string v] 24) = w0 at *
  have hB0 := HB.out
  generalize hgg : w.heap.size = g at *
  have HG := Lib.hid hgg
  clear hgg hg
  go_region_held3 (fun w' => (w'.cell? ⟨g, 0, none⟩ = some (.int .i64 c) ∧ w'.cell? ⟨g, 1, none⟩ = some (.int .i64 q) ∧ w'.cell? ⟨g, 2, none⟩ = some (.string l) ∧ w'.cell? ⟨g, 3, none⟩ = some (.string k) ∧ w'.cell? ⟨g, 4, none⟩ = some (.string v)) ∧ Below w0.heap.size w0 w')
    ((refine HK5.out _ ?_; first | exact hB5' | exact hB4' | exact hB3' | exact hB2' | exact hB1' | exact (Below.refl _ _).drew | exact Below.refl _ _))
    (first
      | (have := hB4'; go_at_call 51; refine (HV.out _).mono ?_; rintro e w5 ⟨rfl, hb5⟩; have hB5' : Below w0.heap.size w0 w5 := hB4'.trans (hb5.mono hB4'.size))
      | (have := hB3'; go_at_call 51; refine (HK.out _).mono ?_; rintro e w4 ⟨rfl, hb4⟩; have hB4' : Below w0.heap.size w0 w4 := hB3'.trans (hb4.mono hB3'.size))
      | (have := hB2'; go_at_call 51; refine (HL.out _).mono ?_; rintro e w3 ⟨rfl, hb3⟩; have hB3' : Below w0.heap.size w0 w3 := hB2'.trans (hb3.mono hB2'.size))
      | (have := hB1'; go_at_call 50; refine (HQ.out _).mono ?_; rintro e w2 ⟨rfl, hb2⟩; have hB2' : Below w0.heap.size w0 w2 := hB1'.trans (hb2.mono hB1'.size))
      | (go_at_call 50; refine (HC.out _).mono ?_; rintro e w1 ⟨rfl, hb1⟩; have hB1' : Below w0.heap.size w0 w1 := (Below.refl _ _).drew.trans hb1))
  rw [← HG.out] at hB0
  have hB6 := hB0.trans (hB5'.mono hB0.size)
  go_wp2
  go_ret
  exact ⟨rfl, hB6⟩
set_option maxRecDepth 100000 in
set_option maxHeartbeats 1000000 in
theorem rright_any (c q : Int) (l k v : ByteArray) (hl : l.size ≤ 9223372036854775807) (hk : k.size ≤ 9223372036854775807) (hv : v.size ≤ 9223372036854775807) (w : World) :
    Calls Tryz.prog 43 #[.agg (reqV c q l k v)] w fun e w' => e = .returned (.bool (rightB c q l k v)) ∧ Below w.heap.size w w' := by
  unfold reqV
  obtain ⟨R, hR⟩ : ∃ R, rightB c q l k v = R := ⟨_, rfl⟩
  have HR := Lib.hid hR
  rw [hR]
  clear hR
  have HB := Lib.hid ((Below.refl _ w).alloc (Nat.le_refl _) (.cells #[.int .i64 c, .int .i64 q, .string l, .string k, .string v] 24))
  go_enter Tryz.func43, Tryz.ntmps43
  go_wp2
  all_goals
    go_ret
    refine ⟨boolEq ?_, HB.out⟩
    rw [← HR.out]
    clear HB HR
    simp only [toList_nil, toList_nil', rightB, decide_eq_true_eq] at *
    first
      | (rw [decide_eq_decide]; omega)
      | (symm; rw [decide_eq_true_iff]; omega)
      | (symm; rw [decide_eq_false_iff_not]; omega)
set_option maxRecDepth 100000 in
set_option maxHeartbeats 2000000 in
theorem rrequest_any (c q : Int) (l k v : ByteArray) (hl : l.size ≤ 1099511627776) (hk : k.size ≤ 1099511627776) (hv : v.size ≤ 1099511627776) (w : World) :
    Calls Tryz.prog 35 #[.agg (reqV c q l k v)] w fun e w' => e = .returned (.string (reqB c q l k v)) ∧ Below w.heap.size w w' := by
  unfold reqV reqB
  have HC := Lib.hid (fun W => rnumber_any c W)
  have HQ := Lib.hid (fun W => rnumber_any q W)
  have HL := Lib.hid (fun W => rtext_any l (by omega) W)
  have HK := Lib.hid (fun W => rtext_any k (by omega) W)
  have HV := Lib.hid (fun W => rtext_any v (by omega) W)
  have z1 := num4_size c; have z2 := num4_size q; have z3 := txt_size l; have z4 := txt_size k; have z5 := txt_size v
  generalize num4 c = N1 at *; generalize num4 q = N2 at *; generalize txt l = N3 at *; generalize txt k = N4 at *; generalize txt v = N5 at *
  have z0 : (⟨#[82]⟩ : ByteArray).size = 1 := rfl
  have r1 := addRun (a := ⟨#[82]⟩) (b := N1) (by omega)
  have r2 := addRun (a := ⟨#[82]⟩ ++ N1) (b := N2) (by simp only [ByteArray.size_append]; omega)
  have r3 := addRun (a := ⟨#[82]⟩ ++ N1 ++ N2) (b := N3) (by simp only [ByteArray.size_append]; omega)
  have r4 := addRun (a := ⟨#[82]⟩ ++ N1 ++ N2 ++ N3) (b := N4) (by simp only [ByteArray.size_append]; omega)
  have r5 := addRun (a := ⟨#[82]⟩ ++ N1 ++ N2 ++ N3 ++ N4) (b := N5) (by simp only [ByteArray.size_append]; omega)
  clear z0 z1 z2 z3 z4 z5
  have HB := Lib.hid ((Below.refl _ w).alloc (Nat.le_refl _) (.cells #[.int .i64 c, .int .i64 q, .string l, .string k, .string v] 24))
  have HK5 : Hid (∀ W, Below (w.alloc (.cells #[.int .i64 c, .int .i64 q, .string l, .string k, .string v] 24)).heap.size (w.alloc (.cells #[.int .i64 c, .int .i64 q, .string l, .string k, .string v] 24)) W → (W.cell? ⟨w.heap.size, 0, none⟩ = some (.int .i64 c) ∧ W.cell? ⟨w.heap.size, 1, none⟩ = some (.int .i64 q) ∧ W.cell? ⟨w.heap.size, 2, none⟩ = some (.string l) ∧ W.cell? ⟨w.heap.size, 3, none⟩ = some (.string k) ∧ W.cell? ⟨w.heap.size, 4, none⟩ = some (.string v)) ∧ Below (w.alloc (.cells #[.int .i64 c, .int .i64 q, .string l, .string k, .string v] 24)).heap.size (w.alloc (.cells #[.int .i64 c, .int .i64 q, .string l, .string k, .string v] 24)) W) :=
    Lib.hid fun W hW => ⟨cells5 ((Blk.new w 24 _).below hW (by simp)), hW⟩
  go_enter Tryz.func35, Tryz.ntmps35
  go_wp2
  have hg : w.heap.size < (w.alloc (.cells #[.int .i64 c, .int .i64 q, .string l, .string k, .string v] 24)).heap.size := by simp
  generalize w.alloc (.cells #[.int .i64 c, .int .i64 q, .string l, .string k, .string v] 24) = w0 at *
  have hB0 := HB.out
  generalize hgg : w.heap.size = g at *
  have HG := Lib.hid hgg
  clear hgg hg
  go_region_held3 (fun w' => (w'.cell? ⟨g, 0, none⟩ = some (.int .i64 c) ∧ w'.cell? ⟨g, 1, none⟩ = some (.int .i64 q) ∧ w'.cell? ⟨g, 2, none⟩ = some (.string l) ∧ w'.cell? ⟨g, 3, none⟩ = some (.string k) ∧ w'.cell? ⟨g, 4, none⟩ = some (.string v)) ∧ Below w0.heap.size w0 w')
    ((refine HK5.out _ ?_; first | exact hB5' | exact hB4' | exact hB3' | exact hB2' | exact hB1' | exact (Below.refl _ _).drew | exact Below.refl _ _))
    (first
      | (have := hB4'; go_at_call 53; refine (HV.out _).mono ?_; rintro e w5 ⟨rfl, hb5⟩; have hB5' : Below w0.heap.size w0 w5 := hB4'.trans (hb5.mono hB4'.size))
      | (have := hB3'; go_at_call 53; refine (HK.out _).mono ?_; rintro e w4 ⟨rfl, hb4⟩; have hB4' : Below w0.heap.size w0 w4 := hB3'.trans (hb4.mono hB3'.size))
      | (have := hB2'; go_at_call 53; refine (HL.out _).mono ?_; rintro e w3 ⟨rfl, hb3⟩; have hB3' : Below w0.heap.size w0 w3 := hB2'.trans (hb3.mono hB2'.size))
      | (have := hB1'; go_at_call 52; refine (HQ.out _).mono ?_; rintro e w2 ⟨rfl, hb2⟩; have hB2' : Below w0.heap.size w0 w2 := hB1'.trans (hb2.mono hB1'.size))
      | (go_at_call 52; refine (HC.out _).mono ?_; rintro e w1 ⟨rfl, hb1⟩; have hB1' : Below w0.heap.size w0 w1 := (Below.refl _ _).drew.trans hb1))
  rw [← HG.out] at hB0
  have hB6 := hB0.trans (hB5'.mono hB0.size)
  go_wp2
  go_ret
  exact ⟨rfl, hB6⟩
end Go.Proofs.YtjmjkcgldencoaaGreat
namespace Go.Proofs.YtjmjkcgldencoaaGreat
open Go.RowKit

/-- a request: client, number, leaf, key, value -/
structure Req where
  c : Int
  q : Int
  l : ByteArray
  k : ByteArray
  v : ByteArray
instance : Inhabited Req := ⟨⟨0, 0, ⟨#[]⟩, ⟨#[]⟩, ⟨#[]⟩⟩⟩
def Req.enc (r : Req) : List Value := [.int .i64 r.c, .int .i64 r.q, .string r.l, .string r.k, .string r.v]
/-- a reply: error, index, head -/
structure Rep where
  e : Int
  i : Int
  h : Int
instance : Inhabited Rep := ⟨⟨0, 0, 0⟩⟩
def Rep.enc (r : Rep) : List Value := [.int .i64 r.e, .int .i64 r.i, .int .i64 r.h]
/-- a head: number, size, time, the log's root, the map's -/
structure Hd where
  q : Int
  z : Int
  t : Int
  r : ByteArray
  m : ByteArray
instance : Inhabited Hd := ⟨⟨0, 0, 0, ⟨#[]⟩, ⟨#[]⟩⟩⟩
def Hd.enc (h : Hd) : List Value := [.int .i64 h.q, .int .i64 h.z, .int .i64 h.t, .string h.r, .string h.m]
def reqK : Kind Req := { t := 24, ts := 28, k := 5, bytes := 64, zero := .agg #[.int .i64 0, .int .i64 0, .string ⟨#[]⟩, .string ⟨#[]⟩, .string ⟨#[]⟩], enc := Req.enc }
def repK : Kind Rep := { t := 31, ts := 38, k := 3, bytes := 24, zero := .agg #[.int .i64 0, .int .i64 0, .int .i64 0], enc := Rep.enc }
def hdK : Kind Hd := { t := 67, ts := 35, k := 5, bytes := 56, zero := .agg #[.int .i64 0, .int .i64 0, .int .i64 0, .string ⟨#[]⟩, .string ⟨#[]⟩], enc := Hd.enc }
theorem reqOk : reqK.Ok := {
  info := by kernel_rfl
  under := Tryz.underlying28
  self := ⟨_, Tryz.underlying24, rfl⟩
  len := fun _ => rfl
  one := fun x v hv => by simp [reqK, Req.enc] at hv; rcases hv with rfl | rfl | rfl | rfl | rfl <;> rfl
  pos := by decide
  zlen := rfl
  small := by decide }
theorem repOk : repK.Ok := {
  info := by kernel_rfl
  under := Tryz.underlying38
  self := ⟨_, Tryz.underlying31, rfl⟩
  len := fun _ => rfl
  one := fun x v hv => by simp [repK, Rep.enc] at hv; rcases hv with rfl | rfl | rfl <;> rfl
  pos := by decide
  zlen := rfl
  small := by decide }
theorem hdOk : hdK.Ok := {
  info := by kernel_rfl
  under := Tryz.underlying35
  self := ⟨_, Tryz.underlying67, rfl⟩
  len := fun _ => rfl
  one := fun x v hv => by simp [hdK, Hd.enc] at hv; rcases hv with rfl | rfl | rfl | rfl | rfl <;> rfl
  pos := by decide
  zlen := rfl
  small := by decide }
/-- a call: a request; or, with cut, a head at a time -/
structure OpR where
  r : Req
  cut : Bool
  now : Int
instance : Inhabited OpR := ⟨⟨default, false, 0⟩⟩
def OpR.enc (x : OpR) : List Value := [.int .i64 x.r.c, .int .i64 x.r.q, .string x.r.l, .string x.r.k, .string x.r.v, .bool x.cut, .int .i64 x.now]
def opK : Kind OpR := { t := 73, ts := 22, k := 7, bytes := 80, zero := .agg #[.int .i64 0, .int .i64 0, .string ⟨#[]⟩, .string ⟨#[]⟩, .string ⟨#[]⟩, .bool false, .int .i64 0], enc := OpR.enc }
theorem opOk : opK.Ok := {
  info := by kernel_rfl
  under := Tryz.underlying22
  self := ⟨_, Tryz.underlying73, rfl⟩
  len := fun _ => rfl
  one := fun x v hv => by simp [opK, OpR.enc] at hv; rcases hv with rfl | rfl | rfl | rfl | rfl | rfl | rfl <;> rfl
  pos := by decide
  zlen := rfl
  small := by decide }
theorem op_at {w : World} {oa : Option Addr} {xs : List OpR} (h : RowG opK w oa xs) {i : Nat} (hi : i < xs.length) : ∃ g o, oa = some ⟨g, o, none⟩ ∧ g < w.heap.size ∧ w.cell? ⟨g, o + i * 7, none⟩ = some (.int .i64 xs[i].r.c) ∧ w.cell? ⟨g, o + i * 7 + 1, none⟩ = some (.int .i64 xs[i].r.q) ∧ w.cell? ⟨g, o + i * 7 + 2, none⟩ = some (.string xs[i].r.l) ∧ w.cell? ⟨g, o + i * 7 + 3, none⟩ = some (.string xs[i].r.k) ∧ w.cell? ⟨g, o + i * 7 + 4, none⟩ = some (.string xs[i].r.v) ∧ w.cell? ⟨g, o + i * 7 + 5, none⟩ = some (.bool xs[i].cut) ∧ w.cell? ⟨g, o + i * 7 + 6, none⟩ = some (.int .i64 xs[i].now) := by
  obtain ⟨g, o, h1, h2, h3⟩ := h i xs[i] (List.getElem?_eq_getElem hi)
  exact ⟨g, o, h1, h2, h3 0 _ rfl, h3 1 _ rfl, h3 2 _ rfl, h3 3 _ rfl, h3 4 _ rfl, h3 5 _ rfl, h3 6 _ rfl⟩
/-- a request of a slice, cell by cell -/
theorem req_at {w : World} {oa : Option Addr} {xs : List Req} (h : RowG reqK w oa xs) {i : Nat} (hi : i < xs.length) : ∃ g o, oa = some ⟨g, o, none⟩ ∧ g < w.heap.size ∧ w.cell? ⟨g, o + i * 5, none⟩ = some (.int .i64 xs[i].c) ∧ w.cell? ⟨g, o + i * 5 + 1, none⟩ = some (.int .i64 xs[i].q) ∧ w.cell? ⟨g, o + i * 5 + 2, none⟩ = some (.string xs[i].l) ∧ w.cell? ⟨g, o + i * 5 + 3, none⟩ = some (.string xs[i].k) ∧ w.cell? ⟨g, o + i * 5 + 4, none⟩ = some (.string xs[i].v) := by
  obtain ⟨g, o, h1, h2, h3⟩ := h i xs[i] (List.getElem?_eq_getElem hi)
  exact ⟨g, o, h1, h2, h3 0 _ rfl, h3 1 _ rfl, h3 2 _ rfl, h3 3 _ rfl, h3 4 _ rfl⟩
theorem rep_at {w : World} {oa : Option Addr} {xs : List Rep} (h : RowG repK w oa xs) {i : Nat} (hi : i < xs.length) : ∃ g o, oa = some ⟨g, o, none⟩ ∧ g < w.heap.size ∧ w.cell? ⟨g, o + i * 3, none⟩ = some (.int .i64 xs[i].e) ∧ w.cell? ⟨g, o + i * 3 + 1, none⟩ = some (.int .i64 xs[i].i) ∧ w.cell? ⟨g, o + i * 3 + 2, none⟩ = some (.int .i64 xs[i].h) := by
  obtain ⟨g, o, h1, h2, h3⟩ := h i xs[i] (List.getElem?_eq_getElem hi)
  exact ⟨g, o, h1, h2, h3 0 _ rfl, h3 1 _ rfl, h3 2 _ rfl⟩
theorem hd_at {w : World} {oa : Option Addr} {xs : List Hd} (h : RowG hdK w oa xs) {i : Nat} (hi : i < xs.length) : ∃ g o, oa = some ⟨g, o, none⟩ ∧ g < w.heap.size ∧ w.cell? ⟨g, o + i * 5, none⟩ = some (.int .i64 xs[i].q) ∧ w.cell? ⟨g, o + i * 5 + 1, none⟩ = some (.int .i64 xs[i].z) ∧ w.cell? ⟨g, o + i * 5 + 2, none⟩ = some (.int .i64 xs[i].t) ∧ w.cell? ⟨g, o + i * 5 + 3, none⟩ = some (.string xs[i].r) ∧ w.cell? ⟨g, o + i * 5 + 4, none⟩ = some (.string xs[i].m) := by
  obtain ⟨g, o, h1, h2, h3⟩ := h i xs[i] (List.getElem?_eq_getElem hi)
  exact ⟨g, o, h1, h2, h3 0 _ rfl, h3 1 _ rfl, h3 2 _ rfl, h3 3 _ rfl, h3 4 _ rfl⟩
end Go.Proofs.YtjmjkcgldencoaaGreat
namespace Go.Proofs.YtjmjkcgldencoaaGreat
open Go.RowKit

/-- two results, a struct in memory and a value; two structs in memory -/
theorem results_row_tmp {P : Program} {fn : Func} {p t : Tmp} {ty : TypeId} (h : fn.results = #[.cell p ty, .tmp t]) (tmps : Array Value) (w : World) (g : Nat) (tt : TypeId) (cs : Array Value) (d : TypeDesc)
    (hp : tmps.getD p undef = .pointer (some ⟨g, 0, none⟩)) (hg : Blk w g tt cs)
    (hu : P.underlying ty = some d) (hd : (match d with | .struct _ | .array _ _ => true | _ => false) = true) (hi : (P.info? ty).map (·.size) = some cs.size) :
    (results fn tmps).run P w = .ok (.tuple #[.agg cs, tmps.getD t undef]) w := by
  have hl := run_loadVar_row (P := P) w g tt ty cs (0, 0) d hg hu hd hi
  have hp' : tmps[p]?.getD undef = .pointer (some ⟨g, 0, none⟩) := by simpa using hp
  simp [results, h, hp', asAddr, hl]
theorem results_row_row {P : Program} {fn : Func} {p q : Tmp} {ty ty2 : TypeId} (h : fn.results = #[.cell p ty, .cell q ty2]) (tmps : Array Value) (w : World) (g g2 : Nat) (tt tt2 : TypeId) (cs cs2 : Array Value) (d d2 : TypeDesc)
    (hp : tmps.getD p undef = .pointer (some ⟨g, 0, none⟩)) (hg : Blk w g tt cs) (hp2 : tmps.getD q undef = .pointer (some ⟨g2, 0, none⟩)) (hg2 : Blk w g2 tt2 cs2)
    (hu : P.underlying ty = some d) (hd : (match d with | .struct _ | .array _ _ => true | _ => false) = true) (hi : (P.info? ty).map (·.size) = some cs.size)
    (hu2 : P.underlying ty2 = some d2) (hd2 : (match d2 with | .struct _ | .array _ _ => true | _ => false) = true) (hi2 : (P.info? ty2).map (·.size) = some cs2.size) :
    (results fn tmps).run P w = .ok (.tuple #[.agg cs, .agg cs2]) w := by
  have hl := run_loadVar_row (P := P) w g tt ty cs (0, 0) d hg hu hd hi
  have hl2 := run_loadVar_row (P := P) w g2 tt2 ty2 cs2 (0, 0) d2 hg2 hu2 hd2 hi2
  have hp' : tmps[p]?.getD undef = .pointer (some ⟨g, 0, none⟩) := by simpa using hp
  have hp2' : tmps[q]?.getD undef = .pointer (some ⟨g2, 0, none⟩) := by simpa using hp2
  simp [results, h, hp', hp2', asAddr, hl, hl2]
/-- loads of slices and structs, as equations -/
theorem sl_req {w : World} {p : Addr} {v : Value} (h : w.cell? p = some v) : (loadVar 28 p).run Tryz.prog w = .ok v w := by
  go_simp
theorem sl_hd {w : World} {p : Addr} {v : Value} (h : w.cell? p = some v) : (loadVar 35 p).run Tryz.prog w = .ok v w := by
  go_simp
theorem num_load {w : World} {p : Addr} {x : Int} (h : w.cell? p = some (.int .i64 x)) : (loadVar 3 p).run Tryz.prog w = .ok (.int .i64 x) w := by
  go_simp
theorem head_load {w : World} {g : Nat} {h : Hd} (hk : Blk w g 67 h.enc.toArray) : (loadVar 67 ⟨g, 0, none⟩).run Tryz.prog w = .ok (.agg h.enc.toArray) w :=
  run_loadVar_row w g 67 67 h.enc.toArray (0, 0) _ hk Tryz.underlying67 rfl (by kernel_rfl)
theorem head_load5 {w : World} {g : Nat} {a b c : Int} {d e : ByteArray} (hk : Blk w g 67 #[.int .i64 a, .int .i64 b, .int .i64 c, .string d, .string e]) : (loadVar 67 ⟨g, 0, none⟩).run Tryz.prog w = .ok (.agg #[.int .i64 a, .int .i64 b, .int .i64 c, .string d, .string e]) w :=
  run_loadVar_row w g 67 67 _ (0, 0) _ hk Tryz.underlying67 rfl (by kernel_rfl)
theorem req_load5 {w : World} {g : Nat} {a b : Int} {c d e : ByteArray} (hk : Blk w g 24 #[.int .i64 a, .int .i64 b, .string c, .string d, .string e]) : (loadVar 24 ⟨g, 0, none⟩).run Tryz.prog w = .ok (.agg #[.int .i64 a, .int .i64 b, .string c, .string d, .string e]) w :=
  run_loadVar_row w g 24 24 _ (0, 0) _ hk Tryz.underlying24 rfl (by kernel_rfl)
theorem rep_load3 {w : World} {g : Nat} {a b c : Int} (hk : Blk w g 31 #[.int .i64 a, .int .i64 b, .int .i64 c]) : (loadVar 31 ⟨g, 0, none⟩).run Tryz.prog w = .ok (.agg #[.int .i64 a, .int .i64 b, .int .i64 c]) w :=
  run_loadVar_row w g 31 31 _ (0, 0) _ hk Tryz.underlying31 rfl (by kernel_rfl)
theorem OwnG.parts {α : Type} {K : Kind α} (hK : K.Ok) {w : World} {B : Nat} {o : Option Addr} {n c : Nat} {xs : List α} (h : OwnG K w B (.slice o n c) xs) : n = xs.length ∧ RowG K w o xs ∧ xs.length ≤ c ∧ (o = none → c = 0) ∧ (∀ a, o = some a → B ≤ a.block) := by
  obtain ⟨oa, cap, h1, h2, h3, h4, h5⟩ := h.form hK
  injection h1 with e1 e2 e3
  subst e1 e3
  exact ⟨e2, h2, h3, fun e => (h4 e).2, fun a e => (h5 a e).2.1⟩
/-- a slice that reads as xs and is the one at o0, which read as xs0, or lies in a block that isn't below B -/
def SlO {α : Type} (K : Kind α) (w : World) (o0 : Option Addr) (xs0 : List α) (B : Nat) (v : Value) (xs : List α) : Prop := ∃ oa cap, v = .slice oa xs.length cap ∧ RowG K w oa xs ∧ xs.length ≤ cap ∧ (oa = none → cap = 0) ∧ ((oa = o0 ∧ xs = xs0) ∨ ∀ a, oa = some a → B ≤ a.block)
/-- a slice that reads as xs and lies in no block below B -/
def SlB {α : Type} (K : Kind α) (w : World) (B : Nat) (v : Value) (xs : List α) : Prop := ∃ oa cap, v = .slice oa xs.length cap ∧ RowG K w oa xs ∧ xs.length ≤ cap ∧ (oa = none → cap = 0) ∧ (∀ a, oa = some a → B ≤ a.block)
theorem SlB.below {α : Type} {K : Kind α} {w w' : World} {B : Nat} {v : Value} {xs : List α} (h : SlB K w B v xs) (hb : Below w.heap.size w w') : SlB K w' B v xs := by
  obtain ⟨oa, cap, h1, h2, h3, h4, h5⟩ := h
  exact ⟨oa, cap, h1, h2.below hb, h3, h4, h5⟩
theorem SlB.mono {α : Type} {K : Kind α} {w : World} {B B' : Nat} {v : Value} {xs : List α} (h : SlB K w B v xs) (hB : B' ≤ B) : SlB K w B' v xs := by
  obtain ⟨oa, cap, h1, h2, h3, h4, h5⟩ := h
  exact ⟨oa, cap, h1, h2, h3, h4, fun a ha => Nat.le_trans hB (h5 a ha)⟩
theorem SlB.grown {α : Type} {K : Kind α} {w w' : World} {B g : Nat} {v : Value} {xs : List α} (h : SlB K w B v xs) (hg : w.grownBy w' (some g)) (hlt : g < B) : SlB K w' B v xs := by
  obtain ⟨oa, cap, h1, h2, h3, h4, h5⟩ := h
  exact ⟨oa, cap, h1, h2.grown hg (fun a ha e => by have := h5 a ha; injection e; omega), h3, h4, h5⟩
theorem slB_nil {α : Type} {K : Kind α} (w : World) (B : Nat) : SlB K w B (.slice none 0 0) [] := ⟨none, 0, rfl, RowG.nil w none, Nat.le_refl _, fun _ => rfl, fun a e => by cases e⟩
theorem OwnG.slB {α : Type} {K : Kind α} (hK : K.Ok) {w : World} {B : Nat} {v : Value} {xs : List α} (h : OwnG K w B v xs) : SlB K w B v xs := by
  obtain ⟨oa, cap, h1, h2, h3, h4, h5⟩ := h.form hK
  exact ⟨oa, cap, h1, h2, h3, fun e => (h4 e).2, fun a ha => (h5 a ha).2.1⟩
end Go.Proofs.YtjmjkcgldencoaaGreat

/-
 What all layers stand on: a block known whole; strings as lists of numbers; a slice of bytes that the call made.
-/
import Derived.Test.YtakgolbgeeoioaaGreatRows
import Derived.WalkKit
import Derived.WalkSpells
import Derived.WalkLawsBesides
import Derived.Lib.Hide
import Derived.Laws.Bits64b
import Derived.Laws.BitsAllLaws
import Derived.Laws.ShiftsVarLaws
import Derived.Laws.Rows
import Derived.Laws.Tables
import Derived.Laws.CopyOwn
import Derived.Deep.AppendSrc
import Derived.Laws.IdiomStrings
import Derived.Laws.AppendOwn
import Derived.Deep.QuietTactic
import Derived.BigQuiet
import Derived.Lib.BufferWrite
import Derived.Lib.SlBuf
namespace Go.Proofs.YtakgolbgeeoioaaGreat
open Go.RowKit Go.Shelf

/-- a block known whole -/
def Blk (w : World) (g : Nat) (t : TypeId) (cs : Array Value) : Prop := w.heap[g]? = some (.cells cs t (0, 0))
section
variable {w w' : World} {g : Nat} {t : TypeId} {cs : Array Value}
theorem Blk.lt (h : Blk w g t cs) : g < w.heap.size := by
 rcases Nat.lt_or_ge g w.heap.size with hlt | hge
 · exact hlt
 · unfold Blk at h; rw [Array.getElem?_eq_none hge] at h; cases h
theorem Blk.cell (h : Blk w g t cs) (i : Nat) : w.cell? ⟨g, i, none⟩ = cs[i]? := cell_of_row w g i cs t (0, 0) h
theorem Blk.frozen (h : Blk w g t cs) (i : Nat) : w.frozen? ⟨g, i, none⟩ = false := by
 unfold Blk at h
 simp [World.frozen?, h]
theorem Blk.new (w : World) (t : TypeId) (cs : Array Value) : Blk (w.alloc (.cells cs t)) w.heap.size t cs := heap_alloc_new w _
theorem Blk.alloc (h : Blk w g t cs) (o : Obj) : Blk (w.alloc o) g t cs := (Below.heap_alloc w o g h.lt).trans h
theorem Blk.drew (h : Blk w g t cs) : Blk w.drew g t cs := h
theorem Blk.set_ (h : Blk w g t cs) (i : Nat) (u : Value) : Blk (w.setCell ⟨g, i, none⟩ u) g t (cs.setIfInBounds i u) := by
 unfold Blk at h ⊢
 simp [World.setCell, Array.getElem?_modify, h]
theorem Blk.far (h : Blk w g t cs) {p : Addr} (hp : g ≠ p.block) (u : Value) : Blk (w.setCell p u) g t cs := (Below.heap_setCell w p u g hp).trans h
theorem Blk.below {B : Nat} (h : Blk w g t cs) (hb : Below B w w') (hg : g < B) : Blk w' g t cs := (hb.block g hg).trans h
theorem Blk.grown {row : Option Nat} (h : Blk w g t cs) (hb : w.grownBy w' row) (hg : some g ≠ row) : Blk w' g t cs := (hb.block g h.lt hg).trans h
end

theorem Blk.new_at {w : World} {g : Nat} {t : TypeId} {cs : Array Value} (h : g = w.heap.size) : Blk (w.alloc (.cells cs t)) g t cs := by subst h; exact Blk.new _ _ _
theorem Blk.setRow {w : World} {g g' : Nat} {t : TypeId} {cs : Array Value} (h : Blk w g t cs) (hne : g ≠ g') (c : Array Value) : Blk (w.setRow g' c) g t cs := (setRow_other w g' g c hne).trans h
theorem below_drewN {B : Nat} {a w : World} (h : Below B a w) (n : Nat) : Below B a (w.drewN n) := ⟨h.os, h.tape, h.output, h.size, h.block⟩

def U8 (n : Nat) : Value := .int .u8 (n : Int)
/-- the bytes of a string, as numbers -/
def nums (s : ByteArray) : List Nat := s.data.toList.map (·.toNat)
theorem nums_length (s : ByteArray) : (nums s).length = s.size := by simp [nums]
theorem nums_lt (s : ByteArray) : ∀ x ∈ nums s, x < 256 := by
 intro x hx
 simp only [nums, List.mem_map] at hx
 obtain ⟨b, _, rfl⟩ := hx
 exact b.toNat_lt

theorem nums_append (a b : ByteArray) : nums (a ++ b) = nums a ++ nums b := by
 unfold nums
 rw [ByteArray.data_append]
 simp
theorem nums_nil : nums ⟨#[]⟩ = [] := rfl
/-- numbers below 256 as a string -/
def strN (l : List Nat) : ByteArray := ⟨(l.map fun n => UInt8.ofNat n).toArray⟩
theorem nums_strN {l : List Nat} (h : ∀ x ∈ l, x < 256) : nums (strN l) = l := by
 unfold nums strN
 simp only [List.map_map]
 conv => rhs; rw [← List.map_id l]
 apply List.map_congr_left
 intro x hx
 have := h x hx
 simp [UInt8.toNat_ofNat']
 omega
theorem strN_size (l : List Nat) : (strN l).size = l.length := by simp [strN, ByteArray.size]
theorem strN_nums (s : ByteArray) : strN (nums s) = s := by
 unfold nums strN
 cases s with
 | mk d => simp [List.map_map, Function.comp_def]
theorem nums_inj {a b : ByteArray} (h : nums a = nums b) : a = b := by rw [← strN_nums a, h, strN_nums]

/-- a word's four bytes, the greatest first -/
def by4 (x : Nat) : List Nat := [x / 16777216 % 256, x / 65536 % 256, x / 256 % 256, x % 256]
theorem by4_lt (x : Nat) : ∀ y ∈ by4 x, y < 256 := by
 intro y hy
 simp only [by4, List.mem_cons, List.not_mem_nil, or_false] at hy
 rcases hy with rfl | rfl | rfl | rfl <;> exact Nat.mod_lt _ (by decide)
theorem only_drew {a w : World} {row : Option Nat} (h : a.grownBy w row) : a.grownBy w.drew row := ⟨h.os, h.tape, h.output, h.size, h.block⟩
theorem only_trans {a b c : World} {g : Nat} (h : a.grownBy b (some g)) (k : b.grownBy c (some g)) : a.grownBy c (some g) :=
 ⟨k.os.trans h.os, k.tape.trans h.tape, k.output.trans h.output, Nat.le_trans h.size k.size, fun i hi hne => (k.block i (Nat.lt_of_lt_of_le hi h.size) hne).trans (h.block i hi hne)⟩
theorem only_setRow {a w : World} {g : Nat} (h : a.grownBy w (some g)) (c : Array Value) : a.grownBy (w.setRow g c) (some g) :=
 ⟨h.os, h.tape, h.output, by simpa using h.size, fun i hi hne => (setRow_other w g i c (by rintro rfl; exact hne rfl)).trans (h.block i hi hne)⟩

/-- v is a slice of bytes in a block of its own, from B on; it reads as l; its spare may be written -/
structure BRow (w : World) (B : Nat) (v : Value) (l : List Nat) (g cap : Nat) : Prop where
 form : v = .slice (some ⟨g, 0, none⟩) l.length cap
 base : B ≤ g
 lt : g < w.heap.size
 le : l.length ≤ cap
 cells : ∀ j, j < l.length → w.cell? ⟨g, j, none⟩ = some (U8 (l.getD j 0))
 spare : ∀ j, l.length ≤ j → j < cap → (w.cell? ⟨g, j, none⟩).isSome = true ∧ w.frozen? ⟨g, j, none⟩ = false

theorem BRow.keep {w w' : World} {B : Nat} {v : Value} {l : List Nat} {g cap : Nat} (h : BRow w B v l g cap) (hs : w.heap.size ≤ w'.heap.size) (hb : w'.heap[g]? = w.heap[g]?) : BRow w' B v l g cap :=
 ⟨h.form, h.base, Nat.lt_of_lt_of_le h.lt hs, h.le, fun j hj => (World.cell?_of_block (w := w) (a := ⟨g, j, none⟩) hb).trans (h.cells j hj),
  fun j h1 h2 => ⟨by rw [World.cell?_of_block (w := w) (a := ⟨g, j, none⟩) hb]; exact (h.spare j h1 h2).1, (World.frozen?_of_block (w := w) (a := ⟨g, j, none⟩) hb).trans (h.spare j h1 h2).2⟩⟩
theorem BRow.alloc {w : World} {B : Nat} {v : Value} {l : List Nat} {g cap : Nat} (h : BRow w B v l g cap) (o : Obj) : BRow (w.alloc o) B v l g cap :=
 h.keep (by simp) (Below.heap_alloc w o g h.lt)
theorem BRow.drew {w : World} {B : Nat} {v : Value} {l : List Nat} {g cap : Nat} (h : BRow w B v l g cap) : BRow w.drew B v l g cap := h.keep (Nat.le_refl _) rfl
theorem BRow.drewN {w : World} {B : Nat} {v : Value} {l : List Nat} {g cap : Nat} (h : BRow w B v l g cap) (n : Nat) : BRow (w.drewN n) B v l g cap := h.keep (Nat.le_refl _) rfl
theorem BRow.below {w w' : World} {B B' : Nat} {v : Value} {l : List Nat} {g cap : Nat} (h : BRow w B v l g cap) (hb : Below B' w w') (hg : g < B') : BRow w' B v l g cap := h.keep hb.size (hb.block g hg)

theorem heap_setCells {g : Nat} : ∀ (vs : List Value) (o : Nat) (w : World) (k : Nat), k ≠ g → (w.setCells g o vs).heap[k]? = w.heap[k]?
 | [], _, _, _, _ => rfl
 | v :: r, o, w, k, hk => by
  rw [World.setCells, heap_setCells r (o + 1) _ k hk]
  exact Below.heap_setCell w _ v k hk
theorem size_setCells {g : Nat} : ∀ (vs : List Value) (o : Nat) (w : World), (w.setCells g o vs).heap.size = w.heap.size
 | [], _, _ => rfl
 | v :: r, o, w => by
  rw [World.setCells, size_setCells r (o + 1)]
  simp [World.setCell]
theorem rest_setCells {g : Nat} : ∀ (vs : List Value) (o : Nat) (w : World), (w.setCells g o vs).os = w.os ∧ (w.setCells g o vs).tape = w.tape ∧ (w.setCells g o vs).output = w.output
 | [], _, _ => ⟨rfl, rfl, rfl⟩
 | v :: r, o, w => by
  rw [World.setCells]
  exact rest_setCells r (o + 1) (w.setCell ⟨g, o, none⟩ v)
theorem grown_setCells (w : World) (g o : Nat) (vs : List Value) : w.grownBy (w.setCells g o vs) (some g) := by
 obtain ⟨h1, h2, h3⟩ := rest_setCells (g := g) vs o w
 exact ⟨h1, h2, h3, by rw [size_setCells]; exact Nat.le_refl _, fun k _ hk => heap_setCells vs o w k (by rintro rfl; exact hk rfl)⟩
theorem u8_one (l : List Nat) : ∀ u ∈ l.map U8, u.oneCell' = true := by
 intro u hu
 obtain ⟨x, _, rfl⟩ := List.mem_map.1 hu
 rfl
theorem map_get {l : List Nat} {f : Nat → Value} {j : Nat} (h : j < l.length) : (l.map f)[j]? = some (f (l.getD j 0)) := by
 simp [List.getElem?_eq_getElem h, List.getD_eq_getElem?_getD]
theorem getD_left {l r : List Nat} {j : Nat} (h : j < l.length) : (l ++ r).getD j 0 = l.getD j 0 := by
 rw [List.getD_eq_getElem?_getD, List.getD_eq_getElem?_getD, List.getElem?_append_left h]
theorem getD_right {l r : List Nat} {j : Nat} (h : l.length ≤ j) : (l ++ r).getD j 0 = r.getD (j - l.length) 0 := by
 rw [List.getD_eq_getElem?_getD, List.getD_eq_getElem?_getD, List.getElem?_append_right h]

/-- append(v, xs..): xs lie from ad on -/
theorem run_append_brow {P : Program} (w : World) (B : Nat) (t ty e : TypeId) (ht : P.underlying t = some (.slice e)) (hinfo : (P.info? e).map (fun i => (i.zero, i.size, i.bytes)) = some (some (.int .u8 0), 1, 1))
 {v : Value} {l : List Nat} {g cap : Nat} (h : BRow w B v l g cap) (ad : Addr) (n c : Nat) (xs : List Nat) (hx : xs.length = n) (hc : ∀ j u, (xs.map U8)[j]? = some u → w.cell? (ad.add j) = some u) (hb : l.length + n ≤ 70368744177664) (hB : B ≤ w.heap.size) :
 ∃ v' w' g' cap', (Builtin.append_ #[t, t] ty #[v, .slice (some ad) n c]).run P w = .ok v' w' ∧ BRow w' B v' (l ++ xs) g' cap' ∧ w.grownBy w' (some g) ∧ (g' = g ∨ w.heap.size ≤ g') := by
 obtain ⟨i, hi, hz, hs, hby⟩ := info_parts hinfo
 have src : Src P i.size t (.slice (some ad) n c) n (xs.map U8) w := by
  rw [hs]
  exact Src.ofSlice w ht ad n c (xs.map U8) (by simp [hx]) hc (u8_one xs)
 obtain ⟨rfl, hbase, hlt, hle, hcells, hspare⟩ := h
 by_cases hroom : l.length + n ≤ cap
 · have hsp : ∀ j, j < (xs.map U8).length → (w.cell? ⟨g, 0 + l.length * i.size + j, none⟩).isSome = true ∧ w.frozen? ⟨g, 0 + l.length * i.size + j, none⟩ = false := by
    intro j hj
    rw [List.length_map, hx] at hj
    rw [hs, Nat.zero_add, Nat.mul_one]
    exact hspare (l.length + j) (by omega) (by omega)
   refine ⟨_, _, g, cap, run_append_room_src (P := P) (w := w) t t ty e i ht hi g 0 l.length cap _ n (xs.map U8) src hroom (fun j hj => (hsp j hj).1) (fun j hj => (hsp j hj).2), ?_, grown_setCells _ _ _ _, .inl rfl⟩
   rw [hs, Nat.zero_add, Nat.mul_one]
   have hl : (l ++ xs).length = l.length + n := by rw [List.length_append, hx]
   have hsp' : ∀ j, j < (xs.map U8).length → (w.cell? ⟨g, l.length + j, none⟩).isSome = true := by
    intro j hj
    rw [List.length_map, hx] at hj
    exact (hspare (l.length + j) (by omega) (by omega)).1
   refine ⟨by rw [hl], hbase, by rw [size_setCells]; exact hlt, by rw [hl]; exact hroom, fun j hj => ?_, fun j h1 h2 => ?_⟩
   · rw [hl] at hj
     by_cases hj1 : j < l.length
     · rw [World.cell?_setCells_out g _ _ w ⟨g, j, none⟩ (fun _ _ => Or.inl hj1), hcells j hj1, getD_left hj1]
     · have hj2 : j - l.length < (xs.map U8).length := by rw [List.length_map, hx]; omega
       have := World.cell?_setCells_in g (xs.map U8) l.length w hsp' (j - l.length) hj2
       rw [show l.length + (j - l.length) = j by omega] at this
       rw [this, getD_right (by omega)]
       have hm := map_get (f := U8) (l := xs) (j := j - l.length) (by rw [hx]; omega)
       rw [List.getElem?_eq_getElem hj2] at hm
       exact hm
   · rw [hl] at h1
     rw [World.cell?_setCells_out g _ _ w ⟨g, j, none⟩ (fun _ _ => Or.inr (by rw [List.length_map, hx]; exact h1)), World.frozen?_setCells]
     exact hspare j (by omega) h2
 · have hold : (Builtin.firstCells i.size l.length (.slice (some ⟨g, 0, none⟩) l.length cap)).run P w.drew = .ok (l.map U8).toArray w.drew := by
    rw [hs]
    refine run_firstCells_some w.drew 1 l.length ⟨g, 0, none⟩ l.length cap (l.map U8) (by simp) (fun j u hu => ?_)
    have hj : j < l.length := by
     have := (List.getElem?_eq_some_iff.1 hu).1
     simpa using this
    have e : (⟨g, 0, none⟩ : Addr).add j = ⟨g, j, none⟩ := by unfold Addr.add; split <;> simp_all
    rw [e]
    rw [map_get hj] at hu
    rw [← hu]
    exact hcells j hj
   have hfit : Builtin.nextslicecap (l.length + n) cap * i.bytes ≤ 281474976710656 := by
    rw [hby]
    exact growslice_fits (by omega) (by omega)
   refine ⟨_, _, w.heap.size, grownCap w (l.length + n) cap e, run_append_grow_src (P := P) (w := w) t t ty e i (.int .u8 0) ht hi hz (some ⟨g, 0, none⟩) l.length cap (l.map U8) hold _ n (xs.map U8) src (by omega) (by omega) hfit, ?_, ?_, .inr (Nat.le_refl _)⟩
   · have hl : (l ++ xs).length = l.length + n := by rw [List.length_append, hx]
     have hgc := grownCap_ge w (l.length + n) cap e
     have hblk : (w.drew.alloc (.cells ((l.map U8 ++ xs.map U8).toArray ++ Builtin.zeroCells (Value.int IntKind.u8 0).cells (grownCap w (l.length + n) cap e - (l.length + n))) e)).heap[w.heap.size]? =
      some (.cells ((l.map U8 ++ xs.map U8).toArray ++ Builtin.zeroCells (Value.int IntKind.u8 0).cells (grownCap w (l.length + n) cap e - (l.length + n))) e (0, 0)) := heap_alloc_new w.drew _
     have hzc : (Builtin.zeroCells (Value.int IntKind.u8 0).cells (grownCap w (l.length + n) cap e - (l.length + n))).size = grownCap w (l.length + n) cap e - (l.length + n) := by
      simp [Builtin.zeroCells, Value.cells]
     generalize Builtin.zeroCells (Value.int IntKind.u8 0).cells (grownCap w (l.length + n) cap e - (l.length + n)) = Z at *
     have hk : Blk _ w.heap.size e _ := hblk
     refine ⟨by rw [hl], hB, hk.lt, by rw [hl]; exact hgc, fun j hj => ?_, fun j h1 h2 => ?_⟩
     · rw [hl] at hj
       rw [hk.cell, Array.getElem?_append_left (by simp; omega), List.getElem?_toArray, ← List.map_append]
       exact map_get (by rw [hl]; exact hj)
     · refine ⟨?_, hk.frozen j⟩
       rw [hk.cell, Array.getElem?_eq_getElem (by simp [hzc]; rw [hl] at h1; omega)]
       rfl
   · exact ⟨rfl, rfl, rfl, by show w.heap.size ≤ (w.heap.push _).size; simp, fun k hk _ => Below.heap_alloc w.drew _ k hk⟩

theorem wpList_append_brow {P : Program} (w : World) {ops : Array Oper} {rest : List Oper} {o : Oper} {a : Act} {Q : Exit → Act → World → Prop} (hgd : o.guard = none) (s x : Operand) (t : TypeId)
 (ho : o.op = .call { callee := .builtin .append, args := #[s, x], argTypes := #[t, t] }) (B : Nat) (e : TypeId) (ht : P.underlying t = some (.slice e)) (hinfo : (P.info? e).map (fun i => (i.zero, i.size, i.bytes)) = some (some (.int .u8 0), 1, 1))
 {v : Value} {l : List Nat} {g cap : Nat} (hs : a.eval s = v) (h : BRow w B v l g cap) (ad : Addr) (n c : Nat) (xs : List Nat) (hxv : a.eval x = .slice (some ad) n c) (hx : xs.length = n)
 (hc : ∀ j u, (xs.map U8)[j]? = some u → w.cell? (ad.add j) = some u) (hb : l.length + n ≤ 70368744177664) (hB : B ≤ w.heap.size)
 (hK : ∀ v' w' g' cap', BRow w' B v' (l ++ xs) g' cap' → w.grownBy w' (some g) → (g' = g ∨ w.heap.size ≤ g') → wpList P ops Q rest (a.put o.dst v') w') : wpList P ops Q (o :: rest) a w := by
 obtain ⟨v', w', g', cap', hrun, h1, h2, h3⟩ := run_append_brow (P := P) w B t o.type e ht hinfo h ad n c xs hx hc hb hB
 refine wpList_plain hgd fun K hK' => ?_
 unfold Oper.wp execOp
 simp only [ho, resolve, invoke, builtin, Sem.run_bind, Sem.run_pure, Result.andThen_ok, List.map_toArray, List.map_cons, List.map_nil, hs, hxv, hrun]
 exact hK' _ _ (hK v' w' g' cap' h1 h2 h3)

/-- []byte(s) -/
theorem run_bytes_brow {P : Program} (w : World) (src dst e : TypeId) (s : ByteArray) (hs : P.underlying src = some .string) (hd : P.underlying dst = some (.slice e)) (he : P.underlying e = some (.int .u8)) :
 ∃ w' cap, (convert src dst (.string s)).run P w = .ok (.slice (some ⟨w.heap.size, 0, none⟩) s.size cap) w' ∧ BRow w' w.heap.size (.slice (some ⟨w.heap.size, 0, none⟩) s.size cap) (nums s) w.heap.size cap ∧ Below w.heap.size w w' := by
 refine ⟨_, _, run_bytes_of_string (P := P) w src dst e s hs hd he, ?_, ?_⟩
 · have hge := grownCap_ge w s.size 0 e
   generalize grownCap w s.size 0 e = cap at *
   have hsz : (bytesRow s cap).size = cap := by simp [bytesRow]; omega
   have hblk : (w.drew.alloc (.cells (bytesRow s cap) e ((bytesRow s cap).size, (bytesRow s cap).size + 1))).heap[w.heap.size]? = some (.cells (bytesRow s cap) e ((bytesRow s cap).size, (bytesRow s cap).size + 1)) := heap_alloc_new w.drew _
   rw [hsz] at hblk ⊢
   have hcell : ∀ j, (w.drew.alloc (.cells (bytesRow s cap) e (cap, cap + 1))).cell? ⟨w.heap.size, j, none⟩ = (bytesRow s cap)[j]? := fun j => cell_of_row _ _ _ _ _ _ hblk
   refine ⟨by rw [nums_length], Nat.le_refl _, by show w.heap.size < (w.heap.push _).size; simp, by rw [nums_length]; exact hge, fun j hj => ?_, fun j _ h2 => ⟨?_, ?_⟩⟩
   · rw [nums_length] at hj
     rw [hcell]
     unfold bytesRow
     rw [Array.getElem?_append_left (by simpa using hj)]
     simp [nums, U8, List.getD_eq_getElem?_getD, hj]
   · rw [hcell, Array.getElem?_eq_getElem (by rw [hsz]; exact h2)]
     rfl
   · simp only [World.frozen?, hblk]
     simp
     omega
 · exact ((Below.refl _ w).drew).alloc (Nat.le_refl _) _
theorem BRow.at {w : World} {B : Nat} {v : Value} {l : List Nat} {g cap n : Nat} (h : BRow w B v l g cap) (hn : l.length = n) : v = .slice (some ⟨g, 0, none⟩) n cap := by subst hn; exact h.form
theorem below_append {w a b : World} {g : Nat} {o : Obj} (h : Below w.heap.size w a) (k : (a.alloc o).grownBy b (some g)) (hg : w.heap.size ≤ g) : Below w.heap.size w b :=
 (h.alloc h.size o).grown k (by simp; have := h.size; omega) (fun j hj => by injection hj; omega)
theorem one_new (w : World) (x : Nat) (t : TypeId) : ∀ j u, ([x].map U8)[j]? = some u → (w.alloc (.cells #[.int .u8 (x : Int)] t)).cell? ((⟨w.heap.size, 0, none⟩ : Addr).add j) = some u := cell_one_new w (U8 x) t
theorem blk_setRow {w : World} {g : Nat} {t : TypeId} {cs : Array Value} (h : Blk w g t cs) (c : Array Value) : Blk (w.setRow g c) g t c := by
 unfold Blk at h ⊢
 simp [World.setRow, Array.getElem?_modify, h]
theorem below_setRow {a w : World} {B g : Nat} (h : Below B a w) (hg : B ≤ g) (c : Array Value) : Below B a (w.setRow g c) :=
 ⟨h.os, h.tape, h.output, by simpa using h.size, fun i hi => (setRow_other w g i c (by omega)).trans (h.block i hi)⟩

theorem strN_append (a b : List Nat) : strN (a ++ b) = strN a ++ strN b := by
 apply ByteArray.ext
 rw [ByteArray.data_append]
 simp [strN]
theorem conv_cells {P : Program} (w : World) (src e dst : TypeId) (hs : P.underlying src = some (.slice e)) (he : P.underlying e = some (.int .u8)) (hd : P.underlying dst = some .string) (g cap : Nat) (l : List Nat)
 (hc : ∀ i, i < l.length → w.cell? ⟨g, i, none⟩ = some (U8 (l.getD i 0))) : (convert src dst (.slice (some ⟨g, 0, none⟩) l.length cap)).run P w = .ok (.string (strN l)) w := by
 have := run_convert_bytes_arg (P := P) w src e hs he g 0 l.length cap (l.map fun (n : Nat) => (n : Int)) (by simp) (fun i hi => by
  rw [Nat.zero_add, hc i hi]
  simp [U8, List.getD_eq_getElem?_getD, List.getElem?_eq_getElem hi]) dst hd
 rw [this]
 congr 2
 unfold strOfNums strN
 simp [List.map_map, Function.comp_def]
theorem add_block (a : Addr) (k : Nat) : (a.add k).block = a.block := by unfold Addr.add; split <;> rfl
theorem str_load {w : World} {p : Addr} {x : ByteArray} (h : w.cell? p = some (.string x)) : (loadVar 9 p).run Tryz.prog w = .ok (.string x) w := by
 go_simp
end Go.Proofs.YtakgolbgeeoioaaGreat

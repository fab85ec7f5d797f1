/-
  entries: a map's, in order.
-/
import Derived.Test.YtjmjkcgldencoaaGreatSEntM
namespace Go.Proofs.YtjmjkcgldencoaaGreat
open Go.RowKit Go.Shelf Go.Sort Go.Maps

def ecells (es : List Ent) : List Value := es.flatMap Ent.enc
theorem ecells_len (es : List Ent) : (ecells es).length = es.length * 3 := by
  induction es with
  | nil => rfl
  | cons x r ih => simp [ecells, Ent.enc] at ih ⊢; omega
theorem ecells_get : ∀ (es : List Ent) (i c : Nat) (h : i < es.length), c < 3 → (ecells es)[i * 3 + c]? = es[i].enc[c]?
  | [], _, _, h, _ => absurd h (Nat.not_lt_zero _)
  | x :: r, 0, c, _, hc => by
    have e : ecells (x :: r) = x.enc ++ ecells r := rfl
    rw [e, Nat.zero_mul, Nat.zero_add, List.getElem?_append_left (by simpa [Ent.enc] using hc)]
    rfl
  | x :: r, i + 1, c, h, hc => by
    have e : ecells (x :: r) = x.enc ++ ecells r := rfl
    have hl : x.enc.length = 3 := rfl
    rw [e, List.getElem?_append_right (by rw [hl]; omega), hl, show (i + 1) * 3 + c - 3 = i * 3 + c by omega]
    exact ecells_get r i c (Nat.lt_of_succ_lt_succ h) hc
theorem entInfo : (Tryz.prog.info? 134).map (fun i => (i.zero, i.size, i.bytes)) = some (some (.agg #[.string ⟨#[]⟩, .string ⟨#[]⟩, .string ⟨#[]⟩]), 3, 48) := by kernel_rfl
/-- a slice of entries that the call made -/
def OwnEn (w : World) (B : Nat) (v : Value) (es : List Ent) : Prop := w.ownsRow B 134 3 v es.length (ecells es)
theorem ownEn_nil (w : World) (B : Nat) : OwnEn w B (.slice none 0 0) [] := ⟨rfl, .inl ⟨rfl, rfl⟩⟩
theorem OwnEn.grown {w w' : World} {B : Nat} {v : Value} {es : List Ent} {row : Option Nat} (h : OwnEn w B v es) (hg : w.grownBy w' row) (hne : v.ownBlock = none ∨ v.ownBlock ≠ row) : OwnEn w' B v es := World.ownsRow.kept h hg hne
theorem OwnEn.below {w w' : World} {B : Nat} {v : Value} {es : List Ent} (h : OwnEn w B v es) (hb : Below w.heap.size w w') : OwnEn w' B v es :=
  World.ownsRow.kept h (only_of_below hb none) (by cases v.ownBlock <;> simp)
theorem three_new (w : World) (x y z : ByteArray) (t : TypeId) : ∀ j u, ([Value.string x, .string y, .string z])[j]? = some u → (w.alloc (.cells #[.string x, .string y, .string z] t)).cell? ((⟨w.heap.size, 0, none⟩ : Addr).add j) = some u := by
  intro j u hu
  rw [addr_add, Nat.zero_add, (Blk.new w t #[.string x, .string y, .string z]).cell, ← hu]
  rw [← List.getElem?_toArray]
set_option maxRecDepth 100000 in
theorem wpList_append_ent {W : World} {ops : Array Oper} {rest : List Oper} {o : Oper} {a : Act} {Q : Exit → Act → World → Prop} (hgd : o.guard = none) (s x : Operand)
    (ho : o.op = .call { callee := .builtin .append, args := #[s, x], argTypes := #[113, 113] }) (B : Nat) (v : Value) (es : List Ent) (hs : a.eval s = v) (hown : OwnEn W B v es) (y : Ent)
    (hx : a.eval x = .slice (some ⟨W.heap.size, 0, none⟩) 1 1) (hlen : es.length ≤ 1073741824) (hB : B ≤ W.heap.size)
    (h : ∀ g cap w', OwnEn w' B (.slice (some ⟨g, 0, none⟩) (es.length + 1) cap) (es ++ [y]) → W.grownBy w' v.ownBlock → wpList Tryz.prog ops Q rest (a.put o.dst (.slice (some ⟨g, 0, none⟩) (es.length + 1) cap)) w') :
    wpList Tryz.prog ops Q (o :: rest) a (W.alloc (.cells #[.string y.path, .string y.key, .string y.val] 134)) := by
  obtain ⟨i0, hi, hz0, hz1, hz2⟩ := info_parts entInfo
  refine wpList_append_lies _ hgd s x 113 ho B 134 i0 (.agg #[.string ⟨#[]⟩, .string ⟨#[]⟩, .string ⟨#[]⟩]) 3 48 Tryz.underlying113 hi hz0 hz1 hz2 rfl (by decide) v es.length (ecells es) hs (World.ownsRow.alloc hown _)
    ⟨W.heap.size, 0, none⟩ 1 1 [.string y.path, .string y.key, .string y.val] hx rfl (three_new W y.path y.key y.val 134) (by intro u hu; simp at hu; rcases hu with rfl | rfl | rfl <;> rfl) (by decide) (by unfold maxLen; omega) (by omega) (by simp; omega) (W.heap.size + 1) (by simp) ?_
  intro g cap w' hown1 hgrow _ _
  refine h g cap w' ?_ (grown_trans (grown_alloc (grown_refl W _) _) hgrow)
  unfold OwnEn
  rw [List.length_append]
  have e : ecells (es ++ [y]) = ecells es ++ [.string y.path, .string y.key, .string y.val] := by simp [ecells, Ent.enc]
  rw [e]
  exact hown1
theorem own_size {w : World} {b n : Nat} {D : DataW Unit} (h : w.ownsMap Tryz.prog 9 (plainElem (H := Unit) Tryz.prog 9) b n D) : Maps.size D ≤ n := by
  obtain ⟨es, clock, hb, F, hs, rfl⟩ := h
  show ((es.toList.map _).foldr DataW.insert []).length ≤ n
  rw [length_sorted]
  simpa using hs
theorem invK (key : Value) (kl : Lit) (h : keyOf Tryz.prog 9 key = some kl) : ∃ x : ByteArray, key = .string x := by
  obtain ⟨x, hx, _⟩ := Maps.keyOf_str Tryz.underlying9 h
  exact ⟨⟨x.toArray⟩, hx⟩
theorem invV (v : Value) (y : DataW Unit × List MemPlace) (h : plainElem (H := Unit) Tryz.prog 9 v = some y) : ∃ c : ByteArray, v = .string c := by
  obtain ⟨s, hs, _⟩ := plainElem_string_inv Tryz.underlying9 h
  exact ⟨s, hs⟩
theorem valD_of {D : DataW Unit} {x c : ByteArray} (h : ∀ zd, D.atKey (litK x) zd = datV c) : valD D x = c := by
  unfold valD
  rw [h]
  show (⟨c.data.toList.toArray⟩ : ByteArray) = c
  exact of_toList c
/-- the sorted row is the entries in order, and no other block has turned -/
theorem sorted_ents (val : ByteArray → ByteArray) (w : World) (g m : Nat) (ks : List ByteArray) (os : Array Obj) (hH : HoldsK (fun k => (entK val k).enc) 3 w g 0 ks.toArray) (hg : g < w.heap.size) (ds : List ByteArray) (hd : ds.length = ks.length) :
    EntB (sortedW val w g m ds.toArray os) g 0 (ds.map (entK val)) ∧ w.grownBy (sortedW val w g m ds.toArray os) (some g) := by
  have hs : ds.toArray.size = ks.toArray.size := by simpa using hd
  have hz : (putRowK (fun k => (entK val k).enc) 3 (Go.Sort.ahead w m) g 0 ds.toArray).heap.size = w.heap.size := size_putRowK ..
  have h1 := holdsK_grow _ 3 (putRowK (fun k => (entK val k).enc) 3 (Go.Sort.ahead w m) g 0 ds.toArray) os g 0 ds.toArray (by rw [hz]; exact hg) (holdsK_putRowK _ 3 (Go.Sort.ahead w m) g 0 ks.toArray ds.toArray (holdsK_ahead _ 3 w m g 0 _ hH) hs)
  refine ⟨⟨?_, fun i hi => ?_⟩, ?_⟩
  · show g < (grow (putRowK _ 3 (Go.Sort.ahead w m) g 0 ds.toArray) os).heap.size
    rw [show (grow (putRowK (fun k => (entK val k).enc) 3 (Go.Sort.ahead w m) g 0 ds.toArray) os).heap.size = w.heap.size + os.size by rw [← hz]; exact Array.size_append]
    omega
  · have hi2 : i < ds.length := by simpa using hi
    have hc := fun c (hc : c < 3) => h1.cell (i := i) (c := c) (by simpa using hi2) hc
    have e : ds.toArray[i]! = ds[i] := by simp [hi2]
    have c0 := (hc 0 (by decide)).1
    have c1 := (hc 1 (by decide)).1
    have c2 := (hc 2 (by decide)).1
    rw [e] at c0 c1 c2
    simp only [List.getElem_map]
    exact ⟨c0, c1, c2⟩
  · refine ⟨rfl, rfl, rfl, ?_, fun i hi hne => ?_⟩
    · show w.heap.size ≤ (grow (putRowK _ 3 (Go.Sort.ahead w m) g 0 ds.toArray) os).heap.size
      rw [show (grow (putRowK (fun k => (entK val k).enc) 3 (Go.Sort.ahead w m) g 0 ds.toArray) os).heap.size = w.heap.size + os.size by rw [← hz]; exact Array.size_append]
      omega
    · show ((putRowK (fun k => (entK val k).enc) 3 (Go.Sort.ahead w m) g 0 ds.toArray).heap ++ os)[i]? = _
      rw [Array.getElem?_append_left (by rw [hz]; exact hi)]
      show ((Go.Sort.ahead w m).heap.modify g _)[i]? = _
      rw [Array.getElem?_modify, if_neg (by rintro rfl; exact hne rfl)]
      rfl
theorem own_holds {w : World} {B g cap : Nat} {val : ByteArray → ByteArray} {ks : List ByteArray} (h : OwnEn w B (.slice (some ⟨g, 0, none⟩) ks.length cap) (ks.map (entK val))) : HoldsK (fun k => (entK val k).enc) 3 w g 0 ks.toArray ∧ g < w.heap.size ∧ B ≤ g ∧ ks.length ≤ cap := by
  have h0 := h
  rcases h.2 with ⟨hv, _⟩ | ⟨g', cap', cur, hv, hb, hk, hc1, hc2, hc3, hc4⟩
  · cases hv
  · injection hv with hv1 hv2 hv3
    injection hv1 with hv1
    injection hv1 with hv1
    subst hv1 hv3
    have hB : Blk w g 134 cur := hk
    refine ⟨fun j hj => ⟨?_, hB.frozen _⟩, hB.lt, hb, by simpa using hc1⟩
    have hj2 : j < ks.length * 3 := by simpa using hj
    rw [get_flatK _ _ _ _ (by simpa using hj2)]
    have hq : j / 3 < ks.length := by omega
    have := ecells_get (ks.map (entK val)) (j / 3) (j % 3) (by simpa using hq) (Nat.mod_lt _ (by decide))
    rw [show j / 3 * 3 + j % 3 = j by omega] at this
    have hc : (entK val ks[j / 3]).enc[j % 3]? = some ((entK val ks[j / 3]).enc[j % 3]!) := by
      have : j % 3 < (entK val ks[j / 3]).enc.length := Nat.mod_lt _ (by decide)
      rw [List.getElem?_eq_getElem this]; exact congrArg some (getElem!_pos (entK val ks[j / 3]).enc (j % 3) this).symm
    simp only [List.getElem_map] at this
    rw [hc] at this
    have hcell := World.ownsRow.cells h0 (g := g) rfl j _ this
    rw [addr_add] at hcell
    rw [hcell]
    simp [hq]
end Go.Proofs.YtjmjkcgldencoaaGreat

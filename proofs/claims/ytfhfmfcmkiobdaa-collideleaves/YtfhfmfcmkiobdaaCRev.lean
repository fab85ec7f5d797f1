/-
  Layer 8: slices of bools that a call made; slices.Reverse of texts and of bools.
-/
import Derived.Test.YtfhfmfcmkiobdaaTxt
import Derived.Laws.OwnMore
import Derived.Shelf.RegionOpenPlain
import Derived.Deep.LoopGhost
import Derived.Sort.WalkB12
import Derived.Lib.SlicesMore
namespace Go.Proofs.Ytfhfmfcmkiobdaa
open Go.RowKit

theorem boolInfo : (Try.prog.info? 4).map (fun i => (i.zero, i.size, i.bytes)) = some (some (.bool false), 1, 1) := by kernel_rfl
/-- a slice of bools that the call made -/
def OwnB (w : World) (B : Nat) (v : Value) (bs : List Bool) : Prop := w.ownsRow B 4 1 v bs.length (bs.map .bool)
theorem ownB_nil (w : World) (B : Nat) : OwnB w B (.slice none 0 0) [] := ⟨rfl, .inl ⟨rfl, rfl⟩⟩
theorem OwnB.mono {w : World} {B B' : Nat} {v : Value} {bs : List Bool} (h : OwnB w B v bs) (hb : B' ≤ B) : OwnB w B' v bs := World.ownsRow.mono h hb
theorem OwnB.below {w w' : World} {B : Nat} {v : Value} {bs : List Bool} (h : OwnB w B v bs) (hb : Below w.heap.size w w') : OwnB w' B v bs :=
  World.ownsRow.kept h (only_of_below hb none) (by cases v.ownBlock <;> simp)
/-- the slice at oa reads as the bools bs -/
def Bools (w : World) (oa : Option Addr) (bs : List Bool) : Prop := ∀ i, i < bs.length → ∃ a, oa = some a ∧ a.block < w.heap.size ∧ w.cell? (a.add i) = some (.bool (bs.getD i false))
theorem Bools.below {w w' : World} {oa : Option Addr} {bs : List Bool} (h : Bools w oa bs) (hb : Below w.heap.size w w') : Bools w' oa bs := by
  intro i hi
  obtain ⟨a, rfl, hab, hc⟩ := h i hi
  exact ⟨a, rfl, Nat.lt_of_lt_of_le hab hb.size, (hb.cell (by rw [add_block]; exact hab)).trans hc⟩
theorem OwnB.form {w : World} {B : Nat} {v : Value} {bs : List Bool} (h : OwnB w B v bs) : ∃ oa cap, v = .slice oa bs.length cap ∧ Bools w oa bs := by
  have h0 := h
  rcases h.2 with ⟨rfl, hn⟩ | ⟨g, cap, cur, rfl, hg, hk, hc1, hc2, hc3, hc4⟩
  · exact ⟨none, 0, by rw [hn], fun i hi => absurd hi (by omega)⟩
  · refine ⟨some ⟨g, 0, none⟩, cap, rfl, fun i hi => ⟨_, rfl, (show Blk w g 4 cur from hk).lt, ?_⟩⟩
    exact World.ownsRow.cells h0 (g := g) rfl i (.bool (bs.getD i false)) (by rw [List.getElem?_map, List.getElem?_eq_getElem hi, List.getD_eq_getElem?_getD, List.getElem?_eq_getElem hi]; rfl)
/-- append(v, y) -/
theorem wpList_append_bool {W : World} {ops : Array Oper} {rest : List Oper} {o : Oper} {a : Act} {Q : Exit → Act → World → Prop} (hgd : o.guard = none) (s x : Operand)
    (ho : o.op = .call { callee := .builtin .append, args := #[s, x], argTypes := #[64, 64] }) (B : Nat) (v : Value) (ss : List Bool) (hs : a.eval s = v) (hown : OwnB W B v ss) (y : Bool)
    (hx : a.eval x = .slice (some ⟨W.heap.size, 0, none⟩) 1 1) (hlen : ss.length ≤ 1073741824) (hB : B ≤ W.heap.size)
    (h : ∀ g cap w', OwnB w' B (.slice (some ⟨g, 0, none⟩) (ss.length + 1) cap) (ss ++ [y]) → W.grownBy w' v.ownBlock → wpList Try.prog ops Q rest (a.put o.dst (.slice (some ⟨g, 0, none⟩) (ss.length + 1) cap)) w') :
    wpList Try.prog ops Q (o :: rest) a (W.alloc (.cells #[.bool y] 4)) := by
  obtain ⟨i0, hi, hz0, hz1, hz2⟩ := info_parts boolInfo
  refine wpList_append_lies _ hgd s x 64 ho B 4 i0 (.bool false) 1 1 Try.underlying64 hi hz0 hz1 hz2 rfl (by decide) v ss.length (ss.map .bool) hs (World.ownsRow.alloc hown _)
    ⟨W.heap.size, 0, none⟩ 1 1 [.bool y] hx rfl (cell_one_new W (.bool y) 4) (by intro u hu; simp at hu; subst hu; rfl) (by decide) (by unfold maxLen; omega) (by omega) (by simp; omega) (W.heap.size + 1) (by simp) ?_
  intro g cap w' hown1 hgrow hat hlt
  refine h g cap w' ?_ (grown_trans (grown_alloc (grown_refl W _) _) hgrow)
  unfold OwnB
  rw [List.length_append, List.map_append]
  exact hown1
/-- only blocks made since w may have turned -/
theorem below_row {w a b : World} {v : Value} {B : Nat} {t : TypeId} {k n : Nat} {xs : List Value} (h : Below w.heap.size w a) (hv : a.ownsRow B t k v n xs) (hB : w.heap.size ≤ B) (hg : a.grownBy b v.ownBlock) : Below w.heap.size w b :=
  h.grown hg h.size (fun k hk => by
    rcases hv.2 with ⟨rfl, _⟩ | ⟨g, cap, cur, rfl, hge, _⟩
    · cases hk
    · simp [Value.ownBlock] at hk; omega)
theorem grown_drewC {a w : World} {row : Option Nat} (h : a.grownBy w row) : a.grownBy w.drew row := ⟨h.os, h.tape, h.output, h.size, h.block⟩
theorem swp_map {α : Type} [Inhabited α] (enc : α → Value) (d : Array α) (i j : Nat) : (Sort.swp d i j).toList.map enc = ((d.toList.map enc).set i (enc d[j]!)).set j (enc d[i]!) := by
  unfold Sort.swp
  rw [Array.toList_setIfInBounds, Array.toList_setIfInBounds, List.map_set, List.map_set]
def RVtxt (B : Nat) (v : Value) (ss : List ByteArray) (w : World) (e : Ending) (w' : World) : Prop := (∃ u, e = .returned u) ∧ Own w' B v ss.reverse ∧ w.grownBy w' v.ownBlock
set_option maxHeartbeats 1600000 in
set_option maxRecDepth 1000000 in
theorem reverse_txt (B : Nat) (v : Value) (ss : List ByteArray) (hn : ss.length ≤ 1073741824) (w : World) (h : Own w B v ss) : Calls Try.prog 45 #[v] w (RVtxt B v ss w) := by
  rcases h.2 with ⟨rfl, hl⟩ | ⟨g, cap, cur, rfl, hg, hk, hc1, hc2, hc3, hc4⟩
  · have e : ss = [] := List.length_eq_zero_iff.1 hl
    subst e
    clear hl hn
    have HO := Lib.hid h
    clear h
    go_enter Try.func45, Try.ntmps45
    go_wp2
    go_loopg [2, 3] 0 (fun _ s2 s3 wr => s2 = .int .i64 0 ∧ s3 = .int .i64 (-1) ∧ wr = w)
    case atStart => exact ⟨rfl, rfl, rfl⟩
    case round =>
      obtain ⟨rfl, rfl, rfl⟩ := hrel
      go_wp2
      go_end0
      exact ⟨⟨_, rfl⟩, HO.out, grown_refl _ _⟩
  · clear hg hk hc1 hc2 hc3 hc4 cur
    obtain ⟨n, hN⟩ : ∃ n, ss.length = n := ⟨_, rfl⟩
    have HO := Lib.hid h
    rw [hN] at hn ⊢
    have HN := Lib.hid hN
    clear h hN
    go_enter Try.func45, Try.ntmps45
    go_wp2
    go_loopg [2, 3] n (fun k s2 s3 wr => ∃ (i jn : Nat) (jz : Int) (dk : Array ByteArray), s2 = .int .i64 i ∧ s3 = .int .i64 jz ∧ ((i : Int) < jz → jz = jn ∧ jn < n) ∧ (¬ (i : Int) < jz → ¬ i < jn) ∧ jn - i ≤ k ∧
      dk.size = n ∧ Hid (Own wr B (.slice (some ⟨g, 0, none⟩) n cap) dk.toList ∧ w.grownBy wr (some g)) ∧ Hid (Sort.reverseLoop i jn dk = Sort.reverseLoop 0 (n - 1) ss.toArray))
    case atStart => exact ⟨0, n - 1, (n : Int) - 1, ss.toArray, rfl, rfl, fun h => ⟨by omega, by omega⟩, fun h => by omega, by omega, by simpa using HN.out, Lib.hid ⟨by have := HO.out; rw [HN.out] at this; exact this, grown_refl _ _⟩, Lib.hid rfl⟩
    case round =>
      obtain ⟨i, jn, jz, dk, rfl, rfl, h1, h2, hk, hds, HW, HE⟩ := hrel
      by_cases hlt : (i : Int) < jz
      · obtain ⟨rfl, hjn⟩ := h1 hlt
        have hij : i < jn := by omega
        have hlen : dk.toList.length = n := by simpa using hds
        have hrow := HW.out.1
        unfold Own at hrow
        rw [hlen] at hrow
        have ci : wr.cell? ⟨g, i, none⟩ = some (.string dk[i]!) := by
          rw [World.ownsRow.cellAt hrow i (by omega), List.getElem?_map, Array.getElem?_toList, getElem!_pos dk i (by omega), Array.getElem?_eq_getElem (by omega)]; rfl
        have cj : wr.cell? ⟨g, jn, none⟩ = some (.string dk[jn]!) := by
          rw [World.ownsRow.cellAt hrow jn (by omega), List.getElem?_map, Array.getElem?_toList, getElem!_pos dk jn (by omega), Array.getElem?_eq_getElem (by omega)]; rfl
        have fi := World.ownsRow.frozenAt hrow i
        have fj := World.ownsRow.frozenAt hrow jn
        have HR := Lib.hid hrow
        have HL := Lib.hid hlen
        have ei : ((0 : Int) + (i : Int)).toNat = i := by omega
        clear hrow hlen h1 h2 ei
        generalize hx : dk[i]! = x at *
        generalize hy : dk[jn]! = y at *
        have HX := Lib.hid hx
        have HY := Lib.hid hy
        clear hx hy
        go_wp2_with fail
        go_region
        go_wp2
        go_roundg (jn - 1 - (i + 1))
        case measure => omega
        case rel =>
          have he := HE.out
          rw [Sort.reverseLoop, if_pos hij] at he
          have k1 := World.ownsRow.stored HR.out i (.string y)
          have k2 := World.ownsRow.stored k1.1 jn (.string x)
          refine ⟨i + 1, jn - 1, (jn : Int) - 1, Sort.swp dk i jn, by simp, rfl, fun h => ⟨by omega, by omega⟩, fun h => by omega, Nat.le_refl _, by rw [Sort.size_swp]; exact hds, Lib.hid ⟨?_, ?_⟩, Lib.hid he⟩
          · unfold Own
            rw [swp_map, HX.out, HY.out, show (Sort.swp dk i jn).toList.length = n by rw [Array.length_toList, Sort.size_swp]; exact hds]
            exact World.ownsRow.drew k2.1
          · exact grown_drewC (grown_trans (grown_trans HW.out.2 k1.2) k2.2)
      · have hnot := h2 hlt
        go_wp2
        go_end0
        have he := HE.out
        rw [Sort.reverseLoop, if_neg hnot] at he
        refine ⟨⟨_, rfl⟩, ?_, HW.out.2⟩
        have e2 : ss.reverse = dk.toList := by
          have := Lib.reverseLoop_reverse_list ss
          rw [HN.out, ← he] at this
          rw [this]
        rw [e2]
        exact HW.out.1
def RVbool (B : Nat) (v : Value) (ss : List Bool) (w : World) (e : Ending) (w' : World) : Prop := (∃ u, e = .returned u) ∧ OwnB w' B v ss.reverse ∧ w.grownBy w' v.ownBlock
set_option maxHeartbeats 1600000 in
set_option maxRecDepth 1000000 in
theorem reverse_bool (B : Nat) (v : Value) (ss : List Bool) (hn : ss.length ≤ 1073741824) (w : World) (h : OwnB w B v ss) : Calls Try.prog 48 #[v] w (RVbool B v ss w) := by
  rcases h.2 with ⟨rfl, hl⟩ | ⟨g, cap, cur, rfl, hg, hk, hc1, hc2, hc3, hc4⟩
  · have e : ss = [] := List.length_eq_zero_iff.1 hl
    subst e
    clear hl hn
    have HO := Lib.hid h
    clear h
    go_enter Try.func48, Try.ntmps48
    go_wp2
    go_loopg [2, 3] 0 (fun _ s2 s3 wr => s2 = .int .i64 0 ∧ s3 = .int .i64 (-1) ∧ wr = w)
    case atStart => exact ⟨rfl, rfl, rfl⟩
    case round =>
      obtain ⟨rfl, rfl, rfl⟩ := hrel
      go_wp2
      go_end0
      exact ⟨⟨_, rfl⟩, HO.out, grown_refl _ _⟩
  · clear hg hk hc1 hc2 hc3 hc4 cur
    obtain ⟨n, hN⟩ : ∃ n, ss.length = n := ⟨_, rfl⟩
    have HO := Lib.hid h
    rw [hN] at hn ⊢
    have HN := Lib.hid hN
    clear h hN
    go_enter Try.func48, Try.ntmps48
    go_wp2
    go_loopg [2, 3] n (fun k s2 s3 wr => ∃ (i jn : Nat) (jz : Int) (dk : Array Bool), s2 = .int .i64 i ∧ s3 = .int .i64 jz ∧ ((i : Int) < jz → jz = jn ∧ jn < n) ∧ (¬ (i : Int) < jz → ¬ i < jn) ∧ jn - i ≤ k ∧
      dk.size = n ∧ Hid (OwnB wr B (.slice (some ⟨g, 0, none⟩) n cap) dk.toList ∧ w.grownBy wr (some g)) ∧ Hid (Sort.reverseLoop i jn dk = Sort.reverseLoop 0 (n - 1) ss.toArray))
    case atStart => exact ⟨0, n - 1, (n : Int) - 1, ss.toArray, rfl, rfl, fun h => ⟨by omega, by omega⟩, fun h => by omega, by omega, by simpa using HN.out, Lib.hid ⟨by have := HO.out; rw [HN.out] at this; exact this, grown_refl _ _⟩, Lib.hid rfl⟩
    case round =>
      obtain ⟨i, jn, jz, dk, rfl, rfl, h1, h2, hk, hds, HW, HE⟩ := hrel
      by_cases hlt : (i : Int) < jz
      · obtain ⟨rfl, hjn⟩ := h1 hlt
        have hij : i < jn := by omega
        have hlen : dk.toList.length = n := by simpa using hds
        have hrow := HW.out.1
        unfold OwnB at hrow
        rw [hlen] at hrow
        have ci : wr.cell? ⟨g, i, none⟩ = some (.bool dk[i]!) := by
          rw [World.ownsRow.cellAt hrow i (by omega), List.getElem?_map, Array.getElem?_toList, getElem!_pos dk i (by omega), Array.getElem?_eq_getElem (by omega)]; rfl
        have cj : wr.cell? ⟨g, jn, none⟩ = some (.bool dk[jn]!) := by
          rw [World.ownsRow.cellAt hrow jn (by omega), List.getElem?_map, Array.getElem?_toList, getElem!_pos dk jn (by omega), Array.getElem?_eq_getElem (by omega)]; rfl
        have fi := World.ownsRow.frozenAt hrow i
        have fj := World.ownsRow.frozenAt hrow jn
        have HR := Lib.hid hrow
        have HL := Lib.hid hlen
        have ei : ((0 : Int) + (i : Int)).toNat = i := by omega
        clear hrow hlen h1 h2 ei
        generalize hx : dk[i]! = x at *
        generalize hy : dk[jn]! = y at *
        have HX := Lib.hid hx
        have HY := Lib.hid hy
        clear hx hy
        go_wp2_with fail
        go_region
        go_wp2
        go_roundg (jn - 1 - (i + 1))
        case measure => omega
        case rel =>
          have he := HE.out
          rw [Sort.reverseLoop, if_pos hij] at he
          have k1 := World.ownsRow.stored HR.out i (.bool y)
          have k2 := World.ownsRow.stored k1.1 jn (.bool x)
          refine ⟨i + 1, jn - 1, (jn : Int) - 1, Sort.swp dk i jn, by simp, rfl, fun h => ⟨by omega, by omega⟩, fun h => by omega, Nat.le_refl _, by rw [Sort.size_swp]; exact hds, Lib.hid ⟨?_, ?_⟩, Lib.hid he⟩
          · unfold OwnB
            rw [swp_map, HX.out, HY.out, show (Sort.swp dk i jn).toList.length = n by rw [Array.length_toList, Sort.size_swp]; exact hds]
            exact World.ownsRow.drew k2.1
          · exact grown_drewC (grown_trans (grown_trans HW.out.2 k1.2) k2.2)
      · have hnot := h2 hlt
        go_wp2
        go_end0
        have he := HE.out
        rw [Sort.reverseLoop, if_neg hnot] at he
        refine ⟨⟨_, rfl⟩, ?_, HW.out.2⟩
        have e2 : ss.reverse = dk.toList := by
          have := Lib.reverseLoop_reverse_list ss
          rw [HN.out, ← he] at this
          rw [this]
        rw [e2]
        exact HW.out.1
end Go.Proofs.Ytfhfmfcmkiobdaa

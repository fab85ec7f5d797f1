/-
  slices.Grow of nothing and slices.Concat of two slices of places.
-/
import Derived.Test.YtpapmcdnaplmkaaTIds
namespace Go.Proofs.Ytpapmcdnaplmkaa
open Go.RowKit

set_option maxRecDepth 100000 in
set_option maxHeartbeats 1000000 in
theorem grow_ids (n : Nat) (h1 : 1 ≤ n) (hn : n ≤ 1048576) (w : World) : Calls Try.prog 38 #[.slice none 0 0, .int .i64 n] w fun e w' => ∃ v, e = .returned v ∧ OwnD w' w.heap.size v [] ∧ v ≠ .slice none 0 0 ∧ Below w.heap.size w w' := by
  obtain ⟨i0, hi, hz0, hz1, hz2⟩ := info_parts idInfo
  have hr : ∀ ty, (Builtin.append_ #[23, 3] ty #[.slice none 0 0, .int .i64 (n : Int)]).run Try.prog w = _ := fun ty =>
    Lib.run_append_grow_zeros w 23 3 ty 26 i0 (.agg #[.int .i64 0, .int .i64 0]) .i64 .i64 Try.underlying23 Try.underlying3 hi hz0 none 0 0 [] (run_firstCells_none w.drew i0.size 0 0 0) n (by omega) (by omega) (by omega) (by omega) (by rw [hz2]; omega) (growslice_fits (by omega) (by rw [hz2]; omega))
  have hG := grownCap_ge w (0 + n) 0 26
  have hG2 := grownCap_le_maxLen w (0 + n) 0 26 (by unfold maxLen; omega)
  generalize grownCap w (0 + n) 0 26 = G at *
  have hsz : (([] : List Value).toArray ++ Builtin.zeroCells (Value.agg #[.int .i64 0, .int .i64 0]).cells n ++ Builtin.zeroCells (Value.agg #[.int .i64 0, .int .i64 0]).cells (G - (0 + n))).size = G * 2 := by
    simp only [Array.size_append, size_zeroCells]
    show 0 + n * 2 + (G - (0 + n)) * 2 = G * 2
    omega
  generalize (([] : List Value).toArray ++ Builtin.zeroCells (Value.agg #[.int .i64 0, .int .i64 0]).cells n ++ Builtin.zeroCells (Value.agg #[.int .i64 0, .int .i64 0]).cells (G - (0 + n))) = cs at *
  have HOW := Lib.hid (show OwnD (w.drew.alloc (.cells cs 26)) w.heap.size (.slice (some ⟨w.heap.size, 0, none⟩) 0 G) [] from World.ownsRow_made w.drew cs G (Nat.le_refl _) hG2 hsz)
  have HBW := Lib.hid (show Below w.heap.size w (w.drew.alloc (.cells cs 26)) from ((Below.refl _ w).drew).alloc (Nat.le_refl _) _)
  rw [Nat.zero_add] at hr hG
  have hr2 := hr 23
  have hpos : (0 : Int) < (n : Int) := by omega
  clear hr hsz
  go_enter Try.func38, Try.ntmps38
  go_wp2_with (at_builtin; refine Lib.wpList_append_run _ rfl _ _ 23 3 rfl _ _ rfl rfl _ _ hr2 ?_)
  go_wp2
  go_ret
  exact ⟨_, rfl, HOW.out, by simp, HBW.out⟩
theorem ownD_below2 {w a b : World} {v : Value} {B : Nat} {ss : List (Nat × Nat)} (h : Below w.heap.size w a) (hv : OwnD a B v ss) (hB : w.heap.size ≤ B) (hg : a.grownBy b v.ownBlock) : Below w.heap.size w b :=
  h.grown hg h.size (fun k hk => Nat.le_trans hB (World.ownsRow.lt hv k hk).1)
set_option maxRecDepth 100000 in
set_option maxHeartbeats 2000000 in
theorem concat_ids (g : Nat) (oa ob : Option Addr) (n c m c' : Nat) (ts us : List (Nat × Nat)) (hn : ts.length = n) (hm : us.length = m) (h1 : 1 ≤ n + m) (hlen : n + m ≤ 1048576) (hna : oa = none → n = 0 ∧ c = 0) (hnb : ob = none → m = 0 ∧ c' = 0) (w : World) (hg : g < w.heap.size)
    (hc0 : w.cell? ⟨g, 0, none⟩ = some (.slice oa n c)) (hc1 : w.cell? ⟨g, 1, none⟩ = some (.slice ob m c')) (ha : Ids w oa ts) (hb : Ids w ob us) :
    Calls Try.prog 23 #[.slice (some ⟨g, 0, none⟩) 2 2] w (RD (ts ++ us) w) := by
  have HRD := Lib.hid (show ∀ e w', RD (ts ++ us) w e w' = ∃ v, e = .returned v ∧ OwnD w' w.heap.size v (ts ++ us) ∧ Below w.heap.size w w' from fun _ _ => rfl)
  have HG := Lib.hid (fun W => grow_ids (n + m) h1 hlen W)
  rw [show ((n + m : Nat) : Int) = (n : Int) + (m : Int) by omega] at HG
  have HA := Lib.hid ha
  have HB := Lib.hid hb
  have HN := Lib.hid hn
  have HM := Lib.hid hm
  have HNA := Lib.hid hna
  have HNB := Lib.hid hnb
  generalize RD (ts ++ us) w = PO at *
  clear ha hb hn hm hna hnb
  go_enter Try.func23, Try.ntmps23
  go_wp2
  go_loop [3, 11] (fun s i => (i = .int .i64 0 ∧ s = .int .i64 0) ∨ (i = .int .i64 1 ∧ s = .int .i64 n) ∨ (i = .int .i64 2 ∧ s = .int .i64 ((n : Int) + (m : Int)))) (fun _ i => 2 - (intOf i).toNat)
  case atStart => exact .inl ⟨rfl, rfl⟩
  case round =>
    rcases hrel with ⟨rfl, rfl⟩ | ⟨rfl, rfl⟩ | ⟨rfl, rfl⟩
    · clear HG
      go_wp2
      go_round
      case rel => exact .inr (.inl ⟨rfl, by go_num⟩)
      case measure => simp [intOf]
    · clear HG
      go_wp2
      go_round
      case rel => exact .inr (.inr ⟨rfl, by go_num⟩)
      case measure => simp [intOf]
    · go_wp2_with fail
      refine (HG.out _).mono ?_
      rintro e w1 ⟨v1, rfl, hv1, _, hb1⟩
      clear HG
      go_wp2
      go_loopw [6, 27] (fun v i wr => ((i = .int .i64 0 ∧ OwnD wr w.heap.size v []) ∨ (i = .int .i64 1 ∧ OwnD wr w.heap.size v ts) ∨ (i = .int .i64 2 ∧ OwnD wr w.heap.size v (ts ++ us))) ∧ Below w.heap.size w wr) (fun _ i _ => 2 - (intOf i).toNat)
      case atStart => exact ⟨.inl ⟨rfl, hv1⟩, hb1⟩
      case round =>
        obtain ⟨hr0, hB⟩ := hrel
        clear hv1 hb1
        rcases hr0 with ⟨rfl, hown⟩ | ⟨rfl, hown⟩ | ⟨rfl, hown⟩
        · obtain ⟨v', w', hr, hown', hg'⟩ := append_ids hown oa n c HN.out (HA.out.below hB) HNA.out (by simp; omega) hB.size
          have hB' := ownD_below2 hB hown (Nat.le_refl _) hg'
          have d0 : wr.cell? ⟨g, 0, none⟩ = some (.slice oa n c) := (hB.cell (p := ⟨g, 0, none⟩) hg).trans hc0
          clear hg' hown
          go_wp2_with (at_builtin; refine Lib.wpList_append_run _ rfl _ _ 23 23 rfl _ _ rfl rfl _ _ hr ?_)
          go_wp2
          go_roundw
          case rel => exact ⟨.inr (.inl ⟨rfl, by simpa using hown'⟩), hB'⟩
          case measure => simp [intOf]
        · obtain ⟨v', w', hr, hown', hg'⟩ := append_ids hown ob m c' HM.out (HB.out.below hB) HNB.out (by rw [HN.out]; omega) hB.size
          have hB' := ownD_below2 hB hown (Nat.le_refl _) hg'
          have d1 : wr.cell? ⟨g, 1, none⟩ = some (.slice ob m c') := (hB.cell (p := ⟨g, 1, none⟩) hg).trans hc1
          clear hg' hown
          go_wp2_with (at_builtin; refine Lib.wpList_append_run _ rfl _ _ 23 23 rfl _ _ rfl rfl _ _ hr ?_)
          go_wp2
          go_roundw
          case rel => exact ⟨.inr (.inr ⟨rfl, hown'⟩), hB'⟩
          case measure => simp [intOf]
        · go_wp2
          rw [HRD.out]
          exact ⟨_, rfl, hown, hB⟩
end Go.Proofs.Ytpapmcdnaplmkaa

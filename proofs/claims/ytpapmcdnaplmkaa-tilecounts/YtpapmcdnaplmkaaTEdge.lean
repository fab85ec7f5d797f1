/-
  Edge: the tiles that aren't full, from the highest level down.
-/
import Derived.Test.YtpapmcdnaplmkaaTRev
namespace Go.Proofs.Ytpapmcdnaplmkaa
open Go.RowKit Go.Shelf
attribute [local go_sem] Oper.semAt_some

theorem edge_facts : ((List.range 65).all fun k => decide ((edgeL (lvs 4 0 k)).length ≤ 3)) = true := by decide +kernel
theorem edge_len (z : Int) : (edgeL (lvl z)).length ≤ 3 := by
  by_cases h0 : z ≤ 0
  · rw [lvl_neg h0]; simp [edgeL]
  by_cases h1 : 64 < z
  · rw [lvl_big h1]; simp [edgeL]
  obtain ⟨k, rfl⟩ : ∃ k : Nat, z = (k : Int) := ⟨z.toNat, by omega⟩
  rw [lvl_nat (by omega)]
  have := List.all_eq_true.1 edge_facts k (List.mem_range.2 (by omega))
  simpa using this
theorem edgeL_le (ps : List (Nat × Nat)) : (edgeL ps).length ≤ ps.length := by
  unfold edgeL
  rw [List.length_map]
  exact List.length_filter_le _ _
set_option maxRecDepth 100000 in
set_option maxHeartbeats 4000000 in
theorem edge_any (z : Int) (w : World) : Calls Try.prog 17 #[.int .i64 z] w (RD (edgeT z) w) := by
  have HRD := Lib.hid (show ∀ e w', RD (edgeT z) w e w' = ∃ v, e = .returned v ∧ OwnD w' w.heap.size v (edgeL (lvl z)).reverse ∧ Below w.heap.size w w' from fun _ _ => rfl)
  generalize RD (edgeT z) w = PO at *
  have hbd := fun p (hp : p ∈ lvl z) => lvl_bound (n := z) hp
  have hll := lvl_len z
  have hel := edge_len z
  obtain ⟨i0, hi, hz0, hz1, hz2⟩ := info_parts idInfo
  refine (callsIn_wide (n := 7)).1 ?_
  refine callsIn_of_wp_marks Try.func17 rfl trivial ?_ rfl
  simp only [Try.ntmps17, List.size_toArray, List.length_cons, List.length_nil, Nat.reduceAdd, Nat.reduceSub, Array.replicate_succ, Array.replicate_zero, List.push_toArray, List.append_toArray, List.nil_append, List.cons_append]
  gi_wp2_with fail
  refine ⟨trivial, ?_⟩
  refine (levels_in _ _ _).mono ?_
  rintro e w2 ⟨rfl, rfl⟩
  have bO := Boxed.new w 23 (.slice none 0 0)
  have bN := Boxed.new (w.alloc (.cells #[.slice none 0 0] 23)) 3 (.int .i64 z)
  simp only [World.size_alloc] at bN
  have hB0 : Below w.heap.size w ((w.alloc (.cells #[.slice none 0 0] 23)).alloc (.cells #[.int .i64 z] 3)) := ((Below.refl _ w).alloc (Nat.le_refl _) _).alloc (by simp) _
  gi_wp2_with fail
  have HH := levels1_hands (7 - 1) (w.heap.size + 1) (by omega) z _ (by simp) bN.cell
  generalize lvl z = LV at *
  refine range_x (by omega) (gf := 37) (lb := #[.pointer (some ⟨w.heap.size + 1, 0, none⟩)]) rfl (enters_of Try.func37 (by kernel_rfl) rfl) HH (fun _ => rfl)
    (fun pre W => (∃ v, Boxed W w.heap.size 23 v ∧ W.ownsRow w.heap.size 26 2 v (edgeL pre).length (dcells (edgeL pre)) ∧ True) ∧ Below w.heap.size w W)
    (OwnFrom.and (Own.from (holdsRow_own w.heap.size w.heap.size 23 26 2 (fun pre : List (Nat × Nat) => (edgeL pre).length) (fun pre => dcells (edgeL pre)) (fun _ _ => True)) _) (ownFrom_below (Nat.le_refl _) (by simp; omega)))
    ⟨⟨_, bO.alloc _, World.ownsRow_nil _ _ _ _, trivial⟩, hB0⟩
    (fun x => { tmps := #[.int .i64 z, undef, .slice none 0 0, .pointer (some ⟨w.heap.size, 0, none⟩), iv x.1, iv x.2, .int .i64 z, .func (.func 37) #[] #[.pointer (some ⟨w.heap.size + 1, 0, none⟩)], iv x.1, iv x.2, undef, undef, undef, undef, undef, undef, undef, undef, undef, undef, undef, undef, undef], defers := [] }) ?assign ?body ?done
  case assign =>
    intro l x W K hK
    gi_wp2
    exact hK
  case body =>
    rintro l pre x rest W hx ⟨⟨v, hv, hrow, _⟩, hB⟩
    have hc := hv.cell
    have hxb : x.1 ≤ 3 ∧ x.2 ≤ 64 ∧ 0 < x.2 := hbd x (by rw [hx]; simp)
    have hpl : (edgeL pre).length ≤ 4 := by
      have h1 := edgeL_le pre
      have h2 := congrArg List.length hx
      simp at h2
      omega
    by_cases hm : x.2 % 4 = 0
    · have HE := Lib.hid (edgeL_no pre x hm)
      have hm2 : ((x.2 : Nat) : Int) % 4 = 0 := by omega
      gi_wp2
      exact ⟨KeepsOthers.refl _, ⟨_, hv, by rw [HE.out]; exact hrow, trivial⟩, hB⟩
    · have HE := Lib.hid (edgeL_yes pre x hm)
      have hm2 : ¬ ((x.2 : Nat) : Int) % 4 = 0 := by omega
      gi_wp2_with (gi_at_builtin; refine wpListIn_append_own _ rfl _ _ 23 rfl w.heap.size 26 i0 (.agg #[.int .i64 0, .int .i64 0]) 2 16 Try.underlying23 hi hz0 hz1 hz2 rfl (by decide) _ _ _ rfl (hrow.alloc _) ⟨W.heap.size, 0, none⟩ 1 1 [iv x.1, iv (x.2 / 4)] rfl rfl (two_new _ _ _ _) (by simp [Value.oneCell']) (by unfold maxLen; omega) (by omega) (by have := hB.size; simp; omega) ?_; intro v' w1 hown' hgrow _; obtain ⟨g', cap', rfl⟩ := ownsRow_succ hown'; obtain ⟨hv1, hv2, hr2, hk2, hb2⟩ := hv.appended (by decide) hrow hB.size (Nat.le_refl _) hown' hgrow; have hc1 := hv1.cell; have hf1 := hv1.frozen)
      exact ⟨hk2, ⟨_, hv2, by rw [HE.out, List.length_append, dcells_app]; exact hr2, trivial⟩, hB.trans hb2⟩
  case done =>
    rintro D W hD ⟨⟨v, hv, hrow, _⟩, hB⟩ hK
    have hc := hv.cell
    have HRV := Lib.hid (reverse_any w.heap.size v (edgeL LV) hel W hrow)
    gi_wp2_with fail
    refine ⟨trivial, ?_⟩
    refine (callsIn_wide.2 HRV.out).mono ?_
    rintro e w4 ⟨⟨u, rfl⟩, own4, hg4⟩
    have hv4 := hv.kept hg4 (hv.not_row (by decide) hrow)
    have hc4 := hv4.cell
    have hne : some D ≠ v.ownBlock := fun e => by
      rcases hrow.2 with ⟨rfl, _⟩ | ⟨g, cap, cur, rfl, _, hk, _⟩
      · cases e
      · simp [Value.ownBlock] at e
        subst e
        rw [hK] at hk
        cases hk
    have hK4 : w4.heap[D]? = some (.deferred (some [])) := (hg4.block D (Array.getElem?_eq_some_iff.1 hK).1 hne).trans hK
    have hB4 : Below w.heap.size w w4 := hB.grown hg4 hB.size (fun k hk => (World.ownsRow.lt hrow k hk).1)
    clear HRV hc hv hK
    gi_wp2
    refine ⟨by simp, .inl ⟨_, _, rfl, run_takeDeferred hK4, ?_⟩⟩
    refine ⟨_, results_tmp rfl _ _ _, ?_⟩
    rw [HRD.out]
    exact ⟨_, rfl, ownsRow_putObj own4 _ hK4 rfl, hB4.trans (belowK_b (w := w) (Nat.le_refl _) _ D _ _ (by simp at hD; omega) hK4 rfl rfl)⟩
end Go.Proofs.Ytpapmcdnaplmkaa

/-
  climb: from a path's own place up to the root.
-/
import Derived.Test.YtedkhcjbppknpaaSBack
import Derived.Test.YtedkhcjbppknpaaSRoot
namespace Go.Proofs.Ytedkhcjbppknpaa
open Go.RowKit Go.Shelf
attribute [local go_sem] Oper.semAt_some

def clStep (p : ByteArray) (V : Nat → ByteArray) (n : ByteArray) (i : Fin 256) : ByteArray := if bitS p i.1 then nodS (V i.1) n else nodS n (V i.1)
def clL (p : ByteArray) (V : Nat → ByteArray) (x : ByteArray) (pre : List (Fin 256)) : ByteArray := pre.foldl (clStep p V) x
theorem clL_snoc (p : ByteArray) (V : Nat → ByteArray) (x : ByteArray) (pre : List (Fin 256)) (i : Fin 256) : clL p V x (pre ++ [i]) = clStep p V (clL p V x pre) i := by simp [clL]
theorem clStep_size (p : ByteArray) (V : Nat → ByteArray) (n : ByteArray) (i : Fin 256) : (clStep p V n i).size = 32 := by
  unfold clStep
  split <;> exact nodS_size _ _
theorem clL_size (p : ByteArray) (V : Nat → ByteArray) (x : ByteArray) (hx : x.size = 32) (pre : List (Fin 256)) : (clL p V x pre).size = 32 := by
  unfold clL
  induction pre generalizing x with
  | nil => exact hx
  | cons a r ih => exact ih _ (clStep_size _ _ _ _)
set_option maxRecDepth 100000 in
set_option maxHeartbeats 2000000 in
theorem climb_any (g : Nat) (p x : ByteArray) (hp : p.size = 32) (hx : x.size = 32) (V : Nat → ByteArray) (hV : ∀ i, i < 256 → (V i).size = 32) (gr cap : Nat) (w : World) (hT : Tre w g) (hg : gr < w.heap.size) (hR : ∀ i, i < 256 → w.cell? ⟨gr, i, none⟩ = some (.string (V i))) :
    Calls Try.prog 31 #[.pointer (some ⟨g, 0, none⟩), .string p, .string x, .slice (some ⟨gr, 0, none⟩) 256 cap] w fun e w' => e = .returned (.string (clL p V x (dn 256))) ∧ Below w.heap.size w w' := by
  refine (callsIn_wide (n := 5)).1 ?_
  refine callsIn_of_wp_marks Try.func31 rfl trivial ?_ rfl
  simp only [Try.ntmps31, List.size_toArray, List.length_cons, List.length_nil, Nat.reduceAdd, Nat.reduceSub, Array.replicate_succ, Array.replicate_zero, List.push_toArray, List.append_toArray, List.nil_append, List.cons_append]
  gi_wp2_with fail
  refine ⟨trivial, ?_⟩
  refine (backward_in _ _ _ ⟨_, _, _, rfl⟩).mono ?_
  rintro e w' ⟨rfl, hw'⟩
  have hz1 : (((w.alloc (.cells #[.pointer (some ⟨g, 0, none⟩)] 61)).alloc (.cells #[.string p] 9)).alloc (.cells #[.string x] 9)).heap.size = w.heap.size + 1 + 1 + 1 := by simp
  have b0 : Blk w' w.heap.size 61 #[.pointer (some ⟨g, 0, none⟩)] := by rw [← hw']; exact (((Blk.new _ _ _).alloc _).alloc _).alloc _
  have b1 : Blk w' (w.heap.size + 1) 9 #[.string p] := by rw [← hw']; exact (((Blk.new_at (by simp)).alloc _).alloc _)
  have b2 : Blk w' (w.heap.size + 1 + 1) 9 #[.string x] := by rw [← hw']; exact ((Blk.new_at (by simp)).alloc _)
  have b3 : Blk w' (w.heap.size + 1 + 1 + 1) 46 #[.slice (some ⟨gr, 0, none⟩) 256 cap] := by rw [← hw']; exact Blk.new_at (by simp)
  have hB0 : Below w.heap.size w w' := by
    rw [← hw']
    exact ((((Below.refl _ w).alloc (Nat.le_refl _) _).alloc (by simp) _).alloc (by simp; omega) _).alloc (by simp; omega) _
  have hsz : w'.heap.size = w.heap.size + 1 + 1 + 1 + 1 := by rw [← hw']; simp
  rw [hz1]
  clear hw' hz1
  gi_wp2_with fail
  have hgT := hT.lt
  refine wpIn_rangeFunc_ownF rfl (by omega) (gf := 68) (lb := #[.pointer (some ⟨w.heap.size + 1 + 1 + 1, 0, none⟩)]) rfl trivial (enters_of Try.func68 (by kernel_rfl) rfl)
    (back1_stops (5 - 1) (w.heap.size + 1 + 1 + 1) gr cap (by omega) V _ (by omega) (by omega) (b3.cell 0) (fun i hi => (hB0.cell (p := ⟨gr, i, none⟩) hg).trans (hR i hi))) keepsTwo_t (keepsTwo_b (by omega) (by omega)) (Below.refl _ _) (fun _ => rfl)
    (fun pre W => (Blk W w.heap.size 61 #[.pointer (some ⟨g, 0, none⟩)] ∧ Blk W (w.heap.size + 1) 9 #[.string p] ∧ Blk W (w.heap.size + 1 + 1) 9 #[.string (clL p V x pre)] ∧ Tre W g ∧ Blk W (w.heap.size + 1 + 1 + 1) 46 #[.slice (some ⟨gr, 0, none⟩) 256 cap]) ∧ Below w.heap.size w W)
    (fun _ _ _ => False)
    (OwnFrom.and (fun s A B row hs hg hr => ⟨hs.1.grown hg (blk_own hr (by omega)), hs.2.1.grown hg (blk_own hr (by omega)), hs.2.2.1.grown hg (blk_own hr (by omega)), Blk.grown hs.2.2.2.1 hg (blk_own hr (by omega)), hs.2.2.2.2.grown hg (blk_own hr (by omega))⟩) (ownFrom_below (Nat.le_refl _) (by omega)))
    (fun _ _ _ _ _ hs _ _ => hs)
    ⟨⟨b0, b1, b2, Blk.below hT hB0 hgT, b3⟩, hB0⟩
    (fun i => { tmps := #[.pointer (some ⟨g, 0, none⟩), .string p, .string x, .slice (some ⟨gr, 0, none⟩) 256 cap, .pointer (some ⟨w.heap.size, 0, none⟩), .pointer (some ⟨w.heap.size + 1, 0, none⟩), .pointer (some ⟨w.heap.size + 1 + 1, 0, none⟩), undef, .string ⟨#[]⟩, .int .i64 ((i.1 : Nat) : Int), .string (V i.1), .slice (some ⟨gr, 0, none⟩) 256 cap, .func (.func 68) #[] #[.pointer (some ⟨w.heap.size + 1 + 1 + 1, 0, none⟩)], .int .i64 ((i.1 : Nat) : Int), .string (V i.1), undef, undef, undef, undef, undef, undef, undef, undef, undef, undef, undef, undef, undef], defers := [] }) ?assign ?body ?done ?stop
  case assign =>
    intro l i W K hK
    gi_wp2
    exact hK
  case body =>
    rintro l pre ⟨i, hi⟩ W ⟨⟨c0, c1, c2, cT, c3⟩, hB⟩ _
    clear b0 b1 b2 b3 hB0 hR
    obtain ⟨N, hN⟩ : ∃ N, clL p V x pre = N := ⟨_, rfl⟩
    have hNs : N.size = 32 := by rw [← hN]; exact clL_size p V x hx pre
    have HST := Lib.hid (show clL p V x (pre ++ [⟨i, hi⟩]) = if bitS p i then nodS (V i) N else nodS N (V i) by rw [clL_snoc, hN]; rfl)
    rw [hN] at c2
    have hVi := hV i hi
    have HBF := Lib.hid (fun c W hc => bitf_any c i hi p hp W hc)
    have HJ1 := Lib.hid (fun W hT => tjoin_any g (V i) N (by omega) (by omega) W hT)
    have HJ2 := Lib.hid (fun W hT => tjoin_any g N (V i) (by omega) (by omega) W hT)
    have HC0 := Lib.hid c0
    have HC1 := Lib.hid c1
    have HC2 := Lib.hid c2
    have HCT := Lib.hid cT
    have HC3 := Lib.hid c3
    have HBW := Lib.hid hB
    have q1 := c1.cell 0
    have q1' : W.drew.cell? ⟨w.heap.size + 1, 0, none⟩ = _ := c1.cell 0
    have mixed : Try.prog.follows Departure.mixedOrders = true := by kernel_rfl
    rw [show (#[Value.string p] : Array Value)[0]? = some (.string p) from rfl] at q1 q1'
    clear c0 c1 c2 cT c3 hB hN hT hV
    gi_wp2_with fail
    gi_region_with_o (first
      | (refine ⟨trivial, ?_⟩; gi_at_call 45; refine (CallsIn.inRound l (callsIn_wide.2 (bitAt_any i _))).mono ?_; rintro e w2 ⟨rfl, hw2⟩; have hb2 : Below W.heap.size W w2 := (by rw [← hw2]; exact ((Below.refl _ W).drew).alloc (Nat.le_refl _) _); have hc2 : w2.cell? ⟨W.heap.size, 0, none⟩ = some (.int .i64 i) := (by rw [← hw2]; exact (Blk.new W.drew 3 #[.int .i64 i]).cell 0); have hp2 : w2.cell? ⟨w.heap.size + 1, 0, none⟩ = some (.string p) := (HC1.out.below hb2 HC1.out.lt).cell 0; clear hw2)
      | (refine ⟨trivial, ?_⟩; gi_at_call 60; refine (CallsIn.inRound l (callsIn_wide.2 (HBF.out _ _ hc2))).mono ?_; rintro e w3 ⟨rfl, q, hw3⟩; have hb3 : Below W.heap.size W w3 := (by rw [hw3]; exact below_drewN hb2 q); clear hw3))
    all_goals
      have k0 := HC0.out.below hb3 HC0.out.lt
      have k1 := HC1.out.below hb3 HC1.out.lt
      have k2 := HC2.out.below hb3 HC2.out.lt
      have kT := Blk.below HCT.out hb3 HCT.out.lt
      have k3 := HC3.out.below hb3 HC3.out.lt
      have r0 := k0.cell 0
      have r2 := k2.cell 0
      rw [show (#[Value.pointer (some ⟨g, 0, none⟩)] : Array Value)[0]? = some (.pointer (some ⟨g, 0, none⟩)) from rfl] at r0
      rw [show (#[Value.string N] : Array Value)[0]? = some (.string N) from rfl] at r2
      have HKW := Lib.hid (And.intro (And.intro k0 k1) (And.intro k2 (And.intro kT k3)))
      have HB3 := Lib.hid hb3
      have HTT := Lib.hid (tre_tab kT)
      clear k0 k1 k2 kT k3 hb2 hc2 hp2 q1 q1' HBF hb3
      obtain ⟨b, hb⟩ : ∃ b, bitS p i = b := ⟨_, rfl⟩
      rw [hb] at HST ⊢
      clear hb
      cases b
      · have HST' : Hid (clL p V x (pre ++ [⟨i, hi⟩]) = nodS N (V i)) := Lib.hid HST.out
        clear HST HJ1
        generalize nodS N (V i) = R at *
        gi_wp2_with fail
        refine ⟨trivial, ?_⟩
        refine (CallsIn.inRound l (callsIn_wide.2 (HJ2.out _ HTT.out))).mono ?_
        rintro e w4 ⟨rfl, hb4⟩
        obtain ⟨⟨k0, k1⟩, k2, kT, k3⟩ := HKW.out
        have m0 := k0.below hb4 k0.lt
        have m1 := k1.below hb4 k1.lt
        have m2 := k2.below hb4 k2.lt
        have mT := Blk.below kT hb4 kT.lt
        have m3 := k3.below hb4 k3.lt
        have hB4 := HB3.out.trans (hb4.mono HB3.out.size)
        have s1 := m2.cell 0
        have s2 := m2.frozen 0
        rw [show (#[Value.string N] : Array Value)[0]? = some (.string N) from rfl] at s1
        clear k0 k1 k2 kT k3 r0 r2 hb4
        gi_wp2
        refine ⟨(KeepsOthers.of_grownBy (only_of_below hB4 none) (fun _ _ h => by cases h)).trans (KeepsOthers.setCell _ _ _), fun a ha => ?_, ⟨⟨m0.far (by show w.heap.size ≠ w.heap.size + 1 + 1; omega) _, m1.far (by show w.heap.size + 1 ≠ w.heap.size + 1 + 1; omega) _, ?_, Blk.far mT (by show g ≠ w.heap.size + 1 + 1; omega) _, m3.far (by show w.heap.size + 1 + 1 + 1 ≠ w.heap.size + 1 + 1; omega) _⟩, ((HBW.out.trans (hB4.mono HBW.out.size))).setCell (p := ⟨w.heap.size + 1 + 1, 0, none⟩) (by show w.heap.size ≤ w.heap.size + 1 + 1; omega) _⟩⟩
        · have ha2 : a.block < W.heap.size := by rcases ha with h | h <;> rw [h]; exact HC3.out.lt; have := HBW.out.size; omega
          rw [World.cell?_setCell_other _ _ _ _ (by intro h; rw [← h] at ha; rcases ha with h1 | h1 <;> (have h2 : w.heap.size + 1 + 1 = _ := h1; omega))]
          exact hB4.cell ha2
        · rw [HST'.out]
          exact m2.set_ 0 (.string R)
      · have HST' : Hid (clL p V x (pre ++ [⟨i, hi⟩]) = nodS (V i) N) := Lib.hid HST.out
        clear HST HJ2
        generalize nodS (V i) N = R at *
        gi_wp2_with fail
        refine ⟨trivial, ?_⟩
        refine (CallsIn.inRound l (callsIn_wide.2 (HJ1.out _ HTT.out))).mono ?_
        rintro e w4 ⟨rfl, hb4⟩
        obtain ⟨⟨k0, k1⟩, k2, kT, k3⟩ := HKW.out
        have m0 := k0.below hb4 k0.lt
        have m1 := k1.below hb4 k1.lt
        have m2 := k2.below hb4 k2.lt
        have mT := Blk.below kT hb4 kT.lt
        have m3 := k3.below hb4 k3.lt
        have hB4 := HB3.out.trans (hb4.mono HB3.out.size)
        have s1 := m2.cell 0
        have s2 := m2.frozen 0
        rw [show (#[Value.string N] : Array Value)[0]? = some (.string N) from rfl] at s1
        clear k0 k1 k2 kT k3 r0 r2 hb4
        gi_wp2
        refine ⟨(KeepsOthers.of_grownBy (only_of_below hB4 none) (fun _ _ h => by cases h)).trans (KeepsOthers.setCell _ _ _), fun a ha => ?_, ⟨⟨m0.far (by show w.heap.size ≠ w.heap.size + 1 + 1; omega) _, m1.far (by show w.heap.size + 1 ≠ w.heap.size + 1 + 1; omega) _, ?_, Blk.far mT (by show g ≠ w.heap.size + 1 + 1; omega) _, m3.far (by show w.heap.size + 1 + 1 + 1 ≠ w.heap.size + 1 + 1; omega) _⟩, ((HBW.out.trans (hB4.mono HBW.out.size))).setCell (p := ⟨w.heap.size + 1 + 1, 0, none⟩) (by show w.heap.size ≤ w.heap.size + 1 + 1; omega) _⟩⟩
        · have ha2 : a.block < W.heap.size := by rcases ha with h | h <;> rw [h]; exact HC3.out.lt; have := HBW.out.size; omega
          rw [World.cell?_setCell_other _ _ _ _ (by intro h; rw [← h] at ha; rcases ha with h1 | h1 <;> (have h2 : w.heap.size + 1 + 1 = _ := h1; omega))]
          exact hB4.cell ha2
        · rw [HST'.out]
          exact m2.set_ 0 (.string R)
  case done =>
    rintro D xs W hD rfl ⟨⟨_, _, c2, _, _⟩, hB⟩ hK
    have r2 := c2.cell 0
    rw [show (#[Value.string (clL p V x (dn 256))] : Array Value)[0]? = some (.string (clL p V x (dn 256))) from rfl] at r2
    obtain ⟨R, hRR⟩ : ∃ R, clL p V x (dn 256) = R := ⟨_, rfl⟩
    rw [hRR] at r2
    have HRR := Lib.hid hRR
    clear hRR
    have hBs := hB.trans (belowK_b (w := w) (Nat.le_refl _) _ D _ (.deferred none) (by omega) hK rfl rfl)
    clear c2 hB hR b0 b1 b2 b3
    gi_wp2
    refine ⟨by simp, .inl ⟨_, _, rfl, run_takeDeferred hK, ?_⟩⟩
    exact ⟨_, results_tmp rfl _ _ _, by rw [HRR.out]; rfl, hBs⟩
  case stop =>
    rintro D c pre W _ _ h _
    exact h.elim
end Go.Proofs.Ytedkhcjbppknpaa

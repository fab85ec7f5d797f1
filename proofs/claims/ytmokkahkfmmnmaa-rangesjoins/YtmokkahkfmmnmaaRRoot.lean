/-
  The root of a range: the program's.
-/
import Derived.Test.YtmokkahkfmmnmaaRBack
import Derived.Test.YtmokkahkfmmnmaaRPut
namespace Go.Proofs.Ytmokkahkfmmnmaa
open Go.RowKit Go.Shelf
attribute [local go_sem] Oper.semAt_some

theorem rtM_snoc (l : List ByteArray) (x : ByteArray) : rtM (l ++ [x]) = l.foldr nodM x := by
  induction l with
  | nil => rfl
  | cons a r ih =>
    rw [List.foldr_cons, ← ih]
    cases r with
    | nil => rfl
    | cons b r => rfl
def foldV {m : Nat} (V : Nat → ByteArray) (x : ByteArray) (pre : List (Fin m)) : ByteArray := pre.foldl (fun r i => nodM (V i.1) r) x
theorem foldV_snoc {m : Nat} (V : Nat → ByteArray) (x : ByteArray) (pre : List (Fin m)) (i : Fin m) : foldV V x (pre ++ [i]) = nodM (V i.1) (foldV V x pre) := by simp [foldV]
theorem foldV_size {m : Nat} (V : Nat → ByteArray) (x : ByteArray) (hx : x.size ≤ 1073741824) (pre : List (Fin m)) : (foldV V x pre).size ≤ 1073741824 := by
  rcases List.eq_nil_or_concat pre with rfl | ⟨l, i, rfl⟩
  · exact hx
  · rw [List.concat_eq_append, foldV_snoc]; exact nod_le _ _
theorem foldV_all (ss : List ByteArray) (m : Nat) (h : ss.length = m + 1) : foldV (fun i => ss.getD i ByteArray.empty) (ss.getD m ByteArray.empty) (dnM m m) = rtM ss := by
  have e : ss = (ss.take m) ++ [ss.getD m ByteArray.empty] := by
    have h1 : m < ss.length := by omega
    rw [List.getD_eq_getElem?_getD, List.getElem?_eq_getElem h1]
    have h2 := List.take_succ_eq_append_getElem h1
    rw [List.take_of_length_le (by omega)] at h2
    exact h2
  have h1 : dnM m m = (List.finRange m).reverse := by unfold dnM; rw [List.take_of_length_le (by simp)]
  have h2 : (List.finRange m).map (fun i => ss.getD i.1 ByteArray.empty) = ss.take m := by
    apply List.ext_getElem
    · simp; omega
    · intro i h3 h4
      simp at h3
      have h5 : i < ss.length := by omega
      simp [h5]
  conv => rhs; rw [e]
  rw [rtM_snoc, ← h2, List.foldr_map]
  unfold foldV
  rw [h1, List.foldl_reverse]
section
attribute [-go_sem] loadVar
set_option maxRecDepth 100000 in
set_option maxHeartbeats 4000000 in
theorem root_any (s : Int) (g m c : Nat) (ss : List ByteArray) (hn : ss.length = m + 1) (hm : m ≤ 1000) (hc : m + 1 ≤ c) (hz : Sz ss) (w : World) (hR : Row w g 0 ss) :
    Calls Try.prog 16 #[.agg tabV, .agg #[.int .i64 s, .slice (some ⟨g, 0, none⟩) (m + 1) c]] w fun e w' => e = .returned (.string (rtM ss)) ∧ Below w.heap.size w w' := by
  obtain ⟨B, hB⟩ : ∃ B, w.heap.size = B := ⟨_, rfl⟩
  obtain ⟨n, hnn⟩ : ∃ n, m + 1 = n := ⟨_, rfl⟩
  rw [hnn] at hn hc ⊢
  obtain ⟨w0, hw0⟩ : ∃ w0, (w.alloc (.cells tabV 29)).alloc (.cells #[.int .i64 s, .slice (some ⟨g, 0, none⟩) n c] 33) = w0 := ⟨_, rfl⟩
  have hT : Blk w0 B 29 tabV := by rw [← hw0, ← hB]; exact (Blk.new _ _ _).alloc _
  have hK : Blk w0 (B + 1) 33 #[.int .i64 s, .slice (some ⟨g, 0, none⟩) n c] := by rw [← hw0]; exact Blk.new_at (by simp [hB])
  have hB0 : Below w.heap.size w w0 := by rw [← hw0]; exact ((Below.refl _ w).alloc (Nat.le_refl _) _).alloc (by simp) _
  have hR0 := hR.below hB0 hR.1
  have hgB : g < B := by rw [← hB]; exact hR.1
  have hs0 : w0.heap.size = B + 1 + 1 := by rw [← hw0]; simp [hB]
  have HW0 := Lib.hid hw0
  have k1 := ld_sl (hK.cell 1)
  have hx0 := txt_load (hR0.2 m (by omega))
  rw [Nat.zero_add] at hx0
  have hxs := hz.get m
  have HFA := Lib.hid (foldV_all ss m (by omega))
  generalize ss.getD m ByteArray.empty = x at *
  have hnm : (n : Int) - 1 = (m : Int) := by omega
  have hnm2 : (m : Int) < (n : Int) := by omega
  have hne : ((n : Int) == 0) = false := by rw [beq_eq_false_iff_ne]; omega
  have hsl := slice_to (some ⟨g, 0, none⟩) n c m (by omega)
  clear hw0 hR hnn
  refine (callsIn_wide (n := 7)).1 ?_
  refine callsIn_of_wp_marks Try.func16 rfl trivial ?_ rfl
  simp only [Try.ntmps16, List.size_toArray, List.length_cons, List.length_nil, Nat.reduceAdd, Nat.reduceSub, Array.replicate_succ, Array.replicate_zero, List.push_toArray, List.append_toArray, List.nil_append, List.cons_append]
  have k1' : (loadVar 22 ⟨B + 1, 1, none⟩).run Try.prog (w0.alloc (.cells #[.string x] 9)) = .ok (.slice (some ⟨g, 0, none⟩) n c) (w0.alloc (.cells #[.string x] 9)) := ld_sl ((hK.alloc _).cell 1)
  gi_wp2_with (rw [HW0.out])
  refine ⟨trivial, ?_⟩
  refine (backwardM_in _ _ _ ⟨_, _, _, rfl⟩).mono ?_
  rintro e w2 ⟨rfl, hw2⟩
  have hz1 : (w0.alloc (.cells #[.string x] 9)).heap.size = B + 1 + 1 + 1 := by simp [hs0]
  have b0 : Blk w2 B 29 tabV := by rw [← hw2]; exact (hT.alloc _).alloc _
  have b2 : Blk w2 (B + 1 + 1) 9 #[.string x] := by rw [← hw2]; exact (Blk.new_at hs0.symm).alloc _
  have b3 : Blk w2 (B + 1 + 1 + 1) 22 #[.slice (some ⟨g, 0, none⟩) m c] := by rw [← hw2]; exact Blk.new_at hz1.symm
  have hb2 : Below w0.heap.size w0 w2 := by rw [← hw2]; exact ((Below.refl _ _).alloc (Nat.le_refl _) _).alloc (by simp) _
  have hB2 := hB0.trans (hb2.mono hB0.size)
  have hs2 : w2.heap.size = B + 1 + 1 + 1 + 1 := by rw [← hw2]; simp [hs0]
  have hRc : ∀ i, i < m → w2.cell? ⟨g, i, none⟩ = some (.string (ss.getD i ByteArray.empty)) := fun i hi => by
    have := (hR0.below hb2 hR0.1).2 i (by omega)
    rwa [Nat.zero_add] at this
  rw [hz1]
  have HVZ := Lib.hid (fun i => hz.get i)
  obtain ⟨V, hV⟩ : ∃ V : Nat → ByteArray, (fun i => ss.getD i ByteArray.empty) = V := ⟨_, rfl⟩
  have hV' : ∀ i, ss.getD i ByteArray.empty = V i := fun i => by rw [← hV]
  rw [hV] at HFA
  simp only [hV'] at hRc HVZ
  clear hw2 hz1 k1 k1' hx0 hsl hR0 hT hK hV hV'
  gi_wp2_with fail
  refine wpIn_rangeFunc_ownF rfl (by omega) (gf := 49) (lb := #[.pointer (some ⟨B + 1 + 1 + 1, 0, none⟩)]) rfl trivial (enters_of Try.func49 (by kernel_rfl) rfl)
    (backM_stops (7 - 1) m (B + 1 + 1 + 1) g c (by omega) (by omega) V _ (by omega) (by omega) (b3.cell 0) hRc) keepsBoth_t (keepsBoth_b (by omega) (by omega)) (Below.refl _ _) (fun _ => rfl)
    (fun pre W => (Blk W B 29 tabV ∧ Blk W (B + 1 + 1) 9 #[.string (foldV V x pre)] ∧ Blk W (B + 1 + 1 + 1) 22 #[.slice (some ⟨g, 0, none⟩) m c]) ∧ Below w.heap.size w W)
    (fun _ _ _ => False)
    (OwnFrom.and (fun s A B' row hs hg hr => ⟨hs.1.grown hg (fun e => by have := (hr _ e.symm).1; omega), hs.2.1.grown hg (fun e => by have := (hr _ e.symm).1; omega), hs.2.2.grown hg (fun e => by have := (hr _ e.symm).1; omega)⟩) (ownFrom_below (Nat.le_refl _) (by omega)))
    (fun _ _ _ _ _ hs _ _ => hs)
    ⟨⟨b0, b2, b3⟩, hB2⟩
    (fun i => { tmps := #[.agg tabV, .agg #[.int .i64 s, .slice (some ⟨g, 0, none⟩) n c], .pointer (some ⟨B, 0, none⟩), .pointer (some ⟨B + 1, 0, none⟩), .string ⟨#[]⟩, .int .i64 (m : Int), .pointer (some ⟨B + 1 + 1, 0, none⟩), undef, .string (V i.1), .pointer (some ⟨B + 1, 1, none⟩), .slice (some ⟨g, 0, none⟩) n c, .int .i64 (n : Int), .bool false, undef, undef, .pointer (some ⟨B + 1, 1, none⟩), .slice (some ⟨g, 0, none⟩) n c, .int .i64 (n : Int), .int .i64 (m : Int), .pointer (some ⟨B + 1, 1, none⟩), .slice (some ⟨g, 0, none⟩) n c, .int .i64 (m : Int), .pointer (some ⟨g, m, none⟩), .string x, .pointer (some ⟨B + 1, 1, none⟩), .slice (some ⟨g, 0, none⟩) n c, .int .i64 (m : Int), .slice (some ⟨g, 0, none⟩) m c, .func (.func 49) #[] #[.pointer (some ⟨B + 1 + 1 + 1, 0, none⟩)], .int .i64 ((i.1 : Nat) : Int), .string (V i.1), undef, undef, undef, undef, undef], defers := [] }) ?assign ?body ?done ?stop
  case assign =>
    intro l i W K hK
    gi_wp2
    exact hK
  case body =>
    rintro l pre ⟨i, hi⟩ W ⟨⟨c0, c2, c3⟩, hBW⟩ _
    clear b0 b2 b3 hB0 hRc hb2 hB2
    have HST := Lib.hid (foldV_snoc V x pre ⟨i, hi⟩)
    have hNs := foldV_size V x hxs pre
    obtain ⟨N, hN⟩ : ∃ N, foldV V x pre = N := ⟨_, rfl⟩
    rw [hN] at c2 HST hNs
    have HJ1 := Lib.hid (fun W => rjoin_any (V i) N (HVZ.out i) hNs W)
    have q0 := tab_run c0
    have q2 := txt_load (c2.cell 0)
    have HC0 := Lib.hid c0
    have HC2 := Lib.hid c2
    have HC3 := Lib.hid c3
    have HBW := Lib.hid hBW
    dsimp only at HST
    generalize nodM (V i) N = R at *
    clear c0 c2 c3 hN
    gi_wp2_with fail
    refine ⟨trivial, ?_⟩
    refine (CallsIn.inRound l (callsIn_wide.2 (HJ1.out _))).mono ?_
    rintro e w4 ⟨rfl, hb4⟩
    have m0 := HC0.out.below hb4 HC0.out.lt
    have m2 := HC2.out.below hb4 HC2.out.lt
    have m3 := HC3.out.below hb4 HC3.out.lt
    have s1 : w4.cell? ⟨B + 1 + 1, 0, none⟩ = some (.string N) := m2.cell 0
    have s2 := m2.frozen 0
    clear q0 q2
    gi_wp2
    refine ⟨(KeepsOthers.of_grownBy (only_of_below hb4 none) (fun _ _ h => by cases h)).trans (KeepsOthers.setCell _ _ _), fun a ha => ?_, ⟨m0.far (by show B ≠ B + 1 + 1; omega) _, ?_, m3.far (by show B + 1 + 1 + 1 ≠ B + 1 + 1; omega) _⟩, (HBW.out.trans (hb4.mono HBW.out.size)).setCell (p := ⟨B + 1 + 1, 0, none⟩) (by show w.heap.size ≤ B + 1 + 1; omega) _⟩
    · have ha2 : a.block < W.heap.size := by rcases ha with h | h <;> rw [h]; exact HC3.out.lt; have := HBW.out.size; omega
      rw [World.cell?_setCell_other _ _ _ _ (by intro h; rw [← h] at ha; rcases ha with h1 | h1 <;> (have h2 : B + 1 + 1 = _ := h1; omega))]
      exact hb4.cell ha2
    · rw [HST.out]
      exact m2.set_ 0 (.string R)
  case done =>
    rintro D xs W hD rfl ⟨⟨_, c2, _⟩, hBW⟩ hK
    rw [HFA.out] at c2
    obtain ⟨R, hRR⟩ : ∃ R, rtM ss = R := ⟨_, rfl⟩
    rw [hRR] at c2
    have HRR := Lib.hid hRR
    have r2 := txt_load (c2.cell 0)
    have hBs := hBW.trans (belowK_b (w := w) (Nat.le_refl _) _ D _ (.deferred none) (by omega) hK rfl rfl)
    clear c2 hBW hRc b0 b2 b3 hRR
    gi_wp2
    refine ⟨by simp, .inl ⟨_, _, rfl, run_takeDeferred hK, ?_⟩⟩
    exact ⟨_, results_tmp rfl _ _ _, by rw [HRR.out]; rfl, hBs⟩
  case stop =>
    rintro D c pre W _ _ h _
    exact h.elim
set_option maxRecDepth 100000 in
set_option maxHeartbeats 1000000 in
/-- of none -/
theorem root_none (s : Int) (oa : Option Addr) (c : Nat) (w : World) :
    Calls Try.prog 16 #[.agg tabV, .agg #[.int .i64 s, .slice oa 0 c]] w fun e w' => e = .returned (.string (rtM [])) ∧ Below w.heap.size w w' := by
  obtain ⟨w0, hw0⟩ : ∃ w0, (w.alloc (.cells tabV 29)).alloc (.cells #[.int .i64 s, .slice oa 0 c] 33) = w0 := ⟨_, rfl⟩
  have hT : Blk w0 w.heap.size 29 tabV := by rw [← hw0]; exact (Blk.new _ _ _).alloc _
  have hK : Blk w0 (w.heap.size + 1) 33 #[.int .i64 s, .slice oa 0 c] := by rw [← hw0]; exact Blk.new_at (by simp)
  have hB0 : Below w.heap.size w w0 := by rw [← hw0]; exact ((Below.refl _ w).alloc (Nat.le_refl _) _).alloc (by simp) _
  have HM := Lib.hid (fun W => mroot_any 0 none 0 [] rfl (by decide) (by decide) (by intro x hx; cases hx) W (fun i hi => absurd hi (by simp)))
  rw [rootM_nil rfl] at HM
  have HRE := Lib.hid (show rtM [] = hB ⟨#[]⟩ from rfl)
  rw [HRE.out]
  generalize hB ⟨#[]⟩ = R at *
  have HW0 := Lib.hid hw0
  have k1 := ld_sl (hK.cell 1)
  have t1 := tab_run hT
  clear hw0 hK hT HRE
  refine (callsIn_wide (n := 7)).1 ?_
  refine callsIn_of_wp_marks Try.func16 rfl trivial ?_ rfl
  simp only [Try.ntmps16, List.size_toArray, List.length_cons, List.length_nil, Nat.reduceAdd, Nat.reduceSub, Array.replicate_succ, Array.replicate_zero, List.push_toArray, List.append_toArray, List.nil_append, List.cons_append]
  gi_wp2_with (rw [HW0.out])
  refine ⟨trivial, ?_⟩
  refine (callsIn_wide.2 (HM.out _)).mono ?_
  rintro e w1 ⟨rfl, hb1⟩
  have hB1 := hB0.trans (hb1.mono hB0.size)
  gi_wp2
  exact ⟨_, results_tmp rfl _ _ _, rfl, hB1⟩
end
end Go.Proofs.Ytmokkahkfmmnmaa

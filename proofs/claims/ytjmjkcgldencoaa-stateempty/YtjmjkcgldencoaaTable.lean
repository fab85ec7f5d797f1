/-
  sha.Make, awake: the table is the standard's.
-/
import Derived.Test.YtjmjkcgldencoaaMake
import Derived.Test.YtjmjkcgldencoaaBase
import Derived.Laws.Rows
import Derived.Laws.Tables
import Derived.Laws.CopyOwn
namespace Go.Proofs.Ytjmjkcgldencoaa
open Go.RowKit Go.Shelf
attribute [local go_sem] Oper.semAt_some

theorem wpList_build_as {P : Program} {ops : Array Oper} {rest : List Oper} {o : Oper} {a : Act} {w : World} {Q : Exit → Act → World → Prop} (hg : o.guard = none) (t : TypeId) (parts : Array (Nat × Operand)) (ho : o.op = .build t parts)
    (cs : Array Value) (hb : P.built t (parts.map fun (i, x) => (i, a.eval x)).toList = some cs)
    (h : wpList P ops Q rest (a.put o.dst (.agg cs)) w) : wpList P ops Q (o :: rest) a w :=
  wpList_build hg t parts ho (by rw [hb]; rfl) (by rw [hb]; exact h)

/-- the table's 72 numbers when the primes of pre have come -/
def kOf (x : Nat) : Nat := frC (pr x)
def hOf (x : Nat) : Nat := frS (pr x)
def U32 (n : Nat) : Value := .int .u32 (n : Int)
def step (cs : Array Value) (x : Fin 64) : Array Value :=
  if x.1 < 8 then (cs.setIfInBounds x.1 (U32 (kOf x.1))).setIfInBounds (64 + x.1) (U32 (hOf x.1)) else cs.setIfInBounds x.1 (U32 (kOf x.1))
def zero72 : Array Value := Array.replicate 72 (U32 0)
def tab (pre : List (Fin 64)) : Array Value := pre.foldl step zero72
theorem tab_snoc (pre : List (Fin 64)) (x : Fin 64) : tab (pre ++ [x]) = step (tab pre) x := by simp [tab]
theorem tab_size (pre : List (Fin 64)) : (tab pre).size = 72 := by
  have : ∀ (l : List (Fin 64)) (c : Array Value), c.size = 72 → (l.foldl step c).size = 72 := by
    intro l
    induction l with
    | nil => intro c h; exact h
    | cons x r ih => intro c h; exact ih _ (by unfold step; split <;> simp [h])
  exact this pre _ (by simp [zero72])

set_option maxHeartbeats 400000 in
theorem primes_in (n : Nat) (w : World) : CallsIn Fence.wide n Try.prog 12 #[.int .i64 64] w fun e w' =>
    e = .returned (.func (.func 23) #[] #[.pointer (some ⟨w.heap.size, 0, none⟩)]) ∧ w.alloc (.cells #[.int .i64 64] 3) = w' := by
  refine callsIn_wide.2 ?_
  go_enter Try.func12, Try.ntmps12
  go_wp2
  go_ret
  exact ⟨rfl, rfl⟩

theorem keepsCell_t {b : Nat} {A B C : World} (h : keepsCell b A B) (k : keepsCell b B C) : keepsCell b A C := Eq.trans (b := B.cell? ⟨b, 0, none⟩) k h
theorem keepsCell_b {b : Nat} {w : World} (hn : b < w.heap.size) (W : World) (l : Nat) (o o' : Obj) (hl : w.heap.size ≤ l) (_ : W.heap[l]? = some o) (_ : o.isCells = false) (_ : o.isWalk = false) : keepsCell b W (W.putObj l o') :=
  World.cell?_of_block (w := W) (World.putObj_heap_other (by show b ≠ l; omega))
theorem blk_own {row : Option Nat} {B g : Nat} {A : World} (hr : ∀ r, row = some r → B ≤ r ∧ ∃ o : Obj, A.heap[r]? = some o ∧ o.isCells = false) (hg : g < B) : some g ≠ row := by
  rintro rfl
  have := (hr g rfl).1
  omega

section
variable {F : Fence} {n : Nat} {P : Program}
theorem wpListIn_load_row {ops : Array Oper} {rest : List Oper} {o : Oper} {a : Act} {w : World} {Q : Exit → Act → World → Prop} (hgd : o.guard = none) (ty : TypeId) (x : Operand) (ho : o.op = .load ty x)
    (g : Nat) (hx : a.eval x = .pointer (some ⟨g, 0, none⟩)) (t : TypeId) (cs : Array Value) (fr : Nat × Nat) (d : TypeDesc) (hg : w.heap[g]? = some (.cells cs t fr))
    (hu : P.underlying ty = some d) (hd : (match d with | .struct _ | .array _ _ => true | _ => false) = true) (hi : (P.info? ty).map (·.size) = some cs.size)
    (h : wpListIn F n P ops Q rest (a.put o.dst (.agg cs)) w) : wpListIn F n P ops Q (o :: rest) a w := by
  refine wpListIn_plain hgd fun K hK => ?_
  unfold Oper.wpIn
  refine ⟨?_, ?_⟩
  · simp [Oper.about, ho]
  · rw [Oper.semAt_plain F _ _ (by rw [ho]; intro c hc'; cases hc')]
    unfold execOp
    simp only [ho, hx, Instr.loadAt, Instr.sureAddr, Sem.run_bind, Sem.run_pure, Result.andThen_ok, run_loadVar_row w g t ty cs fr d hg hu hd hi]
    exact hK _ _ h
theorem wpListIn_store_row {ops : Array Oper} {rest : List Oper} {o : Oper} {a : Act} {w : World} {Q : Exit → Act → World → Prop} (hgd : o.guard = none) (ty : TypeId) (x y : Operand) (ho : o.op = .store ty x y)
    (g : Nat) (cells : Array Value) (hx : a.eval x = .pointer (some ⟨g, 0, none⟩)) (hy : a.eval y = .agg cells)
    (t : TypeId) (old : Array Value) (hg : w.heap[g]? = some (.cells old t (0, 0))) (hi : (P.info? ty).map (·.size) = some cells.size)
    (hold : old.size = cells.size) (h1 : cells.all (·.oneCell') = true)
    (h : wpListIn F n P ops Q rest (a.put o.dst undef) (w.setRow g cells)) : wpListIn F n P ops Q (o :: rest) a w := by
  refine wpListIn_plain hgd fun K hK => ?_
  unfold Oper.wpIn
  refine ⟨?_, ?_⟩
  · simp [Oper.about, ho]
  · rw [Oper.semAt_plain F _ _ (by rw [ho]; intro c hc'; cases hc')]
    unfold execOp
    simp only [ho, hx, hy, Instr.storeAt, Instr.sureAddr, Sem.run_bind, Sem.run_pure, Result.andThen_ok, run_storeVar_row w g t ty old cells hg hi hold h1]
    exact hK _ _ h
end
theorem step_one (cs : Array Value) (x : Fin 64) (h : cs.all (·.oneCell') = true) : (step cs x).all (·.oneCell') = true := by
  rw [Array.all_eq_true_iff_forall_mem] at h ⊢
  have hs : ∀ (c : Array Value) (i : Nat) (k : Nat), (∀ v ∈ c, v.oneCell' = true) → ∀ v ∈ c.setIfInBounds i (U32 k), v.oneCell' = true := by
    intro c i k hc v hv
    rcases Array.mem_or_eq_of_mem_setIfInBounds hv with h' | h'
    · exact hc v h'
    · subst h'; rfl
  intro v hv
  unfold step at hv
  split at hv
  · exact hs _ _ _ (hs _ _ _ h) v hv
  · exact hs _ _ _ h v hv
theorem tab_one (pre : List (Fin 64)) : (tab pre).all (·.oneCell') = true := by
  have : ∀ (l : List (Fin 64)) (c : Array Value), c.all (·.oneCell') = true → (l.foldl step c).all (·.oneCell') = true := by
    intro l
    induction l with
    | nil => intro c h; exact h
    | cons x r ih => intro c h; exact ih _ (step_one c x h)
  exact this pre _ (by unfold zero72; rw [Array.all_eq_true_iff_forall_mem]; intro v hv; rw [(Array.mem_replicate.1 hv).2]; rfl)
theorem pr_le' (x : Fin 64) : pr x.1 ≤ 1000 := by
  have := List.all_eq_true.1 pr_le x.1 (List.mem_range.2 x.2)
  simpa using this

theorem infoTable : (Try.prog.info? 26).map (·.size) = some 72 := by kernel_rfl
theorem zeroTable (w : World) : (zeroValue 26).run Try.prog w = .ok (.agg zero72) w := by kernel_rfl

set_option maxRecDepth 100000 in
set_option maxHeartbeats 2000000 in
theorem make_any (w : World) : Calls Try.prog 5 #[] w fun e w' => e = .returned (.agg (tab (upto 64))) ∧ Below w.heap.size w w' := by
  have hz := zeroTable
  refine (callsIn_wide (n := 5)).1 ?_
  refine callsIn_of_wp_marks Try.func5 rfl trivial ?_ rfl
  simp only [Try.ntmps5, List.size_toArray, List.length_nil, Nat.reduceSub, Array.replicate_succ, Array.replicate_zero, List.push_toArray, List.append_toArray, List.nil_append, List.cons_append]
  gi_wp2_with fail
  refine ⟨trivial, ?_⟩
  refine (primes_in _ _).mono ?_
  rintro e w' ⟨rfl, rfl⟩
  gi_wp2_with fail
  have b0 : Blk (w.alloc (.cells zero72 26)) w.heap.size 26 zero72 := Blk.new _ _ _
  have b1 : Blk ((w.alloc (.cells zero72 26)).alloc (.cells zero72 26)) (w.heap.size + 1) 26 zero72 := by
    have := Blk.new (w.alloc (.cells zero72 26)) 26 zero72
    rwa [World.size_alloc] at this
  have b2 : Blk (((w.alloc (.cells zero72 26)).alloc (.cells zero72 26)).alloc (.cells #[.int .i64 64] 3)) (w.heap.size + 1 + 1) 3 #[.int .i64 64] := by
    have := Blk.new ((w.alloc (.cells zero72 26)).alloc (.cells zero72 26)) 3 #[.int .i64 64]
    rwa [World.size_alloc, World.size_alloc] at this
  have hB0 : Below w.heap.size w (((w.alloc (.cells zero72 26)).alloc (.cells zero72 26)).alloc (.cells #[.int .i64 64] 3)) :=
    (((Below.refl _ w).alloc (Nat.le_refl _) _).alloc (by simp) _).alloc (by simp; omega) _
  have hsz : (((w.alloc (.cells zero72 26)).alloc (.cells zero72 26)).alloc (.cells #[.int .i64 64] 3)).heap.size = w.heap.size + 1 + 1 + 1 := by simp
  refine wpIn_rangeFunc_ownF rfl (by omega) (gf := 23) (lb := #[.pointer (some ⟨w.heap.size + 1 + 1, 0, none⟩)]) rfl trivial (enters_of Try.func23 (by kernel_rfl) rfl)
    (primes1_stops (5 - 1) (w.heap.size + 1 + 1) (by omega) _ (by rw [hsz]; omega) (b2.cell 0)) keepsCell_t (keepsCell_b (by rw [hsz]; omega)) (Below.refl _ _) (fun _ => rfl)
    (fun pre W => (Blk W w.heap.size 26 zero72 ∧ Blk W (w.heap.size + 1) 26 (tab pre)) ∧ Below w.heap.size w W)
    (fun _ _ _ => False)
    (OwnFrom.and (fun s A B row hs hg hr => ⟨hs.1.grown hg (blk_own hr (by rw [hsz]; omega)), hs.2.grown hg (blk_own hr (by rw [hsz]; omega))⟩) (ownFrom_below (Nat.le_refl _) (by rw [hsz]; omega)))
    (fun _ _ _ _ _ hs _ _ => hs)
    ⟨⟨(b0.alloc _).alloc _, b1.alloc _⟩, hB0⟩
    (fun x => { tmps := #[.pointer (some ⟨w.heap.size, 0, none⟩), .pointer (some ⟨w.heap.size + 1, 0, none⟩), .int .i64 ((x.1 : Nat) : Int), .int .u64 ((pr x.1 : Nat) : Int), .func (.func 23) #[] #[.pointer (some ⟨w.heap.size + 1 + 1, 0, none⟩)], .int .i64 ((x.1 : Nat) : Int), .int .u64 ((pr x.1 : Nat) : Int), undef, undef, undef, undef, undef, undef, undef, undef, undef, undef, undef, undef, undef], defers := [] }) ?assign ?body ?done ?stop
  case assign =>
    intro l x W K hK
    gi_wp2
    exact hK
  case body =>
    rintro l pre x W ⟨⟨c0, c1⟩, hB⟩ _
    obtain ⟨x, hx⟩ := x
    have hp := pr_le' ⟨x, hx⟩
    have hx' : (x : Int) < 64 := by omega
    have hts := tab_size pre
    have q1 := c1.cell x
    have q2 := c1.frozen x
    rw [Array.getElem?_eq_getElem (by omega)] at q1
    generalize (tab pre)[x]'(by omega) = ov at q1
    by_cases h8 : x < 8
    · have h8' : (x : Int) < 8 := by omega
      have c2 := c1.set_ x (.int .u32 ((frC (pr x) : Nat) : Int))
      have q3 := c2.cell (64 + x)
      have q4 := c2.frozen (64 + x)
      rw [Array.getElem?_eq_getElem (by simp; omega)] at q3
      generalize ((tab pre).setIfInBounds x (.int .u32 ((frC (pr x) : Nat) : Int)))[64 + x]'(by simp; omega) = ov2 at q3
      have HT := Lib.hid hts
      clear hts
      gi_wp2_with fail
      refine ⟨trivial, ?_⟩
      refine (CallsIn.inRound l (callsIn_wide.2 (frac_cube (pr x) hp _))).mono ?_
      rintro e w' ⟨rfl, rfl⟩
      gi_wp2_with fail
      refine ⟨trivial, ?_⟩
      refine (CallsIn.inRound l (callsIn_wide.2 (frac_square (pr x) hp _))).mono ?_
      rintro e w' ⟨rfl, rfl⟩
      gi_wp2
      refine ⟨(KeepsOthers.setCell _ _ _).trans (KeepsOthers.setCell _ _ _), ?_, ⟨⟨(c0.far (by simp) _).far (by simp) _, ?_⟩, (hB.setCell (p := ⟨w.heap.size + 1, _, none⟩) (by simp) _).setCell (p := ⟨w.heap.size + 1, _, none⟩) (by simp) _⟩⟩
      · unfold keepsCell
        rw [World.cell?_setCell_other _ _ _ _ (by intro h; injection h with h; omega), World.cell?_setCell_other _ _ _ _ (by intro h; injection h with h; omega)]
      · rw [tab_snoc]
        unfold step
        rw [if_pos h8]
        exact c2.set_ (64 + x) _
    · have h8' : ¬ (x : Int) < 8 := by omega
      have HT := Lib.hid hts
      clear hts
      gi_wp2_with fail
      refine ⟨trivial, ?_⟩
      refine (CallsIn.inRound l (callsIn_wide.2 (frac_cube (pr x) hp _))).mono ?_
      rintro e w' ⟨rfl, rfl⟩
      gi_wp2
      refine ⟨KeepsOthers.setCell _ _ _, ?_, ⟨⟨c0.far (by simp) _, ?_⟩, hB.setCell (p := ⟨w.heap.size + 1, _, none⟩) (by simp) _⟩⟩
      · unfold keepsCell
        rw [World.cell?_setCell_other _ _ _ _ (by intro h; injection h with h; omega)]
      · rw [tab_snoc]
        unfold step
        rw [if_neg h8]
        exact c1.set_ x _
  case done =>
    rintro D xs W hD rfl ⟨⟨c0, c1⟩, hB⟩ hK
    obtain ⟨T, hT⟩ : ∃ T, tab (upto 64) = T := ⟨_, rfl⟩
    have hs : (Try.prog.info? 26).map (·.size) = some T.size := by rw [← hT, tab_size]; exact infoTable
    have ho : zero72.size = T.size := by rw [← hT, tab_size]; rfl
    have h1 : T.all (·.oneCell') = true := by rw [← hT]; exact tab_one _
    rw [hT] at c1
    have HT := Lib.hid hT
    have Hs := Lib.hid hs
    have Ho := Lib.hid ho
    have H1 := Lib.hid h1
    clear hT hs ho h1
    gi_wp2_with (first
      | (refine wpListIn_load_row rfl 26 _ rfl (w.heap.size + 1) rfl 26 T (0, 0) _ c1 Try.underlying26 rfl Hs.out ?_)
      | (refine wpListIn_store_row rfl 26 _ _ rfl w.heap.size T rfl rfl 26 zero72 c0 Hs.out Ho.out H1.out ?_))
    have hDn : w.heap.size ≠ D := by rw [hsz] at hD; omega
    have hK' : (W.setRow w.heap.size T).heap[D]? = some (.deferred (some [])) := (setRow_other W w.heap.size D T (Ne.symm hDn)).trans hK
    have hg' : ((W.setRow w.heap.size T).putObj D (.deferred none)).heap[w.heap.size]? = some (.cells T 26 (0, 0)) :=
      (World.putObj_heap_other hDn).trans (setRow_heap W w.heap.size zero72 T 26 (0, 0) c0)
    have hBs := (below_setRow hB (Nat.le_refl _) T).trans (belowK_b (w := w) (Nat.le_refl _) _ D _ (.deferred none) (by rw [hsz] at hD; omega) hK' rfl rfl)
    refine ⟨by simp, .inl ⟨_, _, rfl, run_takeDeferred hK', ?_⟩⟩
    exact ⟨.agg T, results_cell_row rfl _ _ w.heap.size 26 T (0, 0) _ rfl hg' Try.underlying26 rfl Hs.out, by rw [HT.out], hBs⟩
  case stop =>
    rintro D c pre W _ _ h _
    exact h.elim
end Go.Proofs.Ytjmjkcgldencoaa

/-
  sha.Make: the iterator over primes, and the table. sha.Make, awake: the table is the standard's. The table that sha.Make answers is the standard's, number by number. The sixty-four words of a block, in numbers.
-/
import Derived.Test.YtakgolbgeeoioaaGreatPrimBitsFrac
import Derived.RangeFuncNested
import Derived.RangeFuncBound
import Derived.RangeFuncCalls
import Derived.RangeFuncLeaves
import Derived.Shelf.RegionOpen
import Derived.OwnWalkIn
import Derived.TacticsInMore
import Derived.LoopNIn
import Derived.LoopIn
import Derived.Test.YtakgolbgeeoioaaGreatBase
import Derived.Laws.Rows
import Derived.Laws.Tables
import Derived.Laws.CopyOwn
namespace Go.Proofs.YtakgolbgeeoioaaGreat
open Go.RowKit Go.Shelf
attribute [local go_sem] Oper.semAt_some

/-- how many primes lie below m -/
def pc (m : Nat) : Nat := (List.range m).countP fun j => decide (2 ≤ j) && isP j
theorem pc_yes {m : Nat} (h2 : 2 ≤ m) (h : isP m = true) : pc (m + 1) = pc m + 1 := by
 unfold pc
 rw [List.range_succ, List.countP_append]
 simp [h2, h]
theorem pc_no {m : Nat} (h : isP m = false) : pc (m + 1) = pc m := by
 unfold pc
 rw [List.range_succ, List.countP_append]
 simp [h]
/-- the first primes -/
def prs : List Nat := (List.range 312).filter fun j => decide (2 ≤ j) && isP j
def pr (i : Nat) : Nat := prs.getD i 0
theorem pr_facts : ((List.range 313).all fun m => decide (m < 2) || (decide (64 ≤ pc m) || (decide (m ≤ 311) && (!isP m || decide (pr (pc m) = m))))) = true := by decide +kernel
theorem pr_of {m : Nat} (h2 : 2 ≤ m) (hm : m ≤ 312) (h : pc m < 64) : m ≤ 311 ∧ (isP m = true → pr (pc m) = m) := by
 have := List.all_eq_true.1 pr_facts m (List.mem_range.2 (by omega))
 simp only [Bool.or_eq_true, decide_eq_true_eq, Bool.and_eq_true, Bool.not_eq_true'] at this
 rcases this with h' | h' | ⟨h', h''⟩
 · omega
 · omega
 · refine ⟨h', fun hp => ?_⟩
   rcases h'' with h'' | h''
   · rw [hp] at h''; cases h''
   · exact h''
theorem pr_le : ((List.range 64).all fun i => decide (pr i ≤ 1000)) = true := by decide +kernel
theorem pc_le : ((List.range 313).all fun m => decide (pc m ≤ 64)) = true := by decide +kernel

abbrev encs (x : Fin 64) : Array Value := #[.int .i64 ((x.1 : Nat) : Int), .int .u64 ((pr x.1 : Nat) : Int)]

/-- the first k of all sixty-four -/
def upto (k : Nat) : List (Fin 64) := (List.finRange 64).take k
theorem upto_succ (k : Nat) (h : k < 64) : upto (k + 1) = upto k ++ [⟨k, h⟩] := by
 unfold upto
 rw [List.take_succ_eq_append_getElem (by simpa using h)]
 simp

def keepsCell (b : Nat) (W W' : World) : Prop := W'.cell? ⟨b, 0, none⟩ = W.cell? ⟨b, 0, none⟩

set_option maxRecDepth 100000 in
set_option maxHeartbeats 1000000 in
theorem primes1_in (n l Bn : Nat) (hn : 1 ≤ n) (J Jx : List (Fin 64) → World → Prop)
 (hY : ∀ pre x W, J pre W → pre.length < 64 → YieldAt Fence.wide (n - 1) Tryz.prog l (encs x) W fun e W' =>
  (e = .returned (.bool true) ∧ J (pre ++ [x]) W' ∧ keepsCell Bn W W') ∨ (e = .returned (.bool false) ∧ Jx (pre ++ [x]) W'))
 (W : World) (hB : W.cell? ⟨Bn, 0, none⟩ = some (.int .i64 64)) (h0 : J [] W) :
 CallsIn Fence.wide n Tryz.prog 42 #[.func (.yield l) #[] #[], .pointer (some ⟨Bn, 0, none⟩)] W fun e W' => (∃ v, e = .returned v) ∧
  ((∃ ys, ys = upto 64 ∧ J ys W') ∨ (∃ pre, True ∧ Jx pre W')) := by
 refine callsIn_of_wp Tryz.func42 rfl trivial ?_ rfl
 simp only [Tryz.ntmps42, List.size_toArray, List.length_cons, List.length_nil, Nat.reduceAdd, Nat.reduceSub, Array.replicate_succ, Array.replicate_zero, List.push_toArray, List.append_toArray, List.nil_append, List.cons_append]
 have HY := Lib.hid hY
 clear hY
 gi_wp2
 gi_loopw [3, 4] (fun f m wr => ∃ k : Nat, 2 ≤ k ∧ k ≤ 312 ∧ f = .int .i64 ((pc k : Nat) : Int) ∧ m = .int .u64 (k : Int) ∧ wr.cell? ⟨Bn, 0, none⟩ = some (.int .i64 64) ∧ J (upto (pc k)) wr)
  (fun _ m _ => 313 - (intOf m).toNat)
 case atStart =>
  exact ⟨2, by omega, by omega, by rfl, rfl, hB, h0⟩
 case round =>
  obtain ⟨k, h2, hk, rfl, rfl, hBr, hJs⟩ := hrel
  by_cases hlt : pc k < 64
  · obtain ⟨h311, hpk⟩ := pr_of h2 hk hlt
    obtain ⟨b, hb⟩ : ∃ b, isP k = b := ⟨_, rfl⟩
    have HB := Lib.hid hb
    have HP := Lib.hid hpk
    clear hb hpk
    have hlt' : (pc k : Int) < 64 := by omega
    cases b
    · have HN := Lib.hid (pc_no HB.out)
      gi_wp2_with fail
      refine ⟨trivial, ?_⟩
      refine (callsIn_wide.2 (isPrime_any k (by omega) _)).mono ?_
      rintro e w' ⟨rfl, rfl⟩
      rw [HB.out]
      gi_wp2
      go_roundw
      case rel => exact ⟨k + 1, by omega, by omega, by rw [HN.out], by go_num, hBr, by rw [HN.out]; exact hJs⟩
      case measure => simp [intOf]; omega
    · obtain ⟨fn, tmps, assign, body, hy, hR⟩ := HY.out (upto (pc k)) ⟨pc k, hlt⟩ wr hJs (by simp [upto]; omega)
      dsimp only [encs] at hy
      rw [HP.out HB.out] at hy
      have HN := Lib.hid (pc_yes h2 HB.out)
      have HU := Lib.hid (upto_succ (pc k) hlt)
      gi_wp2_with fail
      refine ⟨trivial, ?_⟩
      refine (callsIn_wide.2 (isPrime_any k (by omega) _)).mono ?_
      rintro e w' ⟨rfl, rfl⟩
      rw [HB.out]
      gi_wp2
      refine hR.mono ?_
      rintro e W3 (⟨rfl, hJ3, hk3⟩ | ⟨rfl, hJx3⟩)
      · have hc3 : W3.cell? ⟨Bn, 0, none⟩ = some (.int .i64 64) := by rw [hk3]; exact hBr
        have HK := Lib.hid hk3
        clear hk3
        gi_wp2
        go_roundw
        case rel => exact ⟨k + 1, by omega, by omega, by rw [HN.out]; go_num, by go_num, hc3, by rw [HN.out, HU.out]; exact hJ3⟩
        case measure => simp [intOf]; omega
      · gi_wp2
        refine bodyPost_ret (results_none rfl _ _ _) rfl ?_
        exact ⟨⟨_, rfl⟩, .inr ⟨_, trivial, hJx3⟩⟩
  · have h64 : pc k ≤ 64 := by
     have := List.all_eq_true.1 pc_le k (List.mem_range.2 (by omega))
     simpa using this
    have he : pc k = 64 := by omega
    rw [he] at hJs ⊢
    have hlt' : ¬ ((64 : Nat) : Int) < 64 := by omega
    clear hlt h64 he
    gi_wp2
    go_end0
    first | exact ⟨⟨_, rfl⟩, .inl hJs⟩ | exact ⟨⟨_, rfl⟩, .inl ⟨_, rfl, hJs⟩⟩

theorem primes1_stops (n Bn : Nat) (hn : 1 ≤ n) (w : World) (hBn : Bn < w.heap.size) (hB : w.cell? ⟨Bn, 0, none⟩ = some (.int .i64 64)) :
 SeqStopsK Fence.wide n Tryz.prog 42 #[.pointer (some ⟨Bn, 0, none⟩)] encs (keepsCell Bn) (fun xs => xs = upto 64) (fun _ => True) 64 w := fun l J Jx W hW _ _ hY h0 =>
 primes1_in n l Bn hn J Jx hY W ((hW.cell (p := ⟨Bn, 0, none⟩) hBn).trans hB) h0
end Go.Proofs.YtakgolbgeeoioaaGreat
namespace Go.Proofs.YtakgolbgeeoioaaGreat
open Go.RowKit Go.Shelf
attribute [local go_sem] Oper.semAt_some

theorem wpList_build_as {P : Program} {ops : Array Oper} {rest : List Oper} {o : Oper} {a : Act} {w : World} {Q : Exit → Act → World → Prop} (hg : o.guard = none) (t : TypeId) (parts : Array (Nat × Operand)) (ho : o.op = .build t parts)
 (cs : Array Value) (hb : P.built t (parts.map fun (i, x) => (i, a.eval x)).toList = some cs)
 (h : wpList P ops Q rest (a.put o.dst (.agg cs)) w) : wpList P ops Q (o :: rest) a w :=
 wpList_build hg t parts ho (by rw [hb]; rfl) (by rw [hb]; exact h)

/-- the table's 72 numbers when the primes of pre have come -/
def kOf (x : Nat) : Nat := frC (pr x)
def hOf (x : Nat) : Nat := frS (pr x)
def U32 (n : Nat) : Value := .int .u32 (n : Int)
def step (cs : Array Value) (x : Fin 64) : Array Value :=
 if x.1 < 8 then (cs.setIfInBounds x.1 (U32 (kOf x.1))).setIfInBounds (64 + x.1) (U32 (hOf x.1)) else cs.setIfInBounds x.1 (U32 (kOf x.1))
def zero72 : Array Value := Array.replicate 72 (U32 0)
def tab (pre : List (Fin 64)) : Array Value := pre.foldl step zero72
theorem tab_snoc (pre : List (Fin 64)) (x : Fin 64) : tab (pre ++ [x]) = step (tab pre) x := by simp [tab]
theorem tab_size (pre : List (Fin 64)) : (tab pre).size = 72 := by
 have : ∀ (l : List (Fin 64)) (c : Array Value), c.size = 72 → (l.foldl step c).size = 72 := by
  intro l
  induction l with
  | nil => intro c h; exact h
  | cons x r ih => intro c h; exact ih _ (by unfold step; split <;> simp [h])
 exact this pre _ (by simp [zero72])

set_option maxHeartbeats 400000 in
theorem primes_in (n : Nat) (w : World) : CallsIn Fence.wide n Tryz.prog 16 #[.int .i64 64] w fun e w' =>
 e = .returned (.func (.func 42) #[] #[.pointer (some ⟨w.heap.size, 0, none⟩)]) ∧ w.alloc (.cells #[.int .i64 64] 3) = w' := by
 refine callsIn_wide.2 ?_
 go_enter Tryz.func16, Tryz.ntmps16
 go_wp2
 go_ret
 exact ⟨rfl, rfl⟩

theorem keepsCell_t {b : Nat} {A B C : World} (h : keepsCell b A B) (k : keepsCell b B C) : keepsCell b A C := Eq.trans (b := B.cell? ⟨b, 0, none⟩) k h
theorem keepsCell_b {b : Nat} {w : World} (hn : b < w.heap.size) (W : World) (l : Nat) (o o' : Obj) (hl : w.heap.size ≤ l) (_ : W.heap[l]? = some o) (_ : o.isCells = false) (_ : o.isWalk = false) : keepsCell b W (W.putObj l o') :=
 World.cell?_of_block (w := W) (World.putObj_heap_other (by show b ≠ l; omega))
theorem blk_own {row : Option Nat} {B g : Nat} {A : World} (hr : ∀ r, row = some r → B ≤ r ∧ ∃ o : Obj, A.heap[r]? = some o ∧ o.isCells = false) (hg : g < B) : some g ≠ row := by
 rintro rfl
 have := (hr g rfl).1
 omega

section
variable {F : Fence} {n : Nat} {P : Program}
theorem wpListIn_load_row {ops : Array Oper} {rest : List Oper} {o : Oper} {a : Act} {w : World} {Q : Exit → Act → World → Prop} (hgd : o.guard = none) (ty : TypeId) (x : Operand) (ho : o.op = .load ty x)
 (g : Nat) (hx : a.eval x = .pointer (some ⟨g, 0, none⟩)) (t : TypeId) (cs : Array Value) (fr : Nat × Nat) (d : TypeDesc) (hg : w.heap[g]? = some (.cells cs t fr))
 (hu : P.underlying ty = some d) (hd : (match d with | .struct _ | .array _ _ => true | _ => false) = true) (hi : (P.info? ty).map (·.size) = some cs.size)
 (h : wpListIn F n P ops Q rest (a.put o.dst (.agg cs)) w) : wpListIn F n P ops Q (o :: rest) a w := by
 refine wpListIn_plain hgd fun K hK => ?_
 unfold Oper.wpIn
 refine ⟨?_, ?_⟩
 · simp [Oper.about, ho]
 · rw [Oper.semAt_plain F _ _ (by rw [ho]; intro c hc'; cases hc')]
   unfold execOp
   simp only [ho, hx, Instr.loadAt, Instr.sureAddr, Sem.run_bind, Sem.run_pure, Result.andThen_ok, run_loadVar_row w g t ty cs fr d hg hu hd hi]
   exact hK _ _ h
theorem wpListIn_store_row {ops : Array Oper} {rest : List Oper} {o : Oper} {a : Act} {w : World} {Q : Exit → Act → World → Prop} (hgd : o.guard = none) (ty : TypeId) (x y : Operand) (ho : o.op = .store ty x y)
 (g : Nat) (cells : Array Value) (hx : a.eval x = .pointer (some ⟨g, 0, none⟩)) (hy : a.eval y = .agg cells)
 (t : TypeId) (old : Array Value) (hg : w.heap[g]? = some (.cells old t (0, 0))) (hi : (P.info? ty).map (·.size) = some cells.size)
 (hold : old.size = cells.size) (h1 : cells.all (·.oneCell') = true)
 (h : wpListIn F n P ops Q rest (a.put o.dst undef) (w.setRow g cells)) : wpListIn F n P ops Q (o :: rest) a w := by
 refine wpListIn_plain hgd fun K hK => ?_
 unfold Oper.wpIn
 refine ⟨?_, ?_⟩
 · simp [Oper.about, ho]
 · rw [Oper.semAt_plain F _ _ (by rw [ho]; intro c hc'; cases hc')]
   unfold execOp
   simp only [ho, hx, hy, Instr.storeAt, Instr.sureAddr, Sem.run_bind, Sem.run_pure, Result.andThen_ok, run_storeVar_row w g t ty old cells hg hi hold h1]
   exact hK _ _ h
end
theorem step_one (cs : Array Value) (x : Fin 64) (h : cs.all (·.oneCell') = true) : (step cs x).all (·.oneCell') = true := by
 rw [Array.all_eq_true_iff_forall_mem] at h ⊢
 have hs : ∀ (c : Array Value) (i : Nat) (k : Nat), (∀ v ∈ c, v.oneCell' = true) → ∀ v ∈ c.setIfInBounds i (U32 k), v.oneCell' = true := by
  intro c i k hc v hv
  rcases Array.mem_or_eq_of_mem_setIfInBounds hv with h' | h'
  · exact hc v h'
  · subst h'; rfl
 intro v hv
 unfold step at hv
 split at hv
 · exact hs _ _ _ (hs _ _ _ h) v hv
 · exact hs _ _ _ h v hv
theorem tab_one (pre : List (Fin 64)) : (tab pre).all (·.oneCell') = true := by
 have : ∀ (l : List (Fin 64)) (c : Array Value), c.all (·.oneCell') = true → (l.foldl step c).all (·.oneCell') = true := by
  intro l
  induction l with
  | nil => intro c h; exact h
  | cons x r ih => intro c h; exact ih _ (step_one c x h)
 exact this pre _ (by unfold zero72; rw [Array.all_eq_true_iff_forall_mem]; intro v hv; rw [(Array.mem_replicate.1 hv).2]; rfl)
theorem pr_le' (x : Fin 64) : pr x.1 ≤ 1000 := by
 have := List.all_eq_true.1 pr_le x.1 (List.mem_range.2 x.2)
 simpa using this

theorem infoTable : (Tryz.prog.info? 29).map (·.size) = some 72 := by kernel_rfl
theorem zeroTable (w : World) : (zeroValue 29).run Tryz.prog w = .ok (.agg zero72) w := by kernel_rfl

set_option maxRecDepth 100000 in
set_option maxHeartbeats 2000000 in
theorem make_any (w : World) : Calls Tryz.prog 9 #[] w fun e w' => e = .returned (.agg (tab (upto 64))) ∧ Below w.heap.size w w' := by
 have hz := zeroTable
 refine (callsIn_wide (n := 5)).1 ?_
 refine callsIn_of_wp_marks Tryz.func9 rfl trivial ?_ rfl
 simp only [Tryz.ntmps9, List.size_toArray, List.length_nil, Nat.reduceSub, Array.replicate_succ, Array.replicate_zero, List.push_toArray, List.append_toArray, List.nil_append, List.cons_append]
 gi_wp2_with fail
 refine ⟨trivial, ?_⟩
 refine (primes_in _ _).mono ?_
 rintro e w' ⟨rfl, rfl⟩
 gi_wp2_with fail
 have b0 : Blk (w.alloc (.cells zero72 29)) w.heap.size 29 zero72 := Blk.new _ _ _
 have b1 : Blk ((w.alloc (.cells zero72 29)).alloc (.cells zero72 29)) (w.heap.size + 1) 29 zero72 := by
  have := Blk.new (w.alloc (.cells zero72 29)) 29 zero72
  rwa [World.size_alloc] at this
 have b2 : Blk (((w.alloc (.cells zero72 29)).alloc (.cells zero72 29)).alloc (.cells #[.int .i64 64] 3)) (w.heap.size + 1 + 1) 3 #[.int .i64 64] := by
  have := Blk.new ((w.alloc (.cells zero72 29)).alloc (.cells zero72 29)) 3 #[.int .i64 64]
  rwa [World.size_alloc, World.size_alloc] at this
 have hB0 : Below w.heap.size w (((w.alloc (.cells zero72 29)).alloc (.cells zero72 29)).alloc (.cells #[.int .i64 64] 3)) :=
  (((Below.refl _ w).alloc (Nat.le_refl _) _).alloc (by simp) _).alloc (by simp; omega) _
 have hsz : (((w.alloc (.cells zero72 29)).alloc (.cells zero72 29)).alloc (.cells #[.int .i64 64] 3)).heap.size = w.heap.size + 1 + 1 + 1 := by simp
 refine wpIn_rangeFunc_ownF rfl (by omega) (gf := 42) (lb := #[.pointer (some ⟨w.heap.size + 1 + 1, 0, none⟩)]) rfl trivial (enters_of Tryz.func42 (by kernel_rfl) rfl)
  (primes1_stops (5 - 1) (w.heap.size + 1 + 1) (by omega) _ (by rw [hsz]; omega) (b2.cell 0)) keepsCell_t (keepsCell_b (by rw [hsz]; omega)) (Below.refl _ _) (fun _ => rfl)
  (fun pre W => (Blk W w.heap.size 29 zero72 ∧ Blk W (w.heap.size + 1) 29 (tab pre)) ∧ Below w.heap.size w W)
  (fun _ _ _ => False)
  (OwnFrom.and (fun s A B row hs hg hr => ⟨hs.1.grown hg (blk_own hr (by rw [hsz]; omega)), hs.2.grown hg (blk_own hr (by rw [hsz]; omega))⟩) (ownFrom_below (Nat.le_refl _) (by rw [hsz]; omega)))
  (fun _ _ _ _ _ hs _ _ => hs)
  ⟨⟨(b0.alloc _).alloc _, b1.alloc _⟩, hB0⟩
  (fun x => { tmps := #[.pointer (some ⟨w.heap.size, 0, none⟩), .pointer (some ⟨w.heap.size + 1, 0, none⟩), .int .i64 ((x.1 : Nat) : Int), .int .u64 ((pr x.1 : Nat) : Int), .func (.func 42) #[] #[.pointer (some ⟨w.heap.size + 1 + 1, 0, none⟩)], .int .i64 ((x.1 : Nat) : Int), .int .u64 ((pr x.1 : Nat) : Int), undef, undef, undef, undef, undef, undef, undef, undef, undef, undef, undef, undef, undef], defers := [] }) ?assign ?body ?done ?stop
 case assign =>
  intro l x W K hK
  gi_wp2
  exact hK
 case body =>
  rintro l pre x W ⟨⟨c0, c1⟩, hB⟩ _
  obtain ⟨x, hx⟩ := x
  have hp := pr_le' ⟨x, hx⟩
  have hx' : (x : Int) < 64 := by omega
  have hts := tab_size pre
  have q1 := c1.cell x
  have q2 := c1.frozen x
  rw [Array.getElem?_eq_getElem (by omega)] at q1
  generalize (tab pre)[x]'(by omega) = ov at q1
  by_cases h8 : x < 8
  · have h8' : (x : Int) < 8 := by omega
    have c2 := c1.set_ x (.int .u32 ((frC (pr x) : Nat) : Int))
    have q3 := c2.cell (64 + x)
    have q4 := c2.frozen (64 + x)
    rw [Array.getElem?_eq_getElem (by simp; omega)] at q3
    generalize ((tab pre).setIfInBounds x (.int .u32 ((frC (pr x) : Nat) : Int)))[64 + x]'(by simp; omega) = ov2 at q3
    have HT := Lib.hid hts
    clear hts
    gi_wp2_with fail
    refine ⟨trivial, ?_⟩
    refine (CallsIn.inRound l (callsIn_wide.2 (frac_cube (pr x) hp _))).mono ?_
    rintro e w' ⟨rfl, rfl⟩
    gi_wp2_with fail
    refine ⟨trivial, ?_⟩
    refine (CallsIn.inRound l (callsIn_wide.2 (frac_square (pr x) hp _))).mono ?_
    rintro e w' ⟨rfl, rfl⟩
    gi_wp2
    refine ⟨(KeepsOthers.setCell _ _ _).trans (KeepsOthers.setCell _ _ _), ?_, ⟨⟨(c0.far (by simp) _).far (by simp) _, ?_⟩, (hB.setCell (p := ⟨w.heap.size + 1, _, none⟩) (by simp) _).setCell (p := ⟨w.heap.size + 1, _, none⟩) (by simp) _⟩⟩
    · unfold keepsCell
      rw [World.cell?_setCell_other _ _ _ _ (by intro h; injection h with h; omega), World.cell?_setCell_other _ _ _ _ (by intro h; injection h with h; omega)]
    · rw [tab_snoc]
      unfold step
      rw [if_pos h8]
      exact c2.set_ (64 + x) _
  · have h8' : ¬ (x : Int) < 8 := by omega
    have HT := Lib.hid hts
    clear hts
    gi_wp2_with fail
    refine ⟨trivial, ?_⟩
    refine (CallsIn.inRound l (callsIn_wide.2 (frac_cube (pr x) hp _))).mono ?_
    rintro e w' ⟨rfl, rfl⟩
    gi_wp2
    refine ⟨KeepsOthers.setCell _ _ _, ?_, ⟨⟨c0.far (by simp) _, ?_⟩, hB.setCell (p := ⟨w.heap.size + 1, _, none⟩) (by simp) _⟩⟩
    · unfold keepsCell
      rw [World.cell?_setCell_other _ _ _ _ (by intro h; injection h with h; omega)]
    · rw [tab_snoc]
      unfold step
      rw [if_neg h8]
      exact c1.set_ x _
 case done =>
  rintro D xs W hD rfl ⟨⟨c0, c1⟩, hB⟩ hK
  obtain ⟨T, hT⟩ : ∃ T, tab (upto 64) = T := ⟨_, rfl⟩
  have hs : (Tryz.prog.info? 29).map (·.size) = some T.size := by rw [← hT, tab_size]; exact infoTable
  have ho : zero72.size = T.size := by rw [← hT, tab_size]; rfl
  have h1 : T.all (·.oneCell') = true := by rw [← hT]; exact tab_one _
  rw [hT] at c1
  have HT := Lib.hid hT
  have Hs := Lib.hid hs
  have Ho := Lib.hid ho
  have H1 := Lib.hid h1
  clear hT hs ho h1
  gi_wp2_with (first
   | (refine wpListIn_load_row rfl 29 _ rfl (w.heap.size + 1) rfl 29 T (0, 0) _ c1 Tryz.underlying29 rfl Hs.out ?_)
   | (refine wpListIn_store_row rfl 29 _ _ rfl w.heap.size T rfl rfl 29 zero72 c0 Hs.out Ho.out H1.out ?_))
  have hDn : w.heap.size ≠ D := by rw [hsz] at hD; omega
  have hK' : (W.setRow w.heap.size T).heap[D]? = some (.deferred (some [])) := (setRow_other W w.heap.size D T (Ne.symm hDn)).trans hK
  have hg' : ((W.setRow w.heap.size T).putObj D (.deferred none)).heap[w.heap.size]? = some (.cells T 29 (0, 0)) :=
   (World.putObj_heap_other hDn).trans (setRow_heap W w.heap.size zero72 T 29 (0, 0) c0)
  have hBs := (below_setRow hB (Nat.le_refl _) T).trans (belowK_b (w := w) (Nat.le_refl _) _ D _ (.deferred none) (by rw [hsz] at hD; omega) hK' rfl rfl)
  refine ⟨by simp, .inl ⟨_, _, rfl, run_takeDeferred hK', ?_⟩⟩
  exact ⟨.agg T, results_cell_row rfl _ _ w.heap.size 29 T (0, 0) _ rfl hg' Tryz.underlying29 rfl Hs.out, by rw [HT.out], hBs⟩
 case stop =>
  rintro D c pre W _ _ h _
  exact h.elim
end Go.Proofs.YtakgolbgeeoioaaGreat
namespace Go.Proofs.YtakgolbgeeoioaaGreat
open Go.RowKit

def stdK : List Nat := [
 0x428a2f98, 0x71374491, 0xb5c0fbcf, 0xe9b5dba5, 0x3956c25b, 0x59f111f1, 0x923f82a4, 0xab1c5ed5,
 0xd807aa98, 0x12835b01, 0x243185be, 0x550c7dc3, 0x72be5d74, 0x80deb1fe, 0x9bdc06a7, 0xc19bf174,
 0xe49b69c1, 0xefbe4786, 0x0fc19dc6, 0x240ca1cc, 0x2de92c6f, 0x4a7484aa, 0x5cb0a9dc, 0x76f988da,
 0x983e5152, 0xa831c66d, 0xb00327c8, 0xbf597fc7, 0xc6e00bf3, 0xd5a79147, 0x06ca6351, 0x14292967,
 0x27b70a85, 0x2e1b2138, 0x4d2c6dfc, 0x53380d13, 0x650a7354, 0x766a0abb, 0x81c2c92e, 0x92722c85,
 0xa2bfe8a1, 0xa81a664b, 0xc24b8b70, 0xc76c51a3, 0xd192e819, 0xd6990624, 0xf40e3585, 0x106aa070,
 0x19a4c116, 0x1e376c08, 0x2748774c, 0x34b0bcb5, 0x391c0cb3, 0x4ed8aa4a, 0x5b9cca4f, 0x682e6ff3,
 0x748f82ee, 0x78a5636f, 0x84c87814, 0x8cc70208, 0x90befffa, 0xa4506ceb, 0xbef9a3f7, 0xc67178f2]
def stdH : List Nat := [0x6a09e667, 0xbb67ae85, 0x3c6ef372, 0xa54ff53a, 0x510e527f, 0x9b05688c, 0x1f83d9ab, 0x5be0cd19]
def prLit : List Nat := [2, 3, 5, 7, 11, 13, 17, 19, 23, 29, 31, 37, 41, 43, 47, 53, 59, 61, 67, 71, 73, 79, 83, 89, 97, 101, 103, 107, 109, 113, 127, 131, 137, 139, 149, 151, 157, 163, 167, 173, 179, 181, 191, 193, 197, 199, 211, 223, 227, 229, 233, 239, 241, 251, 257, 263, 269, 271, 277, 281, 283, 293, 307, 311]
theorem prs_lit : prs = prLit := by decide +kernel
theorem k_lit : ((List.range 64).all fun x => decide (frC (prLit.getD x 0) = stdK.getD x 0)) = true := by decide +kernel
theorem h_lit : ((List.range 8).all fun x => decide (frS (prLit.getD x 0) = stdH.getD x 0)) = true := by decide +kernel
theorem kOf_std (x : Nat) (h : x < 64) : kOf x = stdK.getD x 0 := by
 have := List.all_eq_true.1 k_lit x (List.mem_range.2 h)
 unfold kOf pr
 rw [prs_lit]
 simpa using this
theorem hOf_std (x : Nat) (h : x < 8) : hOf x = stdH.getD x 0 := by
 have := List.all_eq_true.1 h_lit x (List.mem_range.2 h)
 unfold hOf pr
 rw [prs_lit]
 simpa using this
def stepStd (cs : Array Value) (x : Fin 64) : Array Value :=
 if x.1 < 8 then (cs.setIfInBounds x.1 (U32 (stdK.getD x.1 0))).setIfInBounds (64 + x.1) (U32 (stdH.getD x.1 0)) else cs.setIfInBounds x.1 (U32 (stdK.getD x.1 0))
theorem step_std : step = stepStd := by
 funext cs x
 unfold step stepStd
 split
 · rw [kOf_std x.1 x.2, hOf_std x.1 ‹_›]
 · rw [kOf_std x.1 x.2]
def stdT : List Nat := stdK ++ stdH
/-- the table as a value -/
def tabV : Array Value := (stdT.map U32).toArray
theorem tab_std : tab (upto 64) = tabV := by
 unfold tab
 rw [step_std]
 kernel_rfl
theorem tabV_size : tabV.size = 72 := by kernel_rfl
theorem tabV_one : tabV.all (·.oneCell') = true := by kernel_rfl

theorem map_at {l : List Nat} {f : Nat → Value} {j : Nat} (h : j < l.length) : ((l.map f).toArray)[j]? = some (f (l.getD j 0)) := by
 simp [h, List.getD_eq_getElem?_getD]
theorem lt_of_all {l : List Nat} (h : l.all (fun x => decide (x < 4294967296)) = true) (j : Nat) : l.getD j 0 < 4294967296 := by
 rw [List.getD_eq_getElem?_getD]
 rcases hj : l[j]? with _ | x
 · simp
 · have := List.all_eq_true.1 h x (List.mem_of_getElem? hj)
   simpa using this
theorem stdK_lt (j : Nat) : stdK.getD j 0 < 4294967296 := lt_of_all (by decide +kernel) j
theorem stdH_lt (j : Nat) : stdH.getD j 0 < 4294967296 := lt_of_all (by decide +kernel) j

theorem make_std (w : World) : Calls Tryz.prog 9 #[] w fun e w' => e = .returned (.agg tabV) ∧ Below w.heap.size w w' := by
 have := make_any w
 rw [tab_std] at this
 exact this
end Go.Proofs.YtakgolbgeeoioaaGreat
namespace Go.Proofs.YtakgolbgeeoioaaGreat

/-- four bytes as a word, the greatest first -/
def wd (B : Nat → Nat) (t : Nat) : Nat := B (4 * t) * 16777216 + B (4 * t + 1) * 65536 + B (4 * t + 2) * 256 + B (4 * t + 3)
/-- the word behind the words l -/
def wnext (B : Nat → Nat) (l : List Nat) (n : Nat) : Nat :=
 if n < 16 then wd B n else (sS1 (l.getD (n - 2) 0) + l.getD (n - 7) 0 + sS0 (l.getD (n - 15) 0) + l.getD (n - 16) 0) % 4294967296
/-- the first n words -/
def wl (B : Nat → Nat) : Nat → List Nat
 | 0 => []
 | n + 1 => wl B n ++ [wnext B (wl B n) n]
theorem wl_length (B : Nat → Nat) : ∀ n, (wl B n).length = n
 | 0 => rfl
 | n + 1 => by simp [wl, wl_length B n]
theorem wd_lt {B : Nat → Nat} (h : ∀ i, B i < 256) (t : Nat) : wd B t < 4294967296 := by
 have h0 := h (4 * t)
 have h1 := h (4 * t + 1)
 have h2 := h (4 * t + 2)
 have h3 := h (4 * t + 3)
 unfold wd
 omega
theorem wl_lt {B : Nat → Nat} (h : ∀ i, B i < 256) : ∀ n, ∀ x ∈ wl B n, x < 4294967296
 | 0 => by simp [wl]
 | n + 1 => by
  intro x hx
  simp only [wl, List.mem_append, List.mem_singleton] at hx
  rcases hx with hx | rfl
  · exact wl_lt h n x hx
  · unfold wnext
    split
    · exact wd_lt h n
    · exact Nat.mod_lt _ (by decide)
theorem getD_lt {l : List Nat} {M : Nat} (h : ∀ x ∈ l, x < M) (hM : 0 < M) (i : Nat) : l.getD i 0 < M := by
 rw [List.getD_eq_getElem?_getD]
 rcases hj : l[i]? with _ | x
 · simpa using hM
 · simpa using h x (List.mem_of_getElem? hj)

/-- n numbers as an array of m values, noughts behind them -/
def padded (f : Nat → Value) (m : Nat) (l : List Nat) : Array Value := ((l ++ List.replicate (m - l.length) 0).map f).toArray
theorem padded_size (f : Nat → Value) {m : Nat} {l : List Nat} (h : l.length ≤ m) : (padded f m l).size = m := by
 simp [padded]; omega
theorem padded_nil (f : Nat → Value) (m : Nat) : padded f m [] = Array.replicate m (f 0) := by
 simp [padded, List.map_replicate]
theorem padded_full (f : Nat → Value) {m : Nat} {l : List Nat} (h : l.length = m) : padded f m l = (l.map f).toArray := by
 simp [padded, h]
theorem padded_at (f : Nat → Value) {m i : Nat} {l : List Nat} (hi : i < l.length) : (padded f m l)[i]? = some (f (l.getD i 0)) := by
 simp [padded, List.getElem?_append, hi]
theorem padded_there (f : Nat → Value) {m i : Nat} {l : List Nat} (h : l.length ≤ m) (hi : i < m) : ∃ v, (padded f m l)[i]? = some v :=
 ⟨_, Array.getElem?_eq_getElem (by rw [padded_size f h]; exact hi)⟩
theorem padded_set (f : Nat → Value) {m : Nat} {l : List Nat} (h : l.length < m) (x : Nat) : (padded f m l).setIfInBounds l.length (f x) = padded f m (l ++ [x]) := by
 unfold padded
 rw [List.setIfInBounds_toArray]
 congr 1
 apply List.ext_getElem?
 intro i
 rw [List.getElem?_set]
 simp only [List.getElem?_map, List.length_map, List.length_append, List.length_replicate, List.getElem?_append, List.length_cons, List.length_nil, List.getElem?_replicate]
 by_cases h1 : i < l.length
 · simp [h1, show ¬ l.length = i by omega, show i < l.length + 1 by omega]
 · by_cases h2 : l.length = i
   · subst h2; simp; omega
   · simp only [h1, h2, if_false, show ¬ i < l.length + (0 + 1) by omega]
     by_cases h3 : i < m
     · simp [show i - l.length < m - l.length by omega, show i - (l.length + 1) < m - (l.length + 1) by omega]
     · simp [show ¬ i - l.length < m - l.length by omega, show ¬ i - (l.length + 1) < m - (l.length + 1) by omega]
end Go.Proofs.YtakgolbgeeoioaaGreat

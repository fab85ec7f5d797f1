/-
  The iterator over levels, and Count.
-/
import Derived.Test.YtpapmcdnaplmkaaTMath
import Derived.Test.YtpapmcdnaplmkaaRRound
import Derived.Lib.Hide
import Derived.RangeFuncBox
import Derived.Maps.AppendAt
namespace Go.Proofs.Ytpapmcdnaplmkaa
open Go.RowKit Go.Shelf
attribute [local go_sem] Oper.semAt_some

/-- the iterator hands out xs, in this order, as long as the body goes on -/
def HandsX {α : Type} (n g : Nat) (lb : Array Value) (encs : α → Array Value) (xs : List α) (w : World) : Prop :=
  ∀ (l : Nat) (J Jx : List α → World → Prop) (W : World), Below w.heap.size w W → (∀ s W1, J s W1 → J s W1.drew) →
    (∀ (pre : List α) (x : α) (rest : List α) (W1 : World), xs = pre ++ x :: rest → J pre W1 → YieldAt Fence.wide (n - 1) Try.prog l (encs x) W1 fun e W' => (e = .returned (.bool true) ∧ J (pre ++ [x]) W') ∨ (e = .returned (.bool false) ∧ Jx (pre ++ [x]) W')) →
    J [] W → CallsIn Fence.wide n Try.prog g (#[.func (.yield l) #[] #[]] ++ lb) W fun e W' => (∃ v, e = .returned v) ∧ (J xs W' ∨ ∃ pre, pre <+: xs ∧ Jx pre W')
theorem drew_grown (W : World) : W.grownBy W.drew none := ⟨rfl, rfl, rfl, Nat.le_refl _, fun _ _ _ => rfl⟩
theorem yield_up {F : Fence} {m : Nat} {P : Program} {l : Nat} {args : Array Value} {W : World} {R R' : Ending → World → Prop} (h : YieldAt F m P l args W R) (hR : ∀ e W', R e W' → R' e W') : YieldAt F m P l args W R' := by
  obtain ⟨fn, tmps, assign, body, hy, hr⟩ := h
  exact ⟨fn, tmps, assign, body, hy, hr.mono hR⟩
theorem HandsX.later {α : Type} {n g : Nat} {lb : Array Value} {encs : α → Array Value} {xs : List α} {w w' : World} (h : HandsX n g lb encs xs w) (hb : Below w.heap.size w w') : HandsX n g lb encs xs w' :=
  fun l J Jx W hW hd hY h0 => h l J Jx W (hb.trans (hW.mono hb.size)) hd hY h0
theorem HandsX.stops {α : Type} {n g : Nat} {lb : Array Value} {encs : α → Array Value} {xs : List α} {w : World} (Kp : World → World → Prop) (h : HandsX n g lb encs xs w) : SeqStopsK Fence.wide n Try.prog g lb encs Kp (fun ys => ys = xs) (fun ys => ys <+: xs) xs.length w :=
  fun l J Jx W hW hJ _ hY h0 => (h l J Jx W hW (fun s W1 hs => hJ s W1 _ none hs (drew_grown W1) (fun r e => by cases e)) (fun pre x rest W1 hx hj => yield_up (hY pre x W1 hj (by have := congrArg List.length hx; simp at this; omega)) fun _ _ hr => hr.imp (fun q => ⟨q.1, q.2.1⟩) id) h0).mono fun e W' hr => ⟨hr.1, hr.2.imp (fun q => ⟨_, rfl, q⟩) id⟩

set_option maxHeartbeats 1000000 in
theorem range_x {α : Type} {n : Nat} {g : Operand} {ps : Array Tmp} {assign body : Code} {Q : Exit → Act → World → Prop} {a : Act} {w : World} (h1 : 1 ≤ n) {gf : Nat} {lb : Array Value} (hg : a.eval g = .func (.func gf) #[] lb)
    (eg : ∀ args w, (callFunc gf args).run Try.prog w = .ok (.enter gf args) w) {encs : α → Array Value} {xs : List α} (hseq : HandsX (n - 1) gf lb encs xs w) (hps : ∀ x, (encs x).size = ps.size)
    (I : List α → World → Prop) (hI : OwnFrom w.heap.size I) (h0 : I [] w) (a1 : α → Act)
    (hassign : ∀ (l : Nat) (x : α) (W : World) (K : Act → World → Prop), K (a1 x) W →
      assign.wpIn (Fence.wide.inRound l) (n - 1 - 1) Try.prog (Exit.then K (fun _ _ _ => False)) { tmps := (ps.zip (encs x)).foldl (fun t (p, v) => t.setIfInBounds p v) a.tmps, defers := [] } W)
    (hbody : ∀ (l : Nat) (pre : List α) (x : α) (rest : List α) (W : World), xs = pre ++ x :: rest → I pre W → body.wpIn (Fence.wide.inRound l) (n - 1 - 1) Try.prog (goesOn (I (pre ++ [x])) W) (a1 x) W)
    (hdone : ∀ (D : Nat) (W : World), w.heap.size ≤ D → I xs W → W.heap[D]? = some (.deferred (some [])) → Q .normal { a with defers := { target := .collected D, args := #[] } :: a.defers } W) :
    (Code.rangeFunc g ps assign body).wpIn Fence.wide n Try.prog Q a w := by
  refine wpIn_rangeFunc fun fn hfn => ?_
  obtain ⟨B, hB⟩ : ∃ B, w.heap.size = B := ⟨_, rfl⟩
  obtain ⟨mk, hmk⟩ : ∃ mk : LoopState → Loop, mk = fun st => { state := st, pending := none, fn, tmps := a.tmps, params := ps, assign, body, defers := B } := ⟨_, rfl⟩
  obtain ⟨wl, hwl⟩ : ∃ wl, (w.alloc (.deferred (some []))).alloc (.loop (mk .ready)) = wl := ⟨_, rfl⟩
  have lD : wl.heap[B]? = some (.deferred (some [])) := by
    rw [← hwl, ← hB]
    exact (Below.heap_alloc _ _ _ (by simp)).trans (World.alloc_heap_new w _)
  have lL : wl.heap[B + 1]? = some (.loop (mk .ready)) := by
    have := World.alloc_heap_new (w.alloc (.deferred (some []))) (.loop (mk .ready))
    rw [← hwl, ← hB]
    rwa [World.size_alloc] at this
  have lI : I [] wl := by rw [← hwl]; exact hI.alloc _ (hI.alloc _ h0)
  have lB : Below w.heap.size w wl := by rw [← hwl]; exact ((Below.refl _ w).alloc (Nat.le_refl _) _).alloc (by simp) _
  refine ⟨B + 1, [{ target := .collected B, args := #[] }], wl, { target := .fn (.func gf) lb, args := #[.func (.yield (B + 1)) #[] #[]] }, wl, gf, #[.func (.yield (B + 1)) #[] #[]] ++ lb, wl, ?_, ?_, fun _ _ => trivial, ?_, fun _ => h1, ?_⟩
  · rw [← hwl, hmk, ← hB]
    exact run_enterLoop_outer _ _ _ _ _
  · simp only [resolve, hg]
    simp [go_sem]
  · simp [invoke, go_sem, eg]
  · refine (hseq (B + 1) (fun pre W => I pre W ∧ W.heap[B + 1]? = some (.loop (mk .ready)) ∧ W.heap[B]? = some (.deferred (some []))) (fun _ _ => False) wl lB (fun s W hs => ⟨hI s W _ none hs.1 (drew_grown W) (fun r e => by cases e), hs.2⟩) ?_ ⟨lI, lL, lD⟩).mono ?_
    · rintro pre x rest W hx ⟨hi, hl, hd⟩
      have hlt : B + 1 < W.heap.size := (Array.getElem?_eq_some_iff.1 hl).1
      have hy := run_yield (P := Try.prog) (args := encs x) hl (by rw [hmk]; exact hps x)
      rw [hmk] at hy
      refine yield_up (R := fun e W' => e = .returned (.bool true) ∧ I (pre ++ [x]) W' ∧ W'.heap[B + 1]? = some (.loop (mk .ready)) ∧ W'.heap[B]? = some (.deferred (some []))) ⟨fn, _, assign, body, hy, roundIn_of_wpIn hfn (hassign _ x W _ ⟨_, run_beginRound hl (by rw [hmk]), ?_⟩)⟩ (fun _ _ h => .inl h)
      have b1 : (W.putObj (B + 1) (.loop { mk .ready with state := .busy })).heap[B + 1]? = some (.loop { mk .ready with state := .busy }) := World.putObj_heap_same hlt
      have b2 : (W.putObj (B + 1) (.loop { mk .ready with state := .busy })).heap[B]? = some (.deferred (some [])) := (World.putObj_heap_other (by omega)).trans hd
      refine wpIn_mono (hbody _ pre x rest _ hx (hI.putObj _ hi (by omega) hl rfl)) ?_
      intro e a3 W3 hp
      cases e with
      | normal =>
        obtain ⟨hk, hi3⟩ := hp
        have c1 := hk.same _ _ b1 rfl
        have hr := run_endRound (P := Try.prog) none c1
        rw [hmk] at hr c1
        refine ⟨_, _, hr, rfl, hI.putObj _ hi3 (by omega) c1 rfl, ?_, (World.putObj_heap_other (by omega)).trans (hk.same _ _ b2 rfl)⟩
        rw [hmk]
        exact World.putObj_heap_same (Array.getElem?_eq_some_iff.1 c1).1
      | _ => exact hp.elim
    · rintro e W2 ⟨⟨v, rfl⟩, ⟨hi, hl, hd⟩ | ⟨_, _, hf⟩⟩
      rotate_left
      · exact hf.elim
      have hr := run_endLoop (P := Try.prog) hl (by rw [hmk]; simp)
      rw [hmk] at hr
      exact ⟨none, _, hr, hdone _ _ (by omega) (hI.putObj _ hi (by omega) hl rfl) ((World.putObj_heap_other (by omega)).trans hd)⟩
abbrev encL (x : Nat × Nat) : Array Value := #[.int .i64 ((x.1 : Nat) : Int), .int .i64 ((x.2 : Nat) : Int)]
set_option maxRecDepth 100000 in
set_option maxHeartbeats 1000000 in
theorem levels1_in (n l Bn : Nat) (hn : 1 ≤ n) (z : Int) (J Jx : List (Nat × Nat) → World → Prop) (hJd : ∀ s W, J s W → J s W.drew)
    (hY : ∀ (pre : List (Nat × Nat)) (x : Nat × Nat) (rest : List (Nat × Nat)) (W : World), lvl z = pre ++ x :: rest → J pre W → YieldAt Fence.wide (n - 1) Try.prog l (encL x) W fun e W' => (e = .returned (.bool true) ∧ J (pre ++ [x]) W') ∨ (e = .returned (.bool false) ∧ Jx (pre ++ [x]) W'))
    (W : World) (hB : W.cell? ⟨Bn, 0, none⟩ = some (.int .i64 z)) (h0 : J [] W) :
    CallsIn Fence.wide n Try.prog 37 #[.func (.yield l) #[] #[], .pointer (some ⟨Bn, 0, none⟩)] W fun e W' => (∃ v, e = .returned v) ∧ (J (lvl z) W' ∨ ∃ pre, pre <+: lvl z ∧ Jx pre W') := by
  refine callsIn_of_wp Try.func37 rfl trivial ?_ rfl
  simp only [Try.ntmps37, List.size_toArray, List.length_cons, List.length_nil, Nat.reduceAdd, Nat.reduceSub, Array.replicate_succ, Array.replicate_zero, List.push_toArray, List.append_toArray, List.nil_append, List.cons_append]
  by_cases hbig : 64 < z
  · have HE := Lib.hid (lvl_big hbig)
    gi_wp2
    refine bodyPost_ret (results_none rfl _ _ _) rfl ?_
    exact ⟨⟨_, rfl⟩, .inl (by rw [HE.out]; exact h0)⟩
  have HY := Lib.hid hY
  clear hY
  have HZ := Lib.hid (show lvl z = lvs 4 0 z.toNat by unfold lvl; rw [if_pos (by omega)])
  obtain ⟨L, hL⟩ : ∃ L, lvl z = L := ⟨_, rfl⟩
  rw [hL] at HY HZ ⊢
  clear hL
  have h0d := hJd _ _ h0
  gi_wp2
  refine region_wide (S := fun W' => W' = W.drew) (by kernel_rfl) rfl (fun hHeld0 => ?_)
  have hBd : W.drew.cell? ⟨Bn, 0, none⟩ = some (.int .i64 z) := hB
  apply takeH (i := 0) rfl (by kernel_rfl) (by kernel_rfl) (by kernel_rfl) (fun _ _ _ h => h) (by rfl)
  case hy => (intro w hSw; subst hSw; go_simp; try with_reducible rfl)
  case hS => assumption
  (try simp only [Act.put, List.setIfInBounds_toArray, List.set_cons_zero, List.set_cons_succ])
  apply takeH (i := 1) rfl (by kernel_rfl) (by kernel_rfl) (by kernel_rfl) (fun _ _ _ h => h) (by rfl)
  case hy => (intro w hSw; subst hSw; go_simp; try with_reducible rfl)
  case hS => assumption
  (try simp only [Act.put, List.setIfInBounds_toArray, List.set_cons_zero, List.set_cons_succ])
  apply takeH (i := 2) rfl (by kernel_rfl) (by kernel_rfl) (by kernel_rfl) (fun _ _ _ h => h) (by rfl)
  case hy => (intro w hSw; subst hSw; go_simp; try with_reducible rfl)
  case hS => assumption
  (try simp only [Act.put, List.setIfInBounds_toArray, List.set_cons_zero, List.set_cons_succ])
  refine wpAnyH_done (by kernel_rfl) ?_ _
  simp only [onlyN]
  gi_wp2
  gi_loopw [3, 4] (fun a b wr => ∃ (f lev : Nat) (y : Int) (pre : List (Nat × Nat)), a = .int .i64 (lev : Int) ∧ b = .int .i64 y ∧ lev + f ≤ 4 ∧ y.toNat < 4 ^ f ∧ y ≤ 64 ∧ L = pre ++ lvs f lev y.toNat ∧ J pre wr)
    (fun _ b _ => (intOf b).toNat)
  case atStart =>
    exact ⟨4, 0, z, [], rfl, rfl, by omega, by omega, by omega, HZ.out, h0d⟩
  case round =>
    obtain ⟨f, lev, y, pre, rfl, rfl, hf, hy4, hy, hx, hJs⟩ := hrel
    by_cases hpos : 0 < y
    · obtain ⟨c, rfl⟩ : ∃ c : Nat, y = (c : Int) := ⟨y.toNat, by omega⟩
      rw [Int.toNat_natCast] at hx hy4
      obtain ⟨f, rfl⟩ : ∃ k, f = k + 1 := by
        cases f with
        | zero => simp at hy4; omega
        | succ f => exact ⟨f, rfl⟩
      have hq : c / 4 < 4 ^ f := by rw [Nat.pow_succ] at hy4; omega
      rw [lvs_pos f lev c (by omega)] at hx
      obtain ⟨fn, tmps, assign, body, hyl, hRy⟩ := HY.out pre _ _ wr hx hJs
      dsimp only [encL] at hyl
      have HX := Lib.hid hx
      clear hx HZ hy4
      gi_wp2
      refine hRy.mono ?_
      rintro e W3 (⟨rfl, hJ3⟩ | ⟨rfl, hJ3⟩)
      · gi_wp2
        go_roundw
        case rel => exact ⟨f, lev + 1, ((c / 4 : Nat) : Int), pre ++ [(lev, c)], by go_num, by go_num, by omega, by omega, by omega, by rw [HX.out, Int.toNat_natCast, List.append_assoc]; rfl, hJ3⟩
        case measure => simp [intOf]; omega
      · gi_wp2
        refine bodyPost_ret (results_none rfl _ _ _) rfl ?_
        exact ⟨⟨_, rfl⟩, .inr ⟨pre ++ [(lev, c)], ⟨lvs f (lev + 1) (c / 4), by rw [HX.out, List.append_assoc]; rfl⟩, hJ3⟩⟩
    · have he : y.toNat = 0 := by omega
      rw [he, lvs_zero, List.append_nil] at hx
      subst hx
      clear he hy4 HZ HY
      gi_wp2
      go_end0
      exact ⟨⟨_, rfl⟩, .inl hJs⟩
theorem levels1_hands (n Bn : Nat) (hn : 1 ≤ n) (z : Int) (w : World) (hBn : Bn < w.heap.size) (hB : w.cell? ⟨Bn, 0, none⟩ = some (.int .i64 z)) :
    HandsX n 37 #[.pointer (some ⟨Bn, 0, none⟩)] encL (lvl z) w := fun l J Jx W hW hJd hY h0 =>
  levels1_in n l Bn hn z J Jx hJd hY W ((hW.cell (p := ⟨Bn, 0, none⟩) hBn).trans hB) h0
set_option maxRecDepth 100000 in
theorem levels_in (n : Nat) (z : Int) (w : World) : CallsIn Fence.wide n Try.prog 22 #[.int .i64 z] w fun e w' =>
    e = .returned (.func (.func 37) #[] #[.pointer (some ⟨w.heap.size, 0, none⟩)]) ∧ w.alloc (.cells #[.int .i64 z] 3) = w' := by
  refine callsIn_wide.2 ?_
  go_enter Try.func22, Try.ntmps22
  go_wp2
  go_ret
  exact ⟨rfl, rfl⟩
theorem find_snoc {α : Type} (p : α → Bool) (l : List α) (x : α) (rest : List α) (h : ∀ y ∈ l, p y = false) (hx : p x = true) : (l ++ x :: rest).find? p = some x := by
  induction l with
  | nil => simp [hx]
  | cons a l ih =>
    rw [List.cons_append, List.find?_cons_of_neg (by simp [h a (by simp)])]
    exact ih fun y hy => h y (by simp [hy])
set_option maxRecDepth 100000 in
set_option maxHeartbeats 1000000 in
theorem count_any (z level : Int) (w : World) : Calls Try.prog 11 #[.int .i64 z, .int .i64 level] w fun e w' => e = .returned (.int .i64 ((cntT z level : Nat) : Int)) ∧ Below w.heap.size w w' := by
  refine (callsIn_wide (n := 4)).1 ?_
  refine callsIn_of_wp_marks Try.func11 rfl trivial ?_ rfl
  simp only [Try.ntmps11, List.size_toArray, List.length_cons, List.length_nil, Nat.reduceAdd, Nat.reduceSub, Array.replicate_succ, Array.replicate_zero, List.push_toArray, List.append_toArray, List.nil_append, List.cons_append]
  gi_wp2_with fail
  refine ⟨trivial, ?_⟩
  refine (levels_in _ _ _).mono ?_
  rintro e w1 ⟨rfl, rfl⟩
  have cL := Boxed.new w 3 (.int .i64 level)
  have cR := Boxed.new (w.alloc (.cells #[.int .i64 level] 3)) 3 (.int .i64 0)
  have cN := Boxed.new ((w.alloc (.cells #[.int .i64 level] 3)).alloc (.cells #[.int .i64 0] 3)) 3 (.int .i64 z)
  simp only [World.size_alloc] at cR cN
  have hB0 : Below w.heap.size w (((w.alloc (.cells #[.int .i64 level] 3)).alloc (.cells #[.int .i64 0] 3)).alloc (.cells #[.int .i64 z] 3)) := (((Below.refl _ w).alloc (Nat.le_refl _) _).alloc (by simp) _).alloc (by simp; omega) _
  gi_wp2
  refine wpIn_rangeFunc_ownF rfl (by decide) (gf := 37) (lb := #[.pointer (some ⟨w.heap.size + 1 + 1, 0, none⟩)]) rfl trivial (enters_of Try.func37 (by kernel_rfl) rfl)
    ((levels1_hands 3 (w.heap.size + 1 + 1) (by decide) z _ (by simp) cN.cell).stops (Below w.heap.size)) belowK_t (belowK_b (by simp; omega)) (Below.refl _ _) (fun _ => rfl)
    (fun pre W => ((∀ y ∈ pre, isL level y = false) ∧ W.cell? ⟨w.heap.size, 0, none⟩ = some (.int .i64 level) ∧ W.cell? ⟨w.heap.size + 1, 0, none⟩ = some (.int .i64 0) ∧ W.frozen? ⟨w.heap.size + 1, 0, none⟩ = false) ∧ Below w.heap.size w W)
    (fun c pre W => (c = .ret ∧ (∃ q x, pre = q ++ [x] ∧ (∀ y ∈ q, isL level y = false) ∧ isL level x = true ∧ W.cell? ⟨w.heap.size + 1, 0, none⟩ = some (.int .i64 ((x.2 : Nat) : Int)))) ∧ Below w.heap.size w W)
    (OwnFrom.and (Own.from (fun s A B row hs hg hr => ⟨hs.1, cell_kept hs.2.1 hg hr, cell_kept hs.2.2.1 hg hr, (frozen_kept hs.2.2.1 hg hr).trans hs.2.2.2⟩) _) (ownFrom_below (Nat.le_refl _) (by simp; omega)))
    (fun c => OwnFrom.and (Own.from (fun s A B row hs hg hr => ⟨hs.1, by obtain ⟨q, x, h1, h2, h3, h4⟩ := hs.2; exact ⟨q, x, h1, h2, h3, cell_kept h4 hg hr⟩⟩) _) (ownFrom_below (Nat.le_refl _) (by simp; omega)))
    ⟨⟨by simp, ((cL.alloc _).alloc _).cell, (cR.alloc _).cell, (cR.alloc _).frozen⟩, hB0⟩
    (fun x => { tmps := #[.int .i64 z, .int .i64 level, undef, .pointer (some ⟨w.heap.size, 0, none⟩), .pointer (some ⟨w.heap.size + 1, 0, none⟩), .int .i64 ((x.1 : Nat) : Int), .int .i64 ((x.2 : Nat) : Int), .int .i64 z, .func (.func 37) #[] #[.pointer (some ⟨w.heap.size + 1 + 1, 0, none⟩)], .int .i64 ((x.1 : Nat) : Int), .int .i64 ((x.2 : Nat) : Int), undef, undef, undef, undef], defers := [] }) ?assign ?body ?done ?stop
  case assign =>
    intro l x W K hK
    gi_wp2
    exact hK
  case body =>
    rintro l pre x W ⟨⟨hp, hcw, hcr, hfr⟩, hB⟩ _
    obtain ⟨b, hb⟩ : ∃ b, isL level x = b := ⟨_, rfl⟩
    have hb' : (((x.1 : Nat) : Int) == level) = b := hb
    have HB := Lib.hid hb
    clear hb
    cases b
    · gi_wp2
      exact ⟨KeepsOthers.refl _, Below.refl _ _, ⟨fun y hy => (List.mem_append.1 hy).elim (hp y) (fun e => by simp at e; subst e; exact HB.out), hcw, hcr, hfr⟩, hB⟩
    · gi_wp2
      exact ⟨KeepsOthers.setCell _ _ _, ⟨rfl, pre, x, rfl, hp, HB.out, World.cell?_setCell_same' _ _ _ (by rw [hcr]; rfl)⟩, hB.setCell (p := ⟨w.heap.size + 1, 0, none⟩) (by simp) _⟩
  case done =>
    rintro D ys W hD rfl ⟨⟨hne, _, hcr, hfr⟩, hB⟩ hK
    have HV := Lib.hid (show cntT z level = 0 by unfold cntT; rw [List.find?_eq_none.2 (fun y hy => by simp [hne y hy])])
    gi_wp2
    have hK' := (KeepsOthers.setCell W ⟨w.heap.size + 1, 0, none⟩ (.int .i64 0)).same D _ hK rfl
    refine ⟨by simp, .inl ⟨_, _, rfl, run_takeDeferred hK', ?_⟩⟩
    have hc5 := cell_kept (World.cell?_setCell_same' W ⟨w.heap.size + 1, 0, none⟩ (.int .i64 0) (by rw [hcr]; rfl)) (grownBy_putObj' _ D (.deferred none)) (fun r e => by cases e; exact ⟨_, hK', rfl⟩)
    refine ⟨.int .i64 0, ?_, by rw [HV.out]; rfl, (hB.setCell (p := ⟨w.heap.size + 1, 0, none⟩) (by simp) _).trans (belowK_b (w := w) (Nat.le_refl _) _ D _ _ (by simp at hD; omega) hK' rfl rfl)⟩
    simp [results, Try.f11, go_sem, hc5]
  case stop =>
    rintro D c pre W hD hpre ⟨⟨rfl, q, x, rfl, hq, hx, hcr⟩, hB⟩ hK
    have HV := Lib.hid (show cntT z level = x.2 by obtain ⟨rest, hr⟩ := hpre; unfold cntT; rw [← hr, List.append_assoc, List.singleton_append, find_snoc _ q x rest hq hx])
    clear hpre
    gi_wp2
    refine ⟨by simp, .inl ⟨_, _, rfl, run_takeDeferred hK, ?_⟩⟩
    have hc5 := cell_kept hcr (grownBy_putObj' _ D (.deferred none)) (fun r e => by cases e; exact ⟨_, hK, rfl⟩)
    refine ⟨.int .i64 ((x.2 : Nat) : Int), ?_, by rw [HV.out], hB.trans (belowK_b (w := w) (Nat.le_refl _) W D _ _ (by simp at hD; omega) hK rfl rfl)⟩
    simp [results, Try.f11, go_sem, hc5]
end Go.Proofs.Ytpapmcdnaplmkaa

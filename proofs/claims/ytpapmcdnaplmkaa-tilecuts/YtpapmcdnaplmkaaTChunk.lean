/-
  slices.Chunk: its iterator; leaves.
-/
import Derived.Test.YtpapmcdnaplmkaaTIter
import Derived.Test.YtpapmcdnaplmkaaMRoot
namespace Go.Proofs.Ytpapmcdnaplmkaa
open Go.RowKit Go.Shelf
attribute [local go_sem] Oper.semAt_some

/-- the iterator hands out xs, in this order, as long as the body goes on and keeps what the iterator reads -/
def HandsI {α : Type} (Inv : World → Prop) (n g : Nat) (lb : Array Value) (encs : α → Array Value) (xs : List α) (w : World) : Prop :=
  ∀ (l : Nat) (J Jx : List α → World → Prop) (W : World), Below w.heap.size w W → (∀ s W1, J s W1 → J s W1.drew) → (∀ s W1, J s W1 → Inv W1) →
    (∀ (pre : List α) (x : α) (rest : List α) (W1 : World), xs = pre ++ x :: rest → J pre W1 → YieldAt Fence.wide (n - 1) Try.prog l (encs x) W1 fun e W' => (e = .returned (.bool true) ∧ J (pre ++ [x]) W') ∨ (e = .returned (.bool false) ∧ Jx (pre ++ [x]) W')) →
    J [] W → CallsIn Fence.wide n Try.prog g (#[.func (.yield l) #[] #[]] ++ lb) W fun e W' => (∃ v, e = .returned v) ∧ (J xs W' ∨ ∃ pre, pre <+: xs ∧ Jx pre W')
set_option maxHeartbeats 1000000 in
theorem range_i {α : Type} {n : Nat} {g : Operand} {ps : Array Tmp} {assign body : Code} {Q : Exit → Act → World → Prop} {a : Act} {w : World} (h1 : 1 ≤ n) {gf : Nat} {lb : Array Value} (hg : a.eval g = .func (.func gf) #[] lb)
    (eg : ∀ args w, (callFunc gf args).run Try.prog w = .ok (.enter gf args) w) {encs : α → Array Value} {xs : List α} {Inv : World → Prop} (hseq : HandsI Inv (n - 1) gf lb encs xs w) (hps : ∀ x, (encs x).size = ps.size)
    (I : List α → World → Prop) (hInv : ∀ s W, I s W → Inv W) (hI : OwnFrom w.heap.size I) (h0 : I [] w) (a1 : α → Act)
    (hassign : ∀ (l : Nat) (x : α) (W : World) (K : Act → World → Prop), K (a1 x) W →
      assign.wpIn (Fence.wide.inRound l) (n - 1 - 1) Try.prog (Exit.then K (fun _ _ _ => False)) { tmps := (ps.zip (encs x)).foldl (fun t (p, v) => t.setIfInBounds p v) a.tmps, defers := [] } W)
    (hbody : ∀ (l : Nat) (pre : List α) (x : α) (rest : List α) (W : World), xs = pre ++ x :: rest → I pre W → body.wpIn (Fence.wide.inRound l) (n - 1 - 1) Try.prog (goesOn (I (pre ++ [x])) W) (a1 x) W)
    (hdone : ∀ (D : Nat) (W : World), w.heap.size ≤ D → I xs W → W.heap[D]? = some (.deferred (some [])) → Q .normal { a with defers := { target := .collected D, args := #[] } :: a.defers } W) :
    (Code.rangeFunc g ps assign body).wpIn Fence.wide n Try.prog Q a w := by
  refine wpIn_rangeFunc fun fn hfn => ?_
  obtain ⟨B, hB⟩ : ∃ B, w.heap.size = B := ⟨_, rfl⟩
  obtain ⟨mk, hmk⟩ : ∃ mk : LoopState → Loop, mk = fun st => { state := st, pending := none, fn, tmps := a.tmps, params := ps, assign, body, defers := B } := ⟨_, rfl⟩
  obtain ⟨wl, hwl⟩ : ∃ wl, (w.alloc (.deferred (some []))).alloc (.loop (mk .ready)) = wl := ⟨_, rfl⟩
  have lD : wl.heap[B]? = some (.deferred (some [])) := by
    rw [← hwl, ← hB]
    exact (Below.heap_alloc _ _ _ (by simp)).trans (World.alloc_heap_new w _)
  have lL : wl.heap[B + 1]? = some (.loop (mk .ready)) := by
    have := World.alloc_heap_new (w.alloc (.deferred (some []))) (.loop (mk .ready))
    rw [← hwl, ← hB]
    rwa [World.size_alloc] at this
  have lI : I [] wl := by rw [← hwl]; exact hI.alloc _ (hI.alloc _ h0)
  have lB : Below w.heap.size w wl := by rw [← hwl]; exact ((Below.refl _ w).alloc (Nat.le_refl _) _).alloc (by simp) _
  refine ⟨B + 1, [{ target := .collected B, args := #[] }], wl, { target := .fn (.func gf) lb, args := #[.func (.yield (B + 1)) #[] #[]] }, wl, gf, #[.func (.yield (B + 1)) #[] #[]] ++ lb, wl, ?_, ?_, fun _ _ => trivial, ?_, fun _ => h1, ?_⟩
  · rw [← hwl, hmk, ← hB]
    exact run_enterLoop_outer _ _ _ _ _
  · simp only [resolve, hg]
    simp [go_sem]
  · simp [invoke, go_sem, eg]
  · refine (hseq (B + 1) (fun pre W => I pre W ∧ W.heap[B + 1]? = some (.loop (mk .ready)) ∧ W.heap[B]? = some (.deferred (some []))) (fun _ _ => False) wl lB (fun s W hs => ⟨hI s W _ none hs.1 (drew_grown W) (fun r e => by cases e), hs.2⟩) (fun s W hs => hInv s W hs.1) ?_ ⟨lI, lL, lD⟩).mono ?_
    · rintro pre x rest W hx ⟨hi, hl, hd⟩
      have hlt : B + 1 < W.heap.size := (Array.getElem?_eq_some_iff.1 hl).1
      have hy := run_yield (P := Try.prog) (args := encs x) hl (by rw [hmk]; exact hps x)
      rw [hmk] at hy
      refine yield_up (R := fun e W' => e = .returned (.bool true) ∧ I (pre ++ [x]) W' ∧ W'.heap[B + 1]? = some (.loop (mk .ready)) ∧ W'.heap[B]? = some (.deferred (some []))) ⟨fn, _, assign, body, hy, roundIn_of_wpIn hfn (hassign _ x W _ ⟨_, run_beginRound hl (by rw [hmk]), ?_⟩)⟩ (fun _ _ h => .inl h)
      have b1 : (W.putObj (B + 1) (.loop { mk .ready with state := .busy })).heap[B + 1]? = some (.loop { mk .ready with state := .busy }) := World.putObj_heap_same hlt
      have b2 : (W.putObj (B + 1) (.loop { mk .ready with state := .busy })).heap[B]? = some (.deferred (some [])) := (World.putObj_heap_other (by omega)).trans hd
      refine wpIn_mono (hbody _ pre x rest _ hx (hI.putObj _ hi (by omega) hl rfl)) ?_
      intro e a3 W3 hp
      cases e with
      | normal =>
        obtain ⟨hk, hi3⟩ := hp
        have c1 := hk.same _ _ b1 rfl
        have hr := run_endRound (P := Try.prog) none c1
        rw [hmk] at hr c1
        refine ⟨_, _, hr, rfl, hI.putObj _ hi3 (by omega) c1 rfl, ?_, (World.putObj_heap_other (by omega)).trans (hk.same _ _ b2 rfl)⟩
        rw [hmk]
        exact World.putObj_heap_same (Array.getElem?_eq_some_iff.1 c1).1
      | _ => exact hp.elim
    · rintro e W2 ⟨⟨v, rfl⟩, ⟨hi, hl, hd⟩ | ⟨_, _, hf⟩⟩
      rotate_left
      · exact hf.elim
      have hr := run_endLoop (P := Try.prog) hl (by rw [hmk]; simp)
      rw [hmk] at hr
      exact ⟨none, _, hr, hdone _ _ (by omega) (hI.putObj _ hi (by omega) hl rfl) ((World.putObj_heap_other (by omega)).trans hd)⟩

/-- the j-th stretch of p of a slice -/
abbrev encC (oa : Option Addr) (p : Nat) (j : Nat) : Array Value := #[.slice (oa.map (·.add (j * p))) p p]
/-- what Chunk reads -/
def ChI (Bs Bn : Nat) (oa : Option Addr) (e c p : Nat) (W : World) : Prop := W.cell? ⟨Bs, 0, none⟩ = some (.slice oa e c) ∧ W.cell? ⟨Bn, 0, none⟩ = some (.int .i64 ((p : Nat) : Int))
theorem range_split {j m : Nat} (h : j < m) : ∃ rest, List.range m = List.range j ++ j :: rest := by
  induction m with
  | zero => omega
  | succ m ih =>
    rcases Nat.lt_or_ge j m with h1 | h1
    · obtain ⟨rest, hr⟩ := ih h1
      exact ⟨rest ++ [m], by rw [List.range_succ, hr, List.append_assoc]; rfl⟩
    · obtain rfl : j = m := by omega
      exact ⟨[], List.range_succ⟩
set_option maxRecDepth 100000 in
theorem slice_three (oa : Option Addr) (n cap l q : Nat) (hq : 0 < q) (hh : l + q ≤ cap) (W : World) : (Instr.slice 30 (.slice oa n cap) (some (.int .i64 (l : Int))) (some (.int .i64 ((l : Int) + (q : Int)))) (some (.int .i64 ((l : Int) + (q : Int))))).run Try.prog W = .ok (.slice (oa.map (·.add l)) q q) W := by
  rw [run_slice_lhm W _ _ n cap Try.underlying30 .i64 .i64 .i64 (l : Int) ((l : Int) + (q : Int)) ((l : Int) + (q : Int)) (by omega) (by omega) (by omega) (by omega)]
  have hs : (sizeOf (Try.prog.elem 30)).run Try.prog W = .ok 1 W := by kernel_rfl
  rw [hs]
  simp only [Result.andThen_ok, sliced, Int.toNat_natCast, Nat.mul_one]
  rw [show ((l : Int) + (q : Int)).toNat = l + q by omega, Nat.add_sub_cancel_left, if_neg (by omega)]
set_option maxRecDepth 100000 in
set_option maxHeartbeats 2000000 in
theorem chunk1_in (n l Bs Bn : Nat) (hn : 1 ≤ n) (oa : Option Addr) (m p e c : Nat) (hp : 0 < p) (he : e = m * p) (he64 : e ≤ 64) (hc : e ≤ c) (J Jx : List Nat → World → Prop) (hJd : ∀ s W, J s W → J s W.drew) (hJi : ∀ s W, J s W → ChI Bs Bn oa e c p W)
    (hY : ∀ (pre : List Nat) (x : Nat) (rest : List Nat) (W : World), List.range m = pre ++ x :: rest → J pre W → YieldAt Fence.wide (n - 1) Try.prog l (encC oa p x) W fun e W' => (e = .returned (.bool true) ∧ J (pre ++ [x]) W') ∨ (e = .returned (.bool false) ∧ Jx (pre ++ [x]) W'))
    (W : World) (h0 : J [] W) :
    CallsIn Fence.wide n Try.prog 43 #[.func (.yield l) #[] #[], .pointer (some ⟨Bs, 0, none⟩), .pointer (some ⟨Bn, 0, none⟩)] W fun e W' => (∃ v, e = .returned v) ∧ (J (List.range m) W' ∨ ∃ pre, pre <+: List.range m ∧ Jx pre W') := by
  refine callsIn_of_wp Try.func43 rfl trivial ?_ rfl
  simp only [Try.ntmps43, List.size_toArray, List.length_cons, List.length_nil, Nat.reduceAdd, Nat.reduceSub, Array.replicate_succ, Array.replicate_zero, List.push_toArray, List.append_toArray, List.nil_append, List.cons_append]
  have HY := Lib.hid hY
  have HE := Lib.hid he
  have HJD := Lib.hid hJd
  have HJI := Lib.hid hJi
  clear hY he hJd hJi
  gi_wp2
  gi_loopw [4] (fun v wr => ∃ j s : Nat, v = .int .i64 (s : Int) ∧ j ≤ m ∧ s = j * p ∧ s ≤ e ∧ J (List.range j) wr)
    (fun v _ => e - (intOf v).toNat)
  case atStart =>
    exact ⟨0, 0, rfl, by omega, by omega, by omega, h0⟩
  case round =>
    obtain ⟨j, s, rfl, hj, hs, hse, hJs⟩ := hrel
    obtain ⟨hcs, hcn⟩ := HJI.out _ _ hJs
    by_cases hjm : j < m
    · have hsp : s + p ≤ e := by
        rw [hs, HE.out]
        have := Nat.mul_le_mul_right p (show j + 1 ≤ m from hjm)
        rw [Nat.add_mul, Nat.one_mul] at this
        exact this
      have HJ1 := Lib.hid (HJD.out _ _ hJs)
      have HS := Lib.hid hs
      have h1 := slice_on oa e c s (by omega) hc
      have h2 := slice_three oa e c s p hp (by omega)
      obtain ⟨rest, hrest⟩ := range_split hjm
      obtain ⟨fn, tmps, assign, body, hyl, hRy⟩ := HY.out (List.range j) j rest wr.drew hrest HJ1.out
      dsimp only [encC] at hyl
      rw [← hs] at hyl
      have hcs' : wr.drew.cell? ⟨Bs, 0, none⟩ = some (.slice oa e c) := hcs
      have hcn' : wr.drew.cell? ⟨Bn, 0, none⟩ = some (.int .i64 (p : Int)) := hcn
      have hmin : min (p : Int) ((e - s : Nat) : Int) = (p : Int) := by omega
      have hlt : (s : Int) < (e : Int) := by omega
      clear hs
      gi_wp2
      refine region_wide (S := fun W' => W' = wr.drew) (by kernel_rfl) rfl (fun hHeld0 => ?_)
      apply takeH (i := 0) rfl (by kernel_rfl) (by kernel_rfl) (by kernel_rfl) (fun _ _ _ h => h) (by rfl)
      case hy => (intro w hSw; subst hSw; go_simp; try with_reducible rfl)
      case hS => assumption
      (try simp only [Act.put, List.setIfInBounds_toArray, List.set_cons_zero, List.set_cons_succ])
      apply takeH (i := 1) rfl (by kernel_rfl) (by kernel_rfl) (by kernel_rfl) (fun _ _ _ h => h) (by rfl)
      case hy => (intro w hSw; subst hSw; go_simp; try with_reducible rfl)
      case hS => assumption
      (try simp only [Act.put, List.setIfInBounds_toArray, List.set_cons_zero, List.set_cons_succ])
      apply takeH (i := 2) rfl (by kernel_rfl) (by kernel_rfl) (by kernel_rfl) (fun _ _ _ h => h) (by rfl)
      case hy => (intro w hSw; subst hSw; go_simp; try with_reducible rfl)
      case hS => assumption
      (try simp only [Act.put, List.setIfInBounds_toArray, List.set_cons_zero, List.set_cons_succ])
      apply takeH (i := 3) rfl (by kernel_rfl) (by kernel_rfl) (by kernel_rfl) (fun _ _ _ h => h) (by rfl)
      case hy => (intro w hSw; subst hSw; go_simp; try with_reducible rfl)
      case hS => assumption
      (try simp only [Act.put, List.setIfInBounds_toArray, List.set_cons_zero, List.set_cons_succ])
      apply takeH (i := 4) rfl (by kernel_rfl) (by kernel_rfl) (by kernel_rfl) (fun _ _ _ h => h) (by rfl)
      case hy => (intro w hSw; subst hSw; go_simp; try with_reducible rfl)
      case hS => assumption
      (try simp only [Act.put, List.setIfInBounds_toArray, List.set_cons_zero, List.set_cons_succ])
      apply takeH (i := 5) rfl (by kernel_rfl) (by kernel_rfl) (by kernel_rfl) (fun _ _ _ h => h) (by rfl)
      case hy => (intro w hSw; subst hSw; go_simp; try with_reducible rfl)
      case hS => assumption
      (try simp only [Act.put, List.setIfInBounds_toArray, List.set_cons_zero, List.set_cons_succ])
      apply takeH (i := 6) rfl (by kernel_rfl) (by kernel_rfl) (by kernel_rfl) (fun _ _ _ h => h) (by rfl)
      case hy => (intro w hSw; subst hSw; go_simp; try with_reducible rfl)
      case hS => assumption
      (try simp only [Act.put, List.setIfInBounds_toArray, List.set_cons_zero, List.set_cons_succ])
      refine wpAnyH_done (by kernel_rfl) ?_ _
      simp only [onlyN]
      clear hHeld0
      gi_wp2
      refine hRy.mono ?_
      clear hcs hcn hcs' hcn'
      rintro e' W3 (⟨rfl, hJ3⟩ | ⟨rfl, hJ3⟩)
      · obtain ⟨hcs, hcn⟩ := HJI.out _ _ hJ3
        gi_wp2
        go_roundw
        case rel => exact ⟨j + 1, s + p, by go_num, by omega, by rw [HS.out, Nat.add_mul, Nat.one_mul], hsp, by rw [List.range_succ]; exact hJ3⟩
        case measure => simp [intOf]; omega
      · gi_wp2
        refine bodyPost_ret (results_none rfl _ _ _) rfl ?_
        exact ⟨⟨_, rfl⟩, .inr ⟨_, ⟨rest, by rw [hrest, List.append_assoc]; rfl⟩, hJ3⟩⟩
    · have hes : s = e := by
        have hjm2 : j = m := by omega
        rw [hs, HE.out, hjm2]
      have hlt : ¬ (s : Int) < (e : Int) := by omega
      have hJm : J (List.range m) wr := by
        have hjm2 : j = m := by omega
        rw [← hjm2]
        exact hJs
      clear hs hes HY
      gi_wp2
      go_end0
      exact ⟨⟨_, rfl⟩, .inl hJm⟩
theorem chunk1_hands (n Bs Bn : Nat) (hn : 1 ≤ n) (oa : Option Addr) (m p e c : Nat) (hp : 0 < p) (he : e = m * p) (he64 : e ≤ 64) (hc : e ≤ c) (w : World) :
    HandsI (ChI Bs Bn oa e c p) n 43 #[.pointer (some ⟨Bs, 0, none⟩), .pointer (some ⟨Bn, 0, none⟩)] (encC oa p) (List.range m) w := fun l J Jx W _ hJd hJi hY h0 =>
  chunk1_in n l Bs Bn hn oa m p e c hp he he64 hc J Jx hJd hJi hY W h0
set_option maxRecDepth 100000 in
theorem chunk_in (n : Nat) (oa : Option Addr) (e c p : Nat) (hp : 0 < p) (hp64 : p ≤ 64) (w : World) : CallsIn Fence.wide n Try.prog 33 #[.slice oa e c, .int .i64 (p : Int)] w fun r w' =>
    r = .returned (.func (.func 43) #[] #[.pointer (some ⟨w.heap.size, 0, none⟩), .pointer (some ⟨w.heap.size + 1, 0, none⟩)]) ∧ (w.alloc (.cells #[.slice oa e c] 30)).alloc (.cells #[.int .i64 (p : Int)] 3) = w' := by
  refine callsIn_wide.2 ?_
  have hp1 : ¬ (p : Int) < 1 := by omega
  go_enter Try.func33, Try.ntmps33
  go_wp2
  go_ret
  exact ⟨rfl, rfl⟩
set_option maxRecDepth 100000 in
theorem leaves_any (l Q : Nat) (hl : l ≤ 3) (hQ : 4 ^ l = Q) (w : World) : Calls Try.prog 32 #[.int .i64 (l : Int)] w fun e w' => e = .returned (.int .i64 (Q : Int)) ∧ w' = w := by
  have HQQ := Lib.hid hQ
  clear hQ
  go_enter Try.func32, Try.ntmps32
  go_wp2
  go_loop [3, 5] (fun p i => ∃ k q : Nat, i = .int .i64 (k : Int) ∧ k ≤ l ∧ q = 4 ^ k ∧ p = .int .i64 (q : Int)) (fun _ i => l - (intOf i).toNat)
  case atStart => exact ⟨0, 1, rfl, by omega, rfl, rfl⟩
  case round =>
    obtain ⟨k, q, rfl, hk, hq, rfl⟩ := hrel
    have HQ := Lib.hid hq
    have hq2 : q ≤ 64 := by
      rw [hq]
      exact Nat.le_trans (Nat.pow_le_pow_right (by decide) (show k ≤ 3 by omega)) (by decide)
    clear hq
    by_cases hlt : k < l
    · go_wp2
      go_round
      case rel => exact ⟨k + 1, q * 4, by go_num, by omega, by rw [HQ.out, Nat.pow_succ], by go_num⟩
      case measure => simp [intOf]; omega
    · have HK := Lib.hid (show q = Q by rw [HQ.out, show k = l by omega, HQQ.out])
      clear HQQ HQ
      go_wp2
      go_ret
      exact ⟨by rw [← HK.out]; rfl, rfl⟩
end Go.Proofs.Ytpapmcdnaplmkaa

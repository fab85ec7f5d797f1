/-
  sha.Make: the iterator over primes, and the table.
-/
import Derived.Test.YtjmjkcgldencoaaFrac
import Derived.RangeFuncNested
import Derived.RangeFuncBound
import Derived.RangeFuncCalls
import Derived.RangeFuncLeaves
import Derived.Shelf.RegionOpen
import Derived.OwnWalkIn
import Derived.TacticsInMore
import Derived.LoopNIn
import Derived.LoopIn
namespace Go.Proofs.Ytjmjkcgldencoaa
open Go.RowKit Go.Shelf
attribute [local go_sem] Oper.semAt_some

/-- how many primes lie below m -/
def pc (m : Nat) : Nat := (List.range m).countP fun j => decide (2 ≤ j) && isP j
theorem pc_yes {m : Nat} (h2 : 2 ≤ m) (h : isP m = true) : pc (m + 1) = pc m + 1 := by
  unfold pc
  rw [List.range_succ, List.countP_append]
  simp [h2, h]
theorem pc_no {m : Nat} (h : isP m = false) : pc (m + 1) = pc m := by
  unfold pc
  rw [List.range_succ, List.countP_append]
  simp [h]
/-- the first primes -/
def prs : List Nat := (List.range 312).filter fun j => decide (2 ≤ j) && isP j
def pr (i : Nat) : Nat := prs.getD i 0
theorem pr_facts : ((List.range 313).all fun m => decide (m < 2) || (decide (64 ≤ pc m) || (decide (m ≤ 311) && (!isP m || decide (pr (pc m) = m))))) = true := by decide +kernel
theorem pr_of {m : Nat} (h2 : 2 ≤ m) (hm : m ≤ 312) (h : pc m < 64) : m ≤ 311 ∧ (isP m = true → pr (pc m) = m) := by
  have := List.all_eq_true.1 pr_facts m (List.mem_range.2 (by omega))
  simp only [Bool.or_eq_true, decide_eq_true_eq, Bool.and_eq_true, Bool.not_eq_true'] at this
  rcases this with h' | h' | ⟨h', h''⟩
  · omega
  · omega
  · refine ⟨h', fun hp => ?_⟩
    rcases h'' with h'' | h''
    · rw [hp] at h''; cases h''
    · exact h''
theorem pr_le : ((List.range 64).all fun i => decide (pr i ≤ 1000)) = true := by decide +kernel
theorem pc_le : ((List.range 313).all fun m => decide (pc m ≤ 64)) = true := by decide +kernel

abbrev encs (x : Fin 64) : Array Value := #[.int .i64 ((x.1 : Nat) : Int), .int .u64 ((pr x.1 : Nat) : Int)]

/-- the first k of all sixty-four -/
def upto (k : Nat) : List (Fin 64) := (List.finRange 64).take k
theorem upto_succ (k : Nat) (h : k < 64) : upto (k + 1) = upto k ++ [⟨k, h⟩] := by
  unfold upto
  rw [List.take_succ_eq_append_getElem (by simpa using h)]
  simp

def keepsCell (b : Nat) (W W' : World) : Prop := W'.cell? ⟨b, 0, none⟩ = W.cell? ⟨b, 0, none⟩

set_option maxRecDepth 100000 in
set_option maxHeartbeats 1000000 in
theorem primes1_in (n l Bn : Nat) (hn : 1 ≤ n) (J Jx : List (Fin 64) → World → Prop)
    (hY : ∀ pre x W, J pre W → pre.length < 64 → YieldAt Fence.wide (n - 1) Try.prog l (encs x) W fun e W' =>
      (e = .returned (.bool true) ∧ J (pre ++ [x]) W' ∧ keepsCell Bn W W') ∨ (e = .returned (.bool false) ∧ Jx (pre ++ [x]) W'))
    (W : World) (hB : W.cell? ⟨Bn, 0, none⟩ = some (.int .i64 64)) (h0 : J [] W) :
    CallsIn Fence.wide n Try.prog 23 #[.func (.yield l) #[] #[], .pointer (some ⟨Bn, 0, none⟩)] W fun e W' => (∃ v, e = .returned v) ∧
      ((∃ ys, ys = upto 64 ∧ J ys W') ∨ (∃ pre, True ∧ Jx pre W')) := by
  refine callsIn_of_wp Try.func23 rfl trivial ?_ rfl
  simp only [Try.ntmps23, List.size_toArray, List.length_cons, List.length_nil, Nat.reduceAdd, Nat.reduceSub, Array.replicate_succ, Array.replicate_zero, List.push_toArray, List.append_toArray, List.nil_append, List.cons_append]
  have HY := Lib.hid hY
  clear hY
  gi_wp2
  gi_loopw [3, 4] (fun f m wr => ∃ k : Nat, 2 ≤ k ∧ k ≤ 312 ∧ f = .int .i64 ((pc k : Nat) : Int) ∧ m = .int .u64 (k : Int) ∧ wr.cell? ⟨Bn, 0, none⟩ = some (.int .i64 64) ∧ J (upto (pc k)) wr)
    (fun _ m _ => 313 - (intOf m).toNat)
  case atStart =>
    exact ⟨2, by omega, by omega, by rfl, rfl, hB, h0⟩
  case round =>
    obtain ⟨k, h2, hk, rfl, rfl, hBr, hJs⟩ := hrel
    by_cases hlt : pc k < 64
    · obtain ⟨h311, hpk⟩ := pr_of h2 hk hlt
      obtain ⟨b, hb⟩ : ∃ b, isP k = b := ⟨_, rfl⟩
      have HB := Lib.hid hb
      have HP := Lib.hid hpk
      clear hb hpk
      have hlt' : (pc k : Int) < 64 := by omega
      cases b
      · have HN := Lib.hid (pc_no HB.out)
        gi_wp2_with fail
        refine ⟨trivial, ?_⟩
        refine (callsIn_wide.2 (isPrime_any k (by omega) _)).mono ?_
        rintro e w' ⟨rfl, rfl⟩
        rw [HB.out]
        gi_wp2
        go_roundw
        case rel => exact ⟨k + 1, by omega, by omega, by rw [HN.out], by go_num, hBr, by rw [HN.out]; exact hJs⟩
        case measure => simp [intOf]; omega
      · obtain ⟨fn, tmps, assign, body, hy, hR⟩ := HY.out (upto (pc k)) ⟨pc k, hlt⟩ wr hJs (by simp [upto]; omega)
        dsimp only [encs] at hy
        rw [HP.out HB.out] at hy
        have HN := Lib.hid (pc_yes h2 HB.out)
        have HU := Lib.hid (upto_succ (pc k) hlt)
        gi_wp2_with fail
        refine ⟨trivial, ?_⟩
        refine (callsIn_wide.2 (isPrime_any k (by omega) _)).mono ?_
        rintro e w' ⟨rfl, rfl⟩
        rw [HB.out]
        gi_wp2
        refine hR.mono ?_
        rintro e W3 (⟨rfl, hJ3, hk3⟩ | ⟨rfl, hJx3⟩)
        · have hc3 : W3.cell? ⟨Bn, 0, none⟩ = some (.int .i64 64) := by rw [hk3]; exact hBr
          have HK := Lib.hid hk3
          clear hk3
          gi_wp2
          go_roundw
          case rel => exact ⟨k + 1, by omega, by omega, by rw [HN.out]; go_num, by go_num, hc3, by rw [HN.out, HU.out]; exact hJ3⟩
          case measure => simp [intOf]; omega
        · gi_wp2
          refine bodyPost_ret (results_none rfl _ _ _) rfl ?_
          exact ⟨⟨_, rfl⟩, .inr ⟨_, trivial, hJx3⟩⟩
    · have h64 : pc k ≤ 64 := by
        have := List.all_eq_true.1 pc_le k (List.mem_range.2 (by omega))
        simpa using this
      have he : pc k = 64 := by omega
      rw [he] at hJs ⊢
      have hlt' : ¬ ((64 : Nat) : Int) < 64 := by omega
      clear hlt h64 he
      gi_wp2
      go_end0
      first | exact ⟨⟨_, rfl⟩, .inl hJs⟩ | exact ⟨⟨_, rfl⟩, .inl ⟨_, rfl, hJs⟩⟩

theorem primes1_stops (n Bn : Nat) (hn : 1 ≤ n) (w : World) (hBn : Bn < w.heap.size) (hB : w.cell? ⟨Bn, 0, none⟩ = some (.int .i64 64)) :
    SeqStopsK Fence.wide n Try.prog 23 #[.pointer (some ⟨Bn, 0, none⟩)] encs (keepsCell Bn) (fun xs => xs = upto 64) (fun _ => True) 64 w := fun l J Jx W hW _ _ hY h0 =>
  primes1_in n l Bn hn J Jx hY W ((hW.cell (p := ⟨Bn, 0, none⟩) hBn).trans hB) h0
end Go.Proofs.Ytjmjkcgldencoaa

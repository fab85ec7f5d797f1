/-
  slices.Backward over texts.
-/
import Derived.Test.YtmokkahkfmmnmaaMake
import Derived.Test.YtmokkahkfmmnmaaTxt
namespace Go.Proofs.Ytmokkahkfmmnmaa
open Go.RowKit Go.Shelf
attribute [local go_sem] Oper.semAt_some

/-- the first k of all m, from the last on -/
def dnM (m k : Nat) : List (Fin m) := (List.finRange m).reverse.take k
theorem dnM_succ (m k : Nat) (h : k < m) : dnM m (k + 1) = dnM m k ++ [⟨m - 1 - k, by omega⟩] := by
  unfold dnM
  rw [List.take_succ_eq_append_getElem (by simpa using h)]
  simp
theorem dnM_len (m k : Nat) (h : k ≤ m) : (dnM m k).length = k := by simp [dnM]; omega
abbrev encsM (m : Nat) (V : Nat → ByteArray) (x : Fin m) : Array Value := #[.int .i64 ((x.1 : Nat) : Int), .string (V x.1)]
def keepsBoth (b g : Nat) (W W' : World) : Prop := ∀ a : Addr, a.block = b ∨ a.block = g → W'.cell? a = W.cell? a
theorem keepsBoth_t {b g : Nat} {A B C : World} (h : keepsBoth b g A B) (k : keepsBoth b g B C) : keepsBoth b g A C := fun a ha => (k a ha).trans (h a ha)
theorem keepsBoth_b {b g : Nat} {w : World} (hb : b < w.heap.size) (hg : g < w.heap.size) (W : World) (l : Nat) (o o' : Obj) (hl : w.heap.size ≤ l) (_ : W.heap[l]? = some o) (_ : o.isCells = false) (_ : o.isWalk = false) : keepsBoth b g W (W.putObj l o') :=
  fun a ha => World.cell?_of_block (w := W) (World.putObj_heap_other (by rcases ha with h | h <;> omega))
set_option maxRecDepth 100000 in
set_option maxHeartbeats 1000000 in
theorem backM_in (n l m Bn gr cap : Nat) (hn : 1 ≤ n) (hm : m ≤ 1048576) (V : Nat → ByteArray) (J Jx : List (Fin m) → World → Prop)
    (hY : ∀ pre x W, J pre W → pre.length < m → YieldAt Fence.wide (n - 1) Try.prog l (encsM m V x) W fun e W' =>
      (e = .returned (.bool true) ∧ J (pre ++ [x]) W' ∧ keepsBoth Bn gr W W') ∨ (e = .returned (.bool false) ∧ Jx (pre ++ [x]) W'))
    (W : World) (hB : W.cell? ⟨Bn, 0, none⟩ = some (.slice (some ⟨gr, 0, none⟩) m cap)) (hR : ∀ i, i < m → W.cell? ⟨gr, i, none⟩ = some (.string (V i))) (h0 : J [] W) :
    CallsIn Fence.wide n Try.prog 49 #[.func (.yield l) #[] #[], .pointer (some ⟨Bn, 0, none⟩)] W fun e W' => (∃ v, e = .returned v) ∧
      ((∃ ys, ys = dnM m m ∧ J ys W') ∨ (∃ pre, True ∧ Jx pre W')) := by
  refine callsIn_of_wp Try.func49 rfl trivial ?_ rfl
  simp only [Try.ntmps49, List.size_toArray, List.length_cons, List.length_nil, Nat.reduceAdd, Nat.reduceSub, Array.replicate_succ, Array.replicate_zero, List.push_toArray, List.append_toArray, List.nil_append, List.cons_append]
  have HY := Lib.hid hY
  have HR := Lib.hid hR
  clear hY hR
  gi_wp2
  gi_loopw [3] (fun v wr => ∃ k : Nat, k ≤ m ∧ v = .int .i64 (((m : Int) - 1 - (k : Int))) ∧ wr.cell? ⟨Bn, 0, none⟩ = some (.slice (some ⟨gr, 0, none⟩) m cap) ∧ (∀ i, i < m → wr.cell? ⟨gr, i, none⟩ = some (.string (V i))) ∧ J (dnM m k) wr)
    (fun v _ => ((intOf v) + 1).toNat)
  case atStart =>
    exact ⟨0, by omega, by simp, hB, HR.out, h0⟩
  case round =>
    obtain ⟨k, hk, rfl, hBr, hRr, hJs⟩ := hrel
    by_cases hlt : k < m
    · obtain ⟨j, hj⟩ : ∃ j, m - 1 - k = j := ⟨_, rfl⟩
      have hj1 : (m : Int) - 1 - (k : Int) = (j : Int) := by omega
      rw [hj1]
      have hjm : j < m := by omega
      obtain ⟨fn, tmps, assign, body, hy, hRy⟩ := HY.out (dnM m k) ⟨j, hjm⟩ wr hJs (by rw [dnM_len m k hk]; exact hlt)
      dsimp only [encsM] at hy
      have HU := Lib.hid (show dnM m (k + 1) = dnM m k ++ [⟨j, hjm⟩] by rw [dnM_succ m k hlt]; simp [hj])
      have hcj := hRr j hjm
      have hj3 : (j : Int) < (m : Int) := by omega
      have HRr := Lib.hid hRr
      clear hRr
      gi_wp2
      refine hRy.mono ?_
      rintro e W3 (⟨rfl, hJ3, hk3⟩ | ⟨rfl, hJx3⟩)
      · have hc3 : W3.cell? ⟨Bn, 0, none⟩ = some (.slice (some ⟨gr, 0, none⟩) m cap) := (hk3 ⟨Bn, 0, none⟩ (.inl rfl)).trans hBr
        have HR3 : Hid (∀ i, i < m → W3.cell? ⟨gr, i, none⟩ = some (.string (V i))) := Lib.hid fun i hi => (hk3 ⟨gr, i, none⟩ (.inr rfl)).trans (HRr.out i hi)
        clear hk3 hBr hcj
        gi_wp2
        go_roundw
        case rel => exact ⟨k + 1, by omega, by go_num, hc3, HR3.out, by rw [HU.out]; exact hJ3⟩
        case measure => simp [intOf]
      · gi_wp2
        refine bodyPost_ret (results_none rfl _ _ _) rfl ?_
        exact ⟨⟨_, rfl⟩, .inr ⟨_, trivial, hJx3⟩⟩
    · obtain rfl : k = m := by omega
      rw [show (k : Int) - 1 - (k : Int) = -1 by omega]
      clear hlt hk
      gi_wp2
      go_end0
      first | exact ⟨⟨_, rfl⟩, .inl hJs⟩ | exact ⟨⟨_, rfl⟩, .inl ⟨_, rfl, hJs⟩⟩
theorem backM_stops (n m Bn gr cap : Nat) (hn : 1 ≤ n) (hm : m ≤ 1048576) (V : Nat → ByteArray) (w : World) (hBn : Bn < w.heap.size) (hg : gr < w.heap.size) (hB : w.cell? ⟨Bn, 0, none⟩ = some (.slice (some ⟨gr, 0, none⟩) m cap)) (hR : ∀ i, i < m → w.cell? ⟨gr, i, none⟩ = some (.string (V i))) :
    SeqStopsK Fence.wide n Try.prog 49 #[.pointer (some ⟨Bn, 0, none⟩)] (encsM m V) (keepsBoth Bn gr) (fun xs => xs = dnM m m) (fun _ => True) m w := fun l J Jx W hW _ _ hY h0 =>
  backM_in n l m Bn gr cap hn hm V J Jx hY W ((hW.cell (p := ⟨Bn, 0, none⟩) hBn).trans hB) (fun i hi => (hW.cell (p := ⟨gr, i, none⟩) hg).trans (hR i hi)) h0
set_option maxRecDepth 100000 in
theorem backwardM_in (n : Nat) (v : Value) (w : World) (hv : ∃ oa l c, v = .slice oa l c) : CallsIn Fence.wide n Try.prog 32 #[v] w fun e w' =>
    e = .returned (.func (.func 49) #[] #[.pointer (some ⟨w.heap.size, 0, none⟩)]) ∧ w.alloc (.cells #[v] 22) = w' := by
  obtain ⟨oa, l, c, rfl⟩ := hv
  refine callsIn_wide.2 ?_
  go_enter Try.func32, Try.ntmps32
  go_wp2
  go_ret
  exact ⟨rfl, rfl⟩
end Go.Proofs.Ytmokkahkfmmnmaa

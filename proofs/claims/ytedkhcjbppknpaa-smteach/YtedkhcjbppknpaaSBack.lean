/-
  slices.Backward over 256 texts.
-/
import Derived.Test.YtedkhcjbppknpaaTable
import Derived.Test.YtedkhcjbppknpaaTxt
namespace Go.Proofs.Ytedkhcjbppknpaa
open Go.RowKit Go.Shelf
attribute [local go_sem] Oper.semAt_some

/-- the first k of all 256, from the last on -/
def dn (k : Nat) : List (Fin 256) := (List.finRange 256).reverse.take k
theorem dn_succ (k : Nat) (h : k < 256) : dn (k + 1) = dn k ++ [⟨255 - k, by omega⟩] := by
  unfold dn
  rw [List.take_succ_eq_append_getElem (by simpa using h)]
  simp
theorem dn_len (k : Nat) (h : k ≤ 256) : (dn k).length = k := by simp [dn]; omega
abbrev encsB (V : Nat → ByteArray) (x : Fin 256) : Array Value := #[.int .i64 ((x.1 : Nat) : Int), .string (V x.1)]
def keepsTwo (b g : Nat) (W W' : World) : Prop := ∀ a : Addr, a.block = b ∨ a.block = g → W'.cell? a = W.cell? a
theorem keepsTwo_t {b g : Nat} {A B C : World} (h : keepsTwo b g A B) (k : keepsTwo b g B C) : keepsTwo b g A C := fun a ha => (k a ha).trans (h a ha)
theorem keepsTwo_b {b g : Nat} {w : World} (hb : b < w.heap.size) (hg : g < w.heap.size) (W : World) (l : Nat) (o o' : Obj) (hl : w.heap.size ≤ l) (_ : W.heap[l]? = some o) (_ : o.isCells = false) (_ : o.isWalk = false) : keepsTwo b g W (W.putObj l o') :=
  fun a ha => World.cell?_of_block (w := W) (World.putObj_heap_other (by rcases ha with h | h <;> omega))
set_option maxRecDepth 100000 in
set_option maxHeartbeats 1000000 in
theorem back1_in (n l Bn gr cap : Nat) (hn : 1 ≤ n) (V : Nat → ByteArray) (J Jx : List (Fin 256) → World → Prop)
    (hY : ∀ pre x W, J pre W → pre.length < 256 → YieldAt Fence.wide (n - 1) Try.prog l (encsB V x) W fun e W' =>
      (e = .returned (.bool true) ∧ J (pre ++ [x]) W' ∧ keepsTwo Bn gr W W') ∨ (e = .returned (.bool false) ∧ Jx (pre ++ [x]) W'))
    (W : World) (hB : W.cell? ⟨Bn, 0, none⟩ = some (.slice (some ⟨gr, 0, none⟩) 256 cap)) (hR : ∀ i, i < 256 → W.cell? ⟨gr, i, none⟩ = some (.string (V i))) (h0 : J [] W) :
    CallsIn Fence.wide n Try.prog 68 #[.func (.yield l) #[] #[], .pointer (some ⟨Bn, 0, none⟩)] W fun e W' => (∃ v, e = .returned v) ∧
      ((∃ ys, ys = dn 256 ∧ J ys W') ∨ (∃ pre, True ∧ Jx pre W')) := by
  refine callsIn_of_wp Try.func68 rfl trivial ?_ rfl
  simp only [Try.ntmps68, List.size_toArray, List.length_cons, List.length_nil, Nat.reduceAdd, Nat.reduceSub, Array.replicate_succ, Array.replicate_zero, List.push_toArray, List.append_toArray, List.nil_append, List.cons_append]
  have HY := Lib.hid hY
  have HR := Lib.hid hR
  clear hY hR
  gi_wp2
  gi_loopw [3] (fun v wr => ∃ k : Nat, k ≤ 256 ∧ v = .int .i64 (255 - (k : Int)) ∧ wr.cell? ⟨Bn, 0, none⟩ = some (.slice (some ⟨gr, 0, none⟩) 256 cap) ∧ (∀ i, i < 256 → wr.cell? ⟨gr, i, none⟩ = some (.string (V i))) ∧ J (dn k) wr)
    (fun v _ => ((intOf v) + 1).toNat)
  case atStart =>
    exact ⟨0, by omega, by rfl, hB, HR.out, h0⟩
  case round =>
    obtain ⟨k, hk, rfl, hBr, hRr, hJs⟩ := hrel
    by_cases hlt : k < 256
    · obtain ⟨j, hj⟩ : ∃ j, 255 - k = j := ⟨_, rfl⟩
      have hj1 : (255 : Int) - (k : Int) = (j : Int) := by omega
      rw [hj1]
      have hj256 : j < 256 := by omega
      obtain ⟨fn, tmps, assign, body, hy, hRy⟩ := HY.out (dn k) ⟨j, hj256⟩ wr hJs (by rw [dn_len k hk]; exact hlt)
      dsimp only [encsB] at hy
      have HU := Lib.hid (show dn (k + 1) = dn k ++ [⟨j, hj256⟩] by rw [dn_succ k hlt]; simp [hj])
      have hcj := hRr j hj256
      have hj3 : (j : Int) < 256 := by omega
      have HRr := Lib.hid hRr
      clear hRr
      gi_wp2
      refine hRy.mono ?_
      rintro e W3 (⟨rfl, hJ3, hk3⟩ | ⟨rfl, hJx3⟩)
      · have hc3 : W3.cell? ⟨Bn, 0, none⟩ = some (.slice (some ⟨gr, 0, none⟩) 256 cap) := (hk3 ⟨Bn, 0, none⟩ (.inl rfl)).trans hBr
        have HR3 : Hid (∀ i, i < 256 → W3.cell? ⟨gr, i, none⟩ = some (.string (V i))) := Lib.hid fun i hi => (hk3 ⟨gr, i, none⟩ (.inr rfl)).trans (HRr.out i hi)
        clear hk3 hBr hcj
        gi_wp2
        go_roundw
        case rel => exact ⟨k + 1, by omega, by go_num, hc3, HR3.out, by rw [HU.out]; exact hJ3⟩
        case measure => simp [intOf]
      · gi_wp2
        refine bodyPost_ret (results_none rfl _ _ _) rfl ?_
        exact ⟨⟨_, rfl⟩, .inr ⟨_, trivial, hJx3⟩⟩
    · obtain rfl : k = 256 := by omega
      rw [show (255 : Int) - ((256 : Nat) : Int) = -1 from rfl]
      clear hlt hk
      gi_wp2
      go_end0
      first | exact ⟨⟨_, rfl⟩, .inl hJs⟩ | exact ⟨⟨_, rfl⟩, .inl ⟨_, rfl, hJs⟩⟩
theorem back1_stops (n Bn gr cap : Nat) (hn : 1 ≤ n) (V : Nat → ByteArray) (w : World) (hBn : Bn < w.heap.size) (hg : gr < w.heap.size) (hB : w.cell? ⟨Bn, 0, none⟩ = some (.slice (some ⟨gr, 0, none⟩) 256 cap)) (hR : ∀ i, i < 256 → w.cell? ⟨gr, i, none⟩ = some (.string (V i))) :
    SeqStopsK Fence.wide n Try.prog 68 #[.pointer (some ⟨Bn, 0, none⟩)] (encsB V) (keepsTwo Bn gr) (fun xs => xs = dn 256) (fun _ => True) 256 w := fun l J Jx W hW _ _ hY h0 =>
  back1_in n l Bn gr cap hn V J Jx hY W ((hW.cell (p := ⟨Bn, 0, none⟩) hBn).trans hB) (fun i hi => (hW.cell (p := ⟨gr, i, none⟩) hg).trans (hR i hi)) h0
set_option maxRecDepth 100000 in
theorem backward_in (n : Nat) (v : Value) (w : World) (hv : ∃ oa l c, v = .slice oa l c) : CallsIn Fence.wide n Try.prog 50 #[v] w fun e w' =>
    e = .returned (.func (.func 68) #[] #[.pointer (some ⟨w.heap.size, 0, none⟩)]) ∧ w.alloc (.cells #[v] 46) = w' := by
  obtain ⟨oa, l, c, rfl⟩ := hv
  refine callsIn_wide.2 ?_
  go_enter Try.func50, Try.ntmps50
  go_wp2
  go_ret
  exact ⟨rfl, rfl⟩
end Go.Proofs.Ytedkhcjbppknpaa

/-
  Layer 8: a slice of texts without its first; a struct and a bool as results.
-/
import Derived.Test.YtjdjndginacdnaaTxt
namespace Go.Proofs.Ytjdjndginacdnaa
open Go.RowKit

theorem add_addC (a : Addr) (k i : Nat) : (a.add k).add i = a.add (k + i) := by
  unfold Addr.add
  by_cases hk : k = 0
  · subst hk; simp
  · by_cases hi : i = 0
    · subst hi; simp
    · cases a with
      | mk b o s => cases s <;> simp [hk, hi, Nat.add_assoc]
def tailA (oa : Option Addr) (cap : Nat) : Option Addr := if cap = 1 then oa else oa.map (·.add 1)
set_option maxRecDepth 100000 in
theorem slice_one (oa : Option Addr) (n cap : Nat) (h1 : 1 ≤ n) (hn : n ≤ cap) (W : World) : (Instr.slice 60 (.slice oa n cap) (some (.int .i64 1)) none none).run Try.prog W = .ok (.slice (tailA oa cap) (n - 1) (cap - 1)) W := by
  rw [run_slice_l W _ _ n cap Try.underlying60 .i64 1 (by omega) (by omega)]
  have hs : (sizeOf (Try.prog.elem 60)).run Try.prog W = .ok 1 W := by kernel_rfl
  rw [hs]
  simp only [Result.andThen_ok, sliced, Nat.mul_one, tailA]
  rfl
theorem strs_tail {w : World} {oa : Option Addr} {x : ByteArray} {N : List ByteArray} {cap : Nat} (h : Strs w oa (x :: N)) (hc : N.length + 1 ≤ cap) : Strs w (tailA oa cap) N := by
  intro i hi
  obtain ⟨a, rfl, hb, hcell⟩ := h (1 + i) (by simp; omega)
  refine ⟨a.add 1, ?_, by rw [add_block]; exact hb, ?_⟩
  · unfold tailA; rw [if_neg (by omega)]; rfl
  · rw [add_addC, hcell, Nat.add_comm 1 i]; rfl
theorem results_grw {P : Program} {fn : Func} {p t : Tmp} {ty : TypeId} (h : fn.results = #[.cell p ty, .tmp t]) (tmps : Array Value) (w : World) (g : Nat) (tt : TypeId) (cs : Array Value) (d : TypeDesc)
    (hp : tmps.getD p undef = .pointer (some ⟨g, 0, none⟩)) (hg : w.heap[g]? = some (.cells cs tt (0, 0)))
    (hu : P.underlying ty = some d) (hd : (match d with | .struct _ | .array _ _ => true | _ => false) = true) (hi : (P.info? ty).map (·.size) = some cs.size) :
    (results fn tmps).run P w = .ok (.tuple #[.agg cs, tmps.getD t undef]) w := by
  have hl := run_loadVar_row (P := P) w g tt ty cs (0, 0) d hg hu hd hi
  have hp' : tmps[p]?.getD undef = .pointer (some ⟨g, 0, none⟩) := by simpa using hp
  simp [results, h, hp', asAddr, hl]
theorem Own.formL {w : World} {B : Nat} {v : Value} {ss : List ByteArray} (h : Own w B v ss) : ∃ oa cap, v = .slice oa ss.length cap ∧ Strs w oa ss ∧ ss.length ≤ cap := by
  obtain ⟨oa, cap, e, hs⟩ := h.form
  refine ⟨oa, cap, e, hs, ?_⟩
  rcases h.2 with ⟨hv, hn⟩ | ⟨g, cap', cur, hv, _, _, hc, _⟩
  · omega
  · rw [e] at hv; injection hv with _ _ h3; omega
end Go.Proofs.Ytjdjndginacdnaa

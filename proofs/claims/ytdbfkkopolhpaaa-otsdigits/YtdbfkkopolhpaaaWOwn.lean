/-
  A slice of texts that the call made.
-/
import Derived.Test.YtdbfkkopolhpaaaWStrs
namespace Go.Proofs.Ytdbfkkopolhpaaa
open Go.RowKit

theorem strInfo : (Try.prog.info? 9).map (fun i => (i.zero, i.size, i.bytes)) = some (some (.string ⟨#[]⟩), 1, 16) := by kernel_rfl
/-- a slice of texts that the call made -/
def Own (w : World) (B : Nat) (v : Value) (ss : List ByteArray) : Prop := w.ownsRow B 9 1 v ss.length (ss.map .string)
theorem Own.form {w : World} {B : Nat} {v : Value} {ss : List ByteArray} (h : Own w B v ss) : ∃ oa cap, v = .slice oa ss.length cap ∧ Strs w oa ss := by
  have h0 := h
  rcases h.2 with ⟨rfl, hn⟩ | ⟨g, cap, cur, rfl, hg, hk, hc1, hc2, hc3, hc4⟩
  · exact ⟨none, 0, by rw [hn], fun i hi => absurd hi (by omega)⟩
  · refine ⟨some ⟨g, 0, none⟩, cap, rfl, fun i hi => ⟨_, rfl, (show Blk w g 9 cur from hk).lt, ?_⟩⟩
    have := World.ownsRow.cells h0 (g := g) rfl i (.string (ss.getD i ByteArray.empty)) (by rw [List.getElem?_map, List.getElem?_eq_getElem hi, List.getD_eq_getElem?_getD, List.getElem?_eq_getElem hi]; rfl)
    exact this
theorem own_nil (w : World) (B : Nat) : Own w B (.slice none 0 0) [] := ⟨rfl, .inl ⟨rfl, rfl⟩⟩
end Go.Proofs.Ytdbfkkopolhpaaa

/-
  A signature that holds, the number at its front; two cells of a row.
-/
import Derived.Test.YtbkmclgddknijaaOVer2
namespace Go.Proofs.Ytbkmclgddknijaa
open Go.RowKit

theorem front_low {p m s : ByteArray} (h : verB p m s = true) : s.size = 2244 ∧ (nums s).getD 3 0 = frontB s := by
  obtain ⟨h1, h2, _⟩ := of_decide_eq_true h
  refine ⟨h1, ?_⟩
  unfold frontB at h2 ⊢
  omega
theorem signed_yes (seed : ByteArray) (q : Nat) (m : ByteArray) (hq : q < 8) : verV (nodeB seed 3 0) m (signB seed q m) = .returned (.tuple #[.int .i64 (q : Nat), .bool true]) := by
  have hf := sign_front seed q m hq
  rw [verV_yes (decide_eq_true ⟨signB_size seed q m, by rw [hf]; exact hq, by rw [hf]; exact sign_ver seed q m hq⟩), hf]
def pick2 {α : Type} (a b : α) (k : Nat) : α := if k = 0 then a else b
theorem cell2 {w : World} {g : Nat} {t : TypeId} {a b : Value} (h : Blk w g t #[a, b]) {k : Nat} (hk : k < 2) : w.cell? ⟨g, k, none⟩ = some (pick2 a b k) := by
  rw [h.cell]
  match k, hk with
  | 0, _ => rfl
  | 1, _ => rfl
theorem pick2_txt (a b : ByteArray) (k : Nat) : pick2 (Value.string a) (.string b) k = .string (pick2 a b k) := by unfold pick2; split <;> rfl
end Go.Proofs.Ytbkmclgddknijaa

/-
  Bytes of which one is otherwise.
-/
import Derived.Test.YtnbboabaihddbaaGreatBase
namespace Go.Proofs.YtnbboabaihddbaaGreat
open Go.RowKit

/-- []byte(s): its cells may be written -/
theorem run_bytes_row {P : Program} (w : World) (src dst e : TypeId) (s : ByteArray) (hs : P.underlying src = some .string) (hd : P.underlying dst = some (.slice e)) (he : P.underlying e = some (.int .u8)) :
    ∃ w' cap, (convert src dst (.string s)).run P w = .ok (.slice (some ⟨w.heap.size, 0, none⟩) s.size cap) w' ∧ s.size ≤ cap ∧ (∀ j, j < s.size → w'.cell? ⟨w.heap.size, j, none⟩ = some (U8 ((nums s).getD j 0)) ∧ w'.frozen? ⟨w.heap.size, j, none⟩ = false) ∧ w.heap.size < w'.heap.size ∧ Below w.heap.size w w' := by
  refine ⟨_, _, run_bytes_of_string (P := P) w src dst e s hs hd he, grownCap_ge w s.size 0 e, ?_, by show w.heap.size < (w.heap.push _).size; simp, ((Below.refl _ w).drew).alloc (Nat.le_refl _) _⟩
  have hge := grownCap_ge w s.size 0 e
  generalize grownCap w s.size 0 e = cap at *
  have hsz : (bytesRow s cap).size = cap := by simp [bytesRow]; omega
  have hblk : (w.drew.alloc (.cells (bytesRow s cap) e ((bytesRow s cap).size, (bytesRow s cap).size + 1))).heap[w.heap.size]? = some (.cells (bytesRow s cap) e ((bytesRow s cap).size, (bytesRow s cap).size + 1)) := heap_alloc_new w.drew _
  rw [hsz] at hblk ⊢
  have hcell : ∀ j, (w.drew.alloc (.cells (bytesRow s cap) e (cap, cap + 1))).cell? ⟨w.heap.size, j, none⟩ = (bytesRow s cap)[j]? := fun j => cell_of_row _ _ _ _ _ _ hblk
  intro j hj
  constructor
  · rw [hcell]
    unfold bytesRow
    rw [Array.getElem?_append_left (by simpa using hj)]
    simp [nums, U8, List.getD_eq_getElem?_getD, hj]
  · simp only [World.frozen?, hblk]
    simp
    omega
/-- the bytes, one of them otherwise -/
def bentB (s : ByteArray) (i y : Nat) : ByteArray := strN ((nums s).set i y)
theorem bentB_size (s : ByteArray) (i y : Nat) : (bentB s i y).size = s.size := by unfold bentB; rw [strN_size, List.length_set, nums_length]
theorem conv_bent (w : World) (g cap i y : Nat) (s : ByteArray) (hi : i < s.size) (hc : ∀ j, j < s.size → w.cell? ⟨g, j, none⟩ = some (U8 ((nums s).getD j 0))) (W : World) (hW : w.setCell ⟨g, i, none⟩ (.int .u8 (y : Int)) = W) :
    (convert 66 9 (.slice (some ⟨g, 0, none⟩) s.size cap)).run Tryz.prog W = .ok (.string (bentB s i y)) W := by
  subst hW
  have hl : ((nums s).set i y).length = s.size := by rw [List.length_set, nums_length]
  have := conv_cells (P := Tryz.prog) (w.setCell ⟨g, i, none⟩ (.int .u8 (y : Int))) 66 5 9 Tryz.underlying66 Tryz.underlying5 Tryz.underlying9 g cap ((nums s).set i y) (fun j hj => by
    rw [hl] at hj
    by_cases e : i = j
    · subst e
      rw [World.cell?_setCell_same' w ⟨g, i, none⟩ (.int .u8 (y : Int)) (by rw [hc i hi]; rfl), List.getD_eq_getElem?_getD, List.getElem?_set_self (by rw [nums_length]; exact hi)]
      rfl
    · rw [World.cell?_setCell_other _ _ _ _ (by intro h; injection h with _ h2; exact e h2), hc j hj, List.getD_eq_getElem?_getD, List.getD_eq_getElem?_getD, List.getElem?_set_ne e])
  rw [hl] at this
  exact this
theorem xor_byte (a : Nat) (ha : a < 256) (b : Nat) (hb : b < 256) : ∃ y : Nat, bits .xor .u8 (a : Int) (b : Int) = (y : Int) ∧ y < 256 :=
  ⟨a ^^^ b, u8_xor_nat a b ha hb, Nat.xor_lt_two_pow (n := 8) ha hb⟩
theorem half_load {w : World} {p : Addr} {x : Int} (h : w.cell? p = some (.int .u16 x)) : (loadVar 64 p).run Tryz.prog w = .ok (.int .u16 x) w := by
  go_simp
end Go.Proofs.YtnbboabaihddbaaGreat

/-
  What a tile that was cut reads as.
-/
import Derived.Test.YtpapmcdnaplmkaaTUp
import Derived.Test.YtpapmcdnaplmkaaMFew
import Derived.Deep.WholeRow
namespace Go.Proofs.Ytpapmcdnaplmkaa
open Go.RowKit

theorem few_sz7 {ss : List ByteArray} {k sz : Nat} (hk : k ≤ 300) (hsz : sz ≤ 1073741824) (h : fewM ss k sz = true) : ss.length ≤ k ∧ Sz ss :=
  ⟨(fewM_true hk h).1, fun x hx => Nat.le_trans ((fewM_true hk h).2 x hx) hsz⟩
theorem sz_leaves7 (ss : List ByteArray) : Sz (ss.map leafM) := by
  intro x hx
  obtain ⟨y, _, rfl⟩ := List.mem_map.1 hx
  show (hB _).size ≤ _
  rw [hB_size]
  decide
/-- a tile's hashes, none where it isn't there -/
def cutA (ss : List ByteArray) (level index : Int) : List ByteArray := cutL ss level.toNat index.toNat (widT ss.length level index)
theorem cutA_length (ss : List ByteArray) (level index : Int) : (cutA ss level index).length = widT ss.length level index := cutL_length _ _ _ _
theorem cutA_same (ss : List ByteArray) (k : Nat) (hk : k ≤ ss.length) (hm : ss.length ≤ 64) (level index : Int) : (cutA (ss.take k) level index).length ≤ (cutA ss level index).length ∧ ∀ i, i < (cutA (ss.take k) level index).length → (cutA (ss.take k) level index).getD i ByteArray.empty = (cutA ss level index).getD i ByteArray.empty := by
  have hl : (ss.take k).length = k := by rw [List.length_take]; omega
  have hmono := wid_mono hk hm level index
  rw [cutA_length, cutA_length, hl]
  refine ⟨hmono, fun j hj => ?_⟩
  unfold cutA
  rw [hl, cutL_get _ _ _ _ _ hj, cutL_get _ _ _ _ _ (by omega)]
  obtain ⟨l, i, wd, rfl, rfl, hwd, hl3, hi16, hwd0, hwd4, hww, hbd⟩ := wid_pos (show k ≤ 64 by omega) (show 0 < widT k level index by omega)
  rw [Int.toNat_natCast, Int.toNat_natCast]
  exact hash_same ss k l _ (Nat.le_trans (Nat.mul_le_mul_right _ (by omega)) hbd)
theorem rc_form {ss : List ByteArray} {level index : Int} {w : World} {e : Ending} {w' : World} (h : RC ss level index w e w') :
    ∃ (x y er : Int) (oa : Option Addr) (c : Nat), e = .returned (.tuple #[.agg #[.int .i64 x, .int .i64 y, .slice oa (cutA ss level index).length c], .int .i64 er]) ∧ Strs w' oa (cutA ss level index) ∧ (cutA ss level index).length ≤ c ∧ Below w.heap.size w w' ∧
      (widT ss.length level index = 0 → er = 5) ∧ (0 < widT ss.length level index → er = 0 ∧ x = level ∧ y = index) := by
  obtain ⟨h1, hb⟩ := h
  by_cases h0 : widT ss.length level index = 0
  · rw [if_pos h0] at h1
    have hl : (cutA ss level index).length = 0 := by rw [cutA_length, h0]
    exact ⟨0, 0, 5, none, 0, by rw [h1, hl], fun i hi => by omega, by omega, hb, fun _ => rfl, fun h => by omega⟩
  · rw [if_neg h0] at h1
    obtain ⟨v, rfl, hv⟩ := h1
    obtain ⟨oa, c, rfl, hs, hc⟩ := own_form7 hv
    exact ⟨level, index, 0, oa, c, rfl, hs, hc, hb, fun h => absurd h h0, fun _ => ⟨rfl, rfl, rfl⟩⟩
end Go.Proofs.Ytpapmcdnaplmkaa

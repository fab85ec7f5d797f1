/-
  The root of a map of pairs.
-/
import Derived.Test.YtjmjkcgldencoaaGreatSEnt2
namespace Go.Proofs.YtjmjkcgldencoaaGreat
open Go.RowKit Go.Maps

theorem ents_fit {w : World} {b : Nat} {ps : List (ByteArray × ByteArray)} (h : MapAt w b ps) (hF : FitP ps) : Fit (entsD (madeL ps)) := by
  intro x hx
  obtain ⟨k, hk, rfl⟩ := List.mem_map.1 hx
  have hv : (valD (madeL ps) k).size ≤ 250 := by
    unfold valD
    rw [made_at]
    cases hl : lookP ps k with
    | none => exact Nat.zero_le _
    | some v =>
      show (⟨v.data.toList.toArray⟩ : ByteArray).size ≤ 250
      rw [of_toList]
      exact (hF _ (look_some hl)).2
  have hk2 : k ∈ keysD (madeL ps) := (List.mergeSort_perm (keysD (madeL ps)) _).mem_iff.1 hk
  obtain ⟨l, hl, rfl⟩ := List.mem_map.1 hk2
  obtain ⟨es, hD, hko⟩ := World.ownsMap.keysOf h
  rw [hD] at hl
  obtain ⟨p, hp, rfl⟩ := List.mem_map.1 hl
  obtain ⟨key, hkey⟩ := hko p hp
  obtain ⟨x', _, hx', _⟩ := Maps.keyOf_str Tryz.underlying9 hkey
  have hlit : litK (⟨(strOf p.1).toArray⟩ : ByteArray) = p.1 := by rw [hx']; simp [litK, strOf]
  have hh : has (madeL ps) (litK (⟨(strOf p.1).toArray⟩ : ByteArray)) = true := by
    rw [hD, has_eq, List.any_eq_true]
    exact ⟨p, hp, by rw [hlit, hx']; simp [Lit.sameKey]⟩
  have := made_fit hF hh
  exact ⟨Nat.le_trans this (by decide), Nat.le_trans hv (by decide)⟩
theorem MapAt.below {w w' : World} {b : Nat} {ps : List (ByteArray × ByteArray)} (h : MapAt w b ps) (hb : Below w.heap.size w w') : MapAt w' b ps := World.ownsMap.kept h (only_of_below hb none) (by simp)
theorem ents_len_le {w : World} {b : Nat} {ps : List (ByteArray × ByteArray)} (h : MapAt w b ps) : (entsD (madeL ps)).length ≤ ps.length := by
  rw [ents_len]
  have h1 := own_size h
  obtain ⟨es, hD, _⟩ := World.ownsMap.keysOf h
  rw [hD] at h1 ⊢
  show (es.map _).length ≤ _
  rw [List.length_map]
  exact h1
/-- the root of the map of the pairs -/
def rootP (ps : List (ByteArray × ByteArray)) : ByteArray := rootK 256 (entsD (madeL ps))
theorem rootOf_any (b : Nat) (ps : List (ByteArray × ByteArray)) (hsz : ps.length ≤ 1000) (hF : FitP ps) (w : World) (hm : MapAt w b ps) :
    Calls Tryz.prog 39 #[.agg tabV, .map (some b)] w fun e w' => e = .returned (.string (rootP ps)) ∧ Below w.heap.size w w' :=
  sroot_any (.map (some b)) (entsD (madeL ps)) (by have := ents_len_le hm; omega) (ents_good _) (ents_fit hm hF) w (fun W hW => entries_any b ps hsz hF W (hm.below hW))
end Go.Proofs.YtjmjkcgldencoaaGreat

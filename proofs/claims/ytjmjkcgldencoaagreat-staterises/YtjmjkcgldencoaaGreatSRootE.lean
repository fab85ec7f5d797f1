/-
  The root of the map of pairs is that of the pairs of which each key's last one counts.
-/
import Derived.Test.YtjmjkcgldencoaaGreatSRootL
import Derived.Test.YtjmjkcgldencoaaGreatSRefV1SRefV2SRefV
import Derived.Test.YtjmjkcgldencoaaGreatSEnt
namespace Go.Proofs.YtjmjkcgldencoaaGreat
open Go.RowKit Go.Sort Go.Maps

theorem last_lookP (ps : List (ByteArray × ByteArray)) (x : ByteArray) : lookP (lastK ps ps.length) x = lookP ps x := by
  have h1 := last_look ps ps.length (Nat.le_refl _) x (fun j h1 h2 => absurd h2 (by omega))
  rwa [List.take_length] at h1
theorem toArr_data (x : List UInt8) : (⟨x.toArray⟩ : ByteArray).data.toList = x := by simp
theorem last_keys {w : World} {b : Nat} {ps : List (ByteArray × ByteArray)} (h : MapAt w b ps) : ((lastK ps ps.length).map (·.1)).Perm (keysD (madeL ps)) := by
  have hap := last_apart ps ps.length (Nat.le_refl _)
  obtain ⟨es, hD, hpw, _⟩ := World.ownsMap.entries h keyed
  obtain ⟨es', hD', hko⟩ := World.ownsMap.keysOf h
  obtain rfl : es = es' := by rw [hD] at hD'; simpa using hD'
  have hp := perm_strKeys (es := es) hpw (fun p hp => by obtain ⟨v, hv⟩ := hko p hp; obtain ⟨x, _, hx, _⟩ := Maps.keyOf_str Tryz.underlying9 hv; exact ⟨x, hx⟩) (ss := (lastK ps ps.length).map fun p => p.1.data.toList)
    (List.pairwise_map.2 (hap.imp fun {a c} hne e => hne (ByteArray.ext (Array.toList_inj.1 e)))) (fun x => by
      rw [← hD]
      have hx := made_has ps ⟨x.toArray⟩
      rw [show litK (⟨x.toArray⟩ : ByteArray) = .string x by simp [litK]] at hx
      rw [hx, ← last_lookP, Option.isSome_iff_exists, List.mem_map]
      constructor
      · rintro ⟨p, hp, rfl⟩
        refine ⟨p.2, (look_mem hap _ _).2 ?_⟩
        rw [show (⟨p.1.data.toList.toArray⟩ : ByteArray) = p.1 from of_toList p.1]
        exact hp
      · rintro ⟨v, hv⟩
        exact ⟨(⟨x.toArray⟩, v), (look_mem hap _ _).1 hv, toArr_data x⟩)
  rw [← hD] at hp
  have h2 := hp.map fun l : List UInt8 => (⟨l.toArray⟩ : ByteArray)
  rw [List.map_map] at h2
  have e : (lastK ps ps.length).map ((fun l : List UInt8 => (⟨l.toArray⟩ : ByteArray)) ∘ fun p => p.1.data.toList) = (lastK ps ps.length).map (·.1) := List.map_congr_left fun p _ => of_toList p.1
  rw [e] at h2
  exact h2
theorem last_val {ps : List (ByteArray × ByteArray)} {p : ByteArray × ByteArray} (hp : p ∈ lastK ps ps.length) : valD (madeL ps) p.1 = p.2 := by
  refine valD_of fun zd => ?_
  rw [made_at]
  have h1 := (look_mem (last_apart ps ps.length (Nat.le_refl _)) p.1 p.2).2 hp
  rw [last_lookP] at h1
  rw [h1]
theorem ents_last {w : World} {b : Nat} {ps : List (ByteArray × ByteArray)} (h : MapAt w b ps) : (entsD (madeL ps)).Perm ((lastK ps ps.length).map entP) := by
  have h1 : (srt (keysD (madeL ps))).Perm ((lastK ps ps.length).map (·.1)) := (List.mergeSort_perm (keysD (madeL ps)) _).trans (last_keys h).symm
  have h2 := h1.map (entK (valD (madeL ps)))
  rw [List.map_map] at h2
  have e : (lastK ps ps.length).map (entK (valD (madeL ps)) ∘ fun p => p.1) = (lastK ps ps.length).map entP := List.map_congr_left fun p hp => by
    show entK (valD (madeL ps)) p.1 = entP p
    unfold entK entP
    rw [last_val hp]
  rw [e] at h2
  exact h2
theorem last_apart1 (ps : List (ByteArray × ByteArray)) : Apart1 ((lastK ps ps.length).map entP) := List.pairwise_map.2 ((last_apart ps ps.length (Nat.le_refl _)).imp fun h => h)
/-- the two roots are one -/
theorem root_last {w : World} {b : Nat} {ps : List (ByteArray × ByteArray)} (h : MapAt w b ps) : rootL 256 ((lastK ps ps.length).map entP) = rootK 256 (entsD (madeL ps)) := by
  rw [← rootL_rootK 256 0 (entsD (madeL ps)) rfl (ents_good _) (ents_byKey _)]
  exact rootL_perm 256 (ents_last h).symm (last_apart1 ps)
end Go.Proofs.YtjmjkcgldencoaaGreat

/-
  Plain words of StateViews: how many keys a map of pairs has, and what is looked up in it.
-/
import Derived.Test.YtjmjkcgldencoaaGreatSRootE
import Derived.Test.YtjmjkcgldencoaaGreatYRef1YRef2YRef3
import Derived.Maps.OwnSet
namespace Go.Proofs.YtjmjkcgldencoaaGreat
open Go.RowKit Go.Maps Go.Sort

theorem made_size {w : World} {b : Nat} {ps : List (ByteArray × ByteArray)} (h : MapAt w b ps) : Maps.size (madeL ps) = (lastK ps ps.length).length := by
  have e1 := (last_keys h).length_eq
  rw [List.length_map] at e1
  obtain ⟨es, hD, _⟩ := World.ownsMap.keysOf h
  rw [e1, hD]
  unfold keysD
  rw [List.length_map]
  simp [Maps.size, strKeys]
theorem map_len {w : World} {b : Nat} {ps : List (ByteArray × ByteArray)} (h : MapAt w b ps) (ty : TypeId) : (Builtin.len_ #[55] ty #[.map (some b)]).run Tryz.prog w = .ok (.int .i64 ((lastK ps ps.length).length : Nat)) w := by
  rw [← made_size h]
  exact World.ownsMap.len h Tryz.underlying55 ty
theorem zeroTx (w : World) : (zeroValue 9).run Tryz.prog w = .ok (.string ⟨#[]⟩) w := by go_simp
theorem of_litV {v : Value} {z : ByteArray} {l : List MemPlace} (h : plainElem (H := Unit) Tryz.prog 9 v = some (datV z, l)) : v = .string z := by
  obtain ⟨s, rfl, hs, _⟩ := plainElem_string_inv Tryz.underlying9 h
  have h1 : datV z = .lit (.string s.data.toList) := congrArg Prod.fst hs
  have h2 := Lit.string.inj (DataW.lit.inj h1)
  rw [ByteArray.ext (Array.toList_inj.1 h2)]
theorem view_look {w : World} {b : Nat} {ps : List (ByteArray × ByteArray)} (h : MapAt w b ps) (k v : ByteArray) (hk : k.size ≤ 250) (hv : lookP ps k = some v) : (Instr.lookup 55 (.map (some b)) (.string k) true).run Tryz.prog w = .ok (.tuple #[.string v, .bool true]) w := by
  obtain ⟨v', l, hrun, hw⟩ := World.ownsMap.look_ok h keyed Tryz.underlying55 (zeroTx w) (plainElem_string (H := Unit) Tryz.underlying9 (s := ⟨#[]⟩) (by unfold maxLen; decide)) (Go.WideMaps.keyOf_string_mk Tryz.underlying9 (s := k) (by unfold maxLen; omega))
  rw [hrun]
  have h1 := made_at ps k (datV ⟨#[]⟩)
  have h2 := made_has ps k
  rw [hv] at h1 h2
  rw [show litK k = .string k.data.toList from rfl] at h1 h2
  rw [show (DataW.lit (Lit.string (⟨#[]⟩ : ByteArray).data.toList) : DataW Unit) = datV ⟨#[]⟩ from rfl, h1] at hw
  rw [of_litV hw, h2]
  rfl
/-- what the pairs' keys look up -/
theorem pair_look {ps : List (ByteArray × ByteArray)} (hF : FitP ps) {i : Nat} (hi : i < (lastK ps ps.length).length) : (lastK ps ps.length)[i].1.size ≤ 250 ∧ lookP ps (lastK ps ps.length)[i].1 = some (lastK ps ps.length)[i].2 := by
  have hm := List.getElem_mem hi
  refine ⟨(hF _ (lastK_mem ps ps.length (Nat.le_refl _) _ hm)).1, ?_⟩
  rw [← last_lookP]
  exact (look_mem (last_apart ps ps.length (Nat.le_refl _)) _ _).2 hm
end Go.Proofs.YtjmjkcgldencoaaGreat

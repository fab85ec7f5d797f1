/-
  Look-ups in a map of pairs; what its proofs come to. What is proved of a map of pairs holds under its root. A hasher that is handed in.
-/
import Derived.Test.YtjdjndginacdnaaSEachMSRefAH
import Derived.Test.YtjdjndginacdnaaSApart
import Derived.Maps.OwnSet
import Derived.Test.YtjdjndginacdnaaTxt
import Derived.Shelf.Abstract
namespace Go.Proofs.Ytjdjndginacdnaa
open Go.RowKit Go.Maps

/-- the value that the map of the pairs has for the key -/
def valM (ps : List (ByteArray × ByteArray)) (k : ByteArray) : ByteArray := (lookP ps k).getD ⟨#[]⟩
theorem zeroS (w : World) : (zeroValue 9).run Try.prog w = .ok (.string ⟨#[]⟩) w := by go_simp
theorem of_lit {v : Value} {z : ByteArray} {l : List MemPlace} (h : plainElem (H := Unit) Try.prog 9 v = some (datV z, l)) : v = .string z := by
  obtain ⟨s, rfl, hs, _⟩ := plainElem_string_inv Try.underlying9 h
  have h1 : datV z = .lit (.string s.data.toList) := congrArg Prod.fst hs
  have h2 := Lit.string.inj (DataW.lit.inj h1)
  rw [ByteArray.ext (Array.toList_inj.1 h2)]
theorem made_val (ps : List (ByteArray × ByteArray)) (k : ByteArray) : (madeL ps).atKey (litK k) (datV ⟨#[]⟩) = datV (valM ps k) := by
  rw [made_at]
  unfold valM
  cases lookP ps k <;> rfl
theorem MapAt.look {w : World} {b : Nat} {ps : List (ByteArray × ByteArray)} (h : MapAt w b ps) (k : ByteArray) (hk : k.size ≤ 60) : (Instr.lookup 46 (.map (some b)) (.string k) false).run Try.prog w = .ok (.string (valM ps k)) w := by
  obtain ⟨v, l, hrun, hv⟩ := World.ownsMap.lookup h keyed Try.underlying46 (zeroS w) (plainElem_string (H := Unit) Try.underlying9 (s := ⟨#[]⟩) (by unfold maxLen; decide)) (Go.WideMaps.keyOf_string_mk Try.underlying9 (s := k) (by unfold maxLen; omega))
  rw [hrun]
  have := made_val ps k
  rw [show litK k = .string k.data.toList from rfl] at this
  rw [show (DataW.lit (Lit.string (⟨#[]⟩ : ByteArray).data.toList) : DataW Unit) = datV ⟨#[]⟩ from rfl, this] at hv
  rw [of_lit hv]
theorem MapAt.look_ok {w : World} {b : Nat} {ps : List (ByteArray × ByteArray)} (h : MapAt w b ps) (k : ByteArray) (hk : k.size ≤ 60) : (Instr.lookup 46 (.map (some b)) (.string k) true).run Try.prog w = .ok (.tuple #[.string (valM ps k), .bool (lookP ps k).isSome]) w := by
  obtain ⟨v, l, hrun, hv⟩ := World.ownsMap.look_ok h keyed Try.underlying46 (zeroS w) (plainElem_string (H := Unit) Try.underlying9 (s := ⟨#[]⟩) (by unfold maxLen; decide)) (Go.WideMaps.keyOf_string_mk Try.underlying9 (s := k) (by unfold maxLen; omega))
  rw [hrun]
  have := made_val ps k
  rw [show litK k = .string k.data.toList from rfl] at this
  rw [show (DataW.lit (Lit.string (⟨#[]⟩ : ByteArray).data.toList) : DataW Unit) = datV ⟨#[]⟩ from rfl, this] at hv
  rw [of_lit hv, ← made_has]
  rfl
theorem look_key {ps : List (ByteArray × ByteArray)} {x : ByteArray} (h : (lookP ps x).isSome = true) : x ∈ ps.map (·.1) := by
  obtain ⟨v, hv⟩ := Option.isSome_iff_exists.1 h
  exact List.mem_map.2 ⟨_, look_some hv, rfl⟩
theorem key_look {ps : List (ByteArray × ByteArray)} {x : ByteArray} (h : x ∈ ps.map (·.1)) : (lookP ps x).isSome = true := by
  induction ps using snoc_ind with
  | h0 => cases h
  | h1 l a ih =>
    rw [lookP_snoc]
    split
    · rfl
    · next hne =>
      rw [List.map_append, List.mem_append] at h
      rcases h with h | h
      · exact ih h
      · simp at h; exact absurd h.symm hne
theorem mem_keysD {w : World} {b : Nat} {ps : List (ByteArray × ByteArray)} (h : MapAt w b ps) (x : ByteArray) : x ∈ keysD (madeL ps) ↔ (lookP ps x).isSome = true := by
  rw [← made_has]
  obtain ⟨es, hD, hko⟩ := World.ownsMap.keysOf h
  rw [hD]
  unfold keysD
  constructor
  · intro hx
    obtain ⟨l, hl, rfl⟩ := List.mem_map.1 hx
    obtain ⟨p, hp, rfl⟩ := List.mem_map.1 hl
    obtain ⟨key, hkey⟩ := hko p hp
    obtain ⟨x', _, hx', _⟩ := Maps.keyOf_str Try.underlying9 hkey
    have hlit : litK (⟨(strOf p.1).toArray⟩ : ByteArray) = p.1 := by rw [hx']; simp [litK, strOf]
    rw [has_eq, List.any_eq_true]
    exact ⟨p, hp, by rw [hlit, hx']; simp [Lit.sameKey]⟩
  · intro hx
    rw [has_eq, List.any_eq_true] at hx
    obtain ⟨p, hp, hs⟩ := hx
    obtain ⟨key, hkey⟩ := hko p hp
    obtain ⟨x', _, hx', _⟩ := Maps.keyOf_str Try.underlying9 hkey
    refine List.mem_map.2 ⟨strOf p.1, List.mem_map.2 ⟨p, hp, rfl⟩, ?_⟩
    rw [hx'] at hs ⊢
    have : x' = x.data.toList := by simpa [litK, Lit.sameKey] using hs
    show (⟨x'.toArray⟩ : ByteArray) = x
    rw [this]
theorem mem_ents {w : World} {b : Nat} {ps : List (ByteArray × ByteArray)} (h : MapAt w b ps) (x : Ent) : x ∈ entsD (madeL ps) ↔ ∃ k, (lookP ps k).isSome = true ∧ x = entK (valD (madeL ps)) k := by
  unfold entsD
  rw [List.mem_map]
  constructor
  · rintro ⟨k, hk, rfl⟩
    exact ⟨k, (mem_keysD h k).1 ((List.mergeSort_perm (keysD (madeL ps)) _).mem_iff.1 hk), rfl⟩
  · rintro ⟨k, hk, rfl⟩
    exact ⟨k, (List.mergeSort_perm (keysD (madeL ps)) _).mem_iff.2 ((mem_keysD h k).2 hk), rfl⟩
theorem valD_made (ps : List (ByteArray × ByteArray)) (k : ByteArray) (h : (lookP ps k).isSome = true) : valD (madeL ps) k = valM ps k := by
  obtain ⟨v, hv⟩ := Option.isSome_iff_exists.1 h
  refine valD_of fun zd => ?_
  rw [made_at]
  unfold valM
  rw [hv]
  rfl
/-- at the path's own place -/
theorem own_place {w : World} {b : Nat} {ps : List (ByteArray × ByteArray)} (h : MapAt w b ps) (k : ByteArray) (hA : ∀ x, (lookP ps x).isSome = true → pathS x = pathS k → x = k) :
    rootK 0 (algN (pathS k) 256 (entsD (madeL ps))) = if (lookP ps k).isSome then ownS k (valM ps k) else emp 256 := by
  have hall : ∀ x, x ∈ algN (pathS k) 256 (entsD (madeL ps)) → (lookP ps k).isSome = true ∧ x = entK (valD (madeL ps)) k := fun x hx => by
    obtain ⟨h1, h2⟩ := mem_algN.1 hx
    obtain ⟨k', hk', rfl⟩ := (mem_ents h x).1 h1
    have hp : pathS k' = pathS k := bits_all (pathS_size k') (pathS_size k) h2
    have := hA k' hk' hp
    subst this
    exact ⟨hk', rfl⟩
  by_cases hh : (lookP ps k).isSome = true
  · rw [if_pos hh]
    have hin : entK (valD (madeL ps)) k ∈ algN (pathS k) 256 (entsD (madeL ps)) := mem_algN.2 ⟨(mem_ents h _).2 ⟨k, hh, rfl⟩, fun _ _ => rfl⟩
    generalize algN (pathS k) 256 (entsD (madeL ps)) = l at *
    cases l with
    | nil => cases hin
    | cons x r =>
      rw [rootK]
      obtain ⟨_, rfl⟩ := hall x (List.mem_cons_self ..)
      show ownS k (valD (madeL ps) k) = _
      rw [valD_made ps k hh]
  · rw [if_neg hh]
    generalize algN (pathS k) 256 (entsD (madeL ps)) = l at *
    cases l with
    | nil => rw [rootK]; rfl
    | cons x r => exact absurd (hall x (List.mem_cons_self ..)).1 hh
theorem each_holds {w : World} {b : Nat} {ps : List (ByteArray × ByteArray)} (h : MapAt w b ps) (k : ByteArray) (hA : ∀ x, (lookP ps x).isSome = true → pathS x = pathS k → x = k) (s : ByteArray) (hs : PrS (pathS k) (entsD (madeL ps)) s) :
    verS (rootP ps) k (valM ps k) (lookP ps k).isSome s = true := by
  unfold verS
  rw [hs.wf, Bool.true_and, decide_eq_true_iff, clL_congr _ _ _ (fun i hi => hs.beside i hi), ← own_place h k hA, climb_root _ _ 256 (Nat.le_refl _)]
  rfl
end Go.Proofs.Ytjdjndginacdnaa
namespace Go.Proofs.Ytjdjndginacdnaa
open Go.RowKit Go.Maps

theorem valM_size {ps : List (ByteArray × ByteArray)} (hF : FitP ps) (k : ByteArray) : (valM ps k).size ≤ 60 := by
  unfold valM
  cases hl : lookP ps k with
  | none => exact Nat.zero_le _
  | some v => exact (hF _ (look_some hl)).2
def RPm (ps : List (ByteArray × ByteArray)) (k : ByteArray) (w : World) (e : Ending) (w' : World) : Prop := (∃ s : ByteArray, s.size ≤ 10000 ∧ verS (rootP ps) k (valM ps k) (lookP ps k).isSome s = true ∧ e = .returned (.string s)) ∧ Below w.heap.size w w'
theorem proveM_any (b : Nat) (ps : List (ByteArray × ByteArray)) (hsz : ps.length ≤ 12) (hF : FitP ps) (k : ByteArray) (hk : k.size ≤ 60) (hA : ∀ x, (lookP ps x).isSome = true → pathS x = pathS k → x = k) (w : World) (hm : MapAt w b ps) :
    Calls Try.prog 17 #[.agg tabV, .map (some b), .string k] w (RPm ps k w) := by
  refine (sprove_any (.map (some b)) (entsD (madeL ps)) (by have := ents_len_le hm; omega) (ents_good _) (ents_fit hm hF) k (by omega) w (fun W hW => entries_any b ps hsz hF W (hm.below hW))).mono ?_
  rintro e w' ⟨⟨s, hs, rfl⟩, hB⟩
  exact ⟨⟨s, hs.small, each_holds hm k hA s hs, rfl⟩, hB⟩
end Go.Proofs.Ytjdjndginacdnaa
namespace Go.Proofs.Ytjdjndginacdnaa
open Go.RowKit

/-- the function number g tells of a text h of it -/
structure Hsh (g : Nat) (h : ByteArray → ByteArray) : Prop where
  enter : ∀ args w, (callFunc g args).run Try.prog w = .ok (.enter g args) w
  size : ∀ s, (h s).size = 32
  call : ∀ s W, s.size ≤ 1000 → Calls Try.prog g #[.string s] W fun e w' => e = .returned (.string (h s)) ∧ Below W.heap.size W w'
set_option maxRecDepth 100000 in
theorem func_nil (g : Nat) (W : World) : (binOp BinOp.eql 50 (.func (.func g) #[] #[]) .nilFunc ).run Try.prog W = .ok (.bool false) W := by rfl
end Go.Proofs.Ytjdjndginacdnaa

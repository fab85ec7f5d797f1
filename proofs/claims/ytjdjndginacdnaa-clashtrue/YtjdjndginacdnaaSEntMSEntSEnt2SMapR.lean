/-
  Entries in order: one list, whatever order they came in. entries: a map's, in order. entries: the walk. The root of a map of pairs.
-/
import Derived.Test.YtjdjndginacdnaaSOrd2
import Derived.Test.YtjdjndginacdnaaSFitPSRefCMSMapSMadeM
import Derived.Test.YtjdjndginacdnaaSDnSClMSUnfMSVerM
import Derived.Sort.LotA
namespace Go.Proofs.Ytjdjndginacdnaa
open Go.RowKit Go.Sort Go.Maps

theorem ltB_iff (x y : ByteArray) : Op.bytesLess x.toList y.toList = true ↔ x.data.toList < y.data.toList := by
  rw [bytesLess_eq, Lib.toList_data, Lib.toList_data, decide_eq_true_iff]
theorem eqB_iff (x y : ByteArray) : (x.toList == y.toList) = true ↔ x = y := by
  rw [beqB5, decide_eq_true_iff]
theorem cmpS_neg (x y : ByteArray) : cmpS x y < 0 ↔ x.data.toList < y.data.toList := by
  unfold cmpS
  rw [← ltB_iff]
  cases h1 : Op.bytesLess x.toList y.toList
  · cases h2 : (x.toList == y.toList) <;> simp
  · simp
theorem cmpS_zero (x y : ByteArray) : cmpS x y = 0 ↔ x = y := by
  rw [← eqB_iff]
  unfold cmpS
  cases h1 : Op.bytesLess x.toList y.toList
  · cases h2 : (x.toList == y.toList) <;> simp
  · have h := (ltB_iff x y).1 h1
    cases h2 : (x.toList == y.toList)
    · simp
    · have e := (eqB_iff x y).1 h2
      subst e
      exact absurd h (List.lt_irrefl _)
/-- x comes ahead of y -/
def Ahd (x y : ByteArray) : Prop := (pathS x).data.toList < (pathS y).data.toList ∨ (pathS x = pathS y ∧ x.data.toList < y.data.toList)
theorem cfK_neg (x y : ByteArray) : cfK x y < 0 ↔ Ahd x y := by
  unfold cfK orI Ahd
  by_cases h : cmpS (pathS x) (pathS y) = 0
  · rw [if_pos h, cmpS_neg]
    have e := (cmpS_zero _ _).1 h
    constructor
    · intro h2; exact .inr ⟨e, h2⟩
    · rintro (h2 | h2)
      · rw [e] at h2; exact absurd h2 (List.lt_irrefl _)
      · exact h2.2
  · rw [if_neg h, cmpS_neg]
    constructor
    · exact .inl
    · rintro (h2 | h2)
      · exact h2
      · exact absurd ((cmpS_zero _ _).2 h2.1) h
theorem ltK_iff (x y : ByteArray) : ltOf cfK x y = true ↔ Ahd x y := by
  unfold ltOf
  rw [decide_eq_true_iff, cfK_neg]
theorem ahd_irrefl (x : ByteArray) : ¬ Ahd x x := by
  rintro (h | h)
  · exact List.lt_irrefl _ h
  · exact List.lt_irrefl _ h.2
theorem ahd_trans {x y z : ByteArray} (h1 : Ahd x y) (h2 : Ahd y z) : Ahd x z := by
  rcases h1 with h1 | ⟨e1, h1⟩ <;> rcases h2 with h2 | ⟨e2, h2⟩
  · exact .inl (List.lt_trans h1 h2)
  · rw [e2] at h1; exact .inl h1
  · rw [← e1] at h2; exact .inl h2
  · exact .inr ⟨e1.trans e2, List.lt_trans h1 h2⟩
theorem lst_tri (a b : ByteArray) : a.data.toList < b.data.toList ∨ a = b ∨ b.data.toList < a.data.toList := by
  by_cases h1 : a.data.toList < b.data.toList
  · exact .inl h1
  · by_cases h2 : b.data.toList < a.data.toList
    · exact .inr (.inr h2)
    · exact .inr (.inl (ByteArray.ext (Array.toList_inj.1 (List.le_antisymm (List.not_lt.1 h2) (List.not_lt.1 h1)))))
theorem ahd_tri (x y : ByteArray) : Ahd x y ∨ x = y ∨ Ahd y x := by
  rcases lst_tri (pathS x) (pathS y) with h | h | h
  · exact .inl (.inl h)
  · rcases lst_tri x y with h2 | h2 | h2
    · exact .inl (.inr ⟨h, h2⟩)
    · exact .inr (.inl h2)
    · exact .inr (.inr (.inr ⟨h.symm, h2⟩))
  · exact .inr (.inr (.inl h))
theorem ahd_asymm {x y : ByteArray} (h1 : Ahd x y) (h2 : Ahd y x) : False := ahd_irrefl x (ahd_trans h1 h2)
theorem ltK_false (x y : ByteArray) : ltOf cfK x y = false ↔ ¬ Ahd x y := by rw [← ltK_iff, Bool.not_eq_true]
theorem swoK : SWO (ltOf cfK) where
  irrefl x := (ltK_false x x).2 (ahd_irrefl x)
  trans x y z h1 h2 := (ltK_iff x z).2 (ahd_trans ((ltK_iff x y).1 h1) ((ltK_iff y z).1 h2))
  ntrans x y z h1 h2 := (ltK_false x z).2 fun h => by
    rw [ltK_false] at h1 h2
    rcases ahd_tri x y with h3 | h3 | h3
    · exact h1 h3
    · rw [h3] at h; exact h2 h
    · exact h2 (ahd_trans h3 h)
theorem oneK (x y : ByteArray) (h1 : ltOf cfK x y = false) (h2 : ltOf cfK y x = false) : x = y := by
  rw [ltK_false] at h1 h2
  rcases ahd_tri x y with h | h | h
  · exact absurd h h1
  · exact h
  · exact absurd h h2
/-- keys in order -/
def srt (ks : List ByteArray) : List ByteArray := ks.mergeSort fun x y => !ltOf cfK y x
theorem srt_pair (ks : List ByteArray) : (srt ks).Pairwise fun x y => ltOf cfK y x = false := by
  have := List.pairwise_mergeSort (le := fun x y => !ltOf cfK y x) (fun a b c h1 h2 => by
      simp only [Bool.not_eq_true'] at *
      exact swoK.ntrans c b a h2 h1) (fun a b => by
      cases h1 : ltOf cfK b a <;> cases h2 : ltOf cfK a b <;> simp
      exact (ahd_asymm ((ltK_iff _ _).1 h1) ((ltK_iff _ _).1 h2)).elim) ks
  exact this.imp fun h => by simpa using h
theorem srt_perm {ks ks' : List ByteArray} (h : ks.Perm ks') : srt ks = srt ks' := by
  refine List.Perm.eq_of_pairwise (le := fun x y => ltOf cfK y x = false) (fun a b _ _ h1 h2 => oneK a b h2 h1) (srt_pair ks) (srt_pair ks') (((List.mergeSort_perm ks _).trans h).trans (List.mergeSort_perm ks' _).symm)
theorem insert_srt (ks : List ByteArray) : Sort.insertionSort (ltOf cfK) ks.toArray 0 ks.length = (srt ks).toArray := by
  have h := insertionSort_holds (lt := ltOf cfK) swoK ks.toArray 0 ks.toArray.size (Nat.zero_le _) (Nat.le_refl _)
  have := sorted_unique_holds swoK oneK ks.toArray _ h.1 h.2
  rw [show ks.length = ks.toArray.size by simp]
  exact Array.toList_inj.1 this
theorem lex_of {a b : List UInt8} (h : ¬ b < a) : lexLe (a.map (·.toNat)) (b.map (·.toNat)) := by
  induction a generalizing b with
  | nil => exact trivial
  | cons x r ih =>
    cases b with
    | nil => exact absurd (List.nil_lt_cons x r) h
    | cons y s =>
      rw [List.cons_lt_cons_iff, not_or, not_and] at h
      show x.toNat < y.toNat ∨ (x.toNat = y.toNat ∧ _)
      rcases Nat.lt_trichotomy x.toNat y.toNat with h1 | h1 | h1
      · exact .inl h1
      · exact .inr ⟨h1, ih (h.2 (UInt8.toNat_inj.1 h1).symm)⟩
      · exact absurd (UInt8.lt_iff_toNat_lt.2 h1) h.1
/-- the value that the map has for the key -/
def valD (D : DataW Unit) (k : ByteArray) : ByteArray := match D.atKey (litK k) .nil with | .lit (.string b) => ⟨b.toArray⟩ | _ => ByteArray.empty
def keysD (D : DataW Unit) : List ByteArray := (strKeys D).map fun l => ⟨l.toArray⟩
/-- the map's entries, in order -/
def entsD (D : DataW Unit) : List Ent := (srt (keysD D)).map (entK (valD D))
theorem ents_good (D : DataW Unit) : Good 0 (entsD D) := by
  refine ⟨fun x hx => ?_, ?_, fun _ _ _ _ j hj => absurd hj (Nat.not_lt_zero _)⟩
  · obtain ⟨k, _, rfl⟩ := List.mem_map.1 hx
    exact pathS_size k
  · unfold entsD
    refine List.pairwise_map.2 ((srt_pair (keysD D)).imp fun {x y} h => ?_)
    rw [ltK_false] at h
    exact lex_of fun h2 => h (.inl h2)
theorem ents_len (D : DataW Unit) : (entsD D).length = (strKeys D).length := by
  unfold entsD srt keysD
  rw [List.length_map, List.length_mergeSort, List.length_map]
end Go.Proofs.Ytjdjndginacdnaa
namespace Go.Proofs.Ytjdjndginacdnaa
open Go.RowKit Go.Shelf Go.Sort Go.Maps

def ecells (es : List Ent) : List Value := es.flatMap Ent.enc
theorem ecells_len (es : List Ent) : (ecells es).length = es.length * 3 := by
  induction es with
  | nil => rfl
  | cons x r ih => simp [ecells, Ent.enc] at ih ⊢; omega
theorem ecells_get : ∀ (es : List Ent) (i c : Nat) (h : i < es.length), c < 3 → (ecells es)[i * 3 + c]? = es[i].enc[c]?
  | [], _, _, h, _ => absurd h (Nat.not_lt_zero _)
  | x :: r, 0, c, _, hc => by
    have e : ecells (x :: r) = x.enc ++ ecells r := rfl
    rw [e, Nat.zero_mul, Nat.zero_add, List.getElem?_append_left (by simpa [Ent.enc] using hc)]
    rfl
  | x :: r, i + 1, c, h, hc => by
    have e : ecells (x :: r) = x.enc ++ ecells r := rfl
    have hl : x.enc.length = 3 := rfl
    rw [e, List.getElem?_append_right (by rw [hl]; omega), hl, show (i + 1) * 3 + c - 3 = i * 3 + c by omega]
    exact ecells_get r i c (Nat.lt_of_succ_lt_succ h) hc
theorem entInfo : (Try.prog.info? 116).map (fun i => (i.zero, i.size, i.bytes)) = some (some (.agg #[.string ⟨#[]⟩, .string ⟨#[]⟩, .string ⟨#[]⟩]), 3, 48) := by kernel_rfl
/-- a slice of entries that the call made -/
def OwnEn (w : World) (B : Nat) (v : Value) (es : List Ent) : Prop := w.ownsRow B 116 3 v es.length (ecells es)
theorem ownEn_nil (w : World) (B : Nat) : OwnEn w B (.slice none 0 0) [] := ⟨rfl, .inl ⟨rfl, rfl⟩⟩
theorem OwnEn.grown {w w' : World} {B : Nat} {v : Value} {es : List Ent} {row : Option Nat} (h : OwnEn w B v es) (hg : w.grownBy w' row) (hne : v.ownBlock = none ∨ v.ownBlock ≠ row) : OwnEn w' B v es := World.ownsRow.kept h hg hne
theorem OwnEn.below {w w' : World} {B : Nat} {v : Value} {es : List Ent} (h : OwnEn w B v es) (hb : Below w.heap.size w w') : OwnEn w' B v es :=
  World.ownsRow.kept h (only_of_below hb none) (by cases v.ownBlock <;> simp)
theorem three_new (w : World) (x y z : ByteArray) (t : TypeId) : ∀ j u, ([Value.string x, .string y, .string z])[j]? = some u → (w.alloc (.cells #[.string x, .string y, .string z] t)).cell? ((⟨w.heap.size, 0, none⟩ : Addr).add j) = some u := by
  intro j u hu
  rw [addr_add, Nat.zero_add, (Blk.new w t #[.string x, .string y, .string z]).cell, ← hu]
  rw [← List.getElem?_toArray]
set_option maxRecDepth 100000 in
theorem wpList_append_ent {W : World} {ops : Array Oper} {rest : List Oper} {o : Oper} {a : Act} {Q : Exit → Act → World → Prop} (hgd : o.guard = none) (s x : Operand)
    (ho : o.op = .call { callee := .builtin .append, args := #[s, x], argTypes := #[73, 73] }) (B : Nat) (v : Value) (es : List Ent) (hs : a.eval s = v) (hown : OwnEn W B v es) (y : Ent)
    (hx : a.eval x = .slice (some ⟨W.heap.size, 0, none⟩) 1 1) (hlen : es.length ≤ 1073741824) (hB : B ≤ W.heap.size)
    (h : ∀ g cap w', OwnEn w' B (.slice (some ⟨g, 0, none⟩) (es.length + 1) cap) (es ++ [y]) → W.grownBy w' v.ownBlock → wpList Try.prog ops Q rest (a.put o.dst (.slice (some ⟨g, 0, none⟩) (es.length + 1) cap)) w') :
    wpList Try.prog ops Q (o :: rest) a (W.alloc (.cells #[.string y.path, .string y.key, .string y.val] 116)) := by
  obtain ⟨i0, hi, hz0, hz1, hz2⟩ := info_parts entInfo
  refine wpList_append_lies _ hgd s x 73 ho B 116 i0 (.agg #[.string ⟨#[]⟩, .string ⟨#[]⟩, .string ⟨#[]⟩]) 3 48 Try.underlying73 hi hz0 hz1 hz2 rfl (by decide) v es.length (ecells es) hs (World.ownsRow.alloc hown _)
    ⟨W.heap.size, 0, none⟩ 1 1 [.string y.path, .string y.key, .string y.val] hx rfl (three_new W y.path y.key y.val 116) (by intro u hu; simp at hu; rcases hu with rfl | rfl | rfl <;> rfl) (by decide) (by unfold maxLen; omega) (by omega) (by simp; omega) (W.heap.size + 1) (by simp) ?_
  intro g cap w' hown1 hgrow _ _
  refine h g cap w' ?_ (grown_trans (grown_alloc (grown_refl W _) _) hgrow)
  unfold OwnEn
  rw [List.length_append]
  have e : ecells (es ++ [y]) = ecells es ++ [.string y.path, .string y.key, .string y.val] := by simp [ecells, Ent.enc]
  rw [e]
  exact hown1
theorem own_size {w : World} {b n : Nat} {D : DataW Unit} (h : w.ownsMap Try.prog 9 (plainElem (H := Unit) Try.prog 9) b n D) : Maps.size D ≤ n := by
  obtain ⟨es, clock, hb, F, hs, rfl⟩ := h
  show ((es.toList.map _).foldr DataW.insert []).length ≤ n
  rw [length_sorted]
  simpa using hs
theorem invK (key : Value) (kl : Lit) (h : keyOf Try.prog 9 key = some kl) : ∃ x : ByteArray, key = .string x := by
  obtain ⟨x, hx, _⟩ := Maps.keyOf_str Try.underlying9 h
  exact ⟨⟨x.toArray⟩, hx⟩
theorem invV (v : Value) (y : DataW Unit × List MemPlace) (h : plainElem (H := Unit) Try.prog 9 v = some y) : ∃ c : ByteArray, v = .string c := by
  obtain ⟨s, hs, _⟩ := plainElem_string_inv Try.underlying9 h
  exact ⟨s, hs⟩
theorem valD_of {D : DataW Unit} {x c : ByteArray} (h : ∀ zd, D.atKey (litK x) zd = datV c) : valD D x = c := by
  unfold valD
  rw [h]
  show (⟨c.data.toList.toArray⟩ : ByteArray) = c
  exact of_toList c
/-- the sorted row is the entries in order, and no other block has turned -/
theorem sorted_ents (val : ByteArray → ByteArray) (w : World) (g m : Nat) (ks : List ByteArray) (os : Array Obj) (hH : HoldsK (fun k => (entK val k).enc) 3 w g 0 ks.toArray) (hg : g < w.heap.size) (ds : List ByteArray) (hd : ds.length = ks.length) :
    EntB (sortedW val w g m ds.toArray os) g 0 (ds.map (entK val)) ∧ w.grownBy (sortedW val w g m ds.toArray os) (some g) := by
  have hs : ds.toArray.size = ks.toArray.size := by simpa using hd
  have hz : (putRowK (fun k => (entK val k).enc) 3 (Go.Sort.ahead w m) g 0 ds.toArray).heap.size = w.heap.size := size_putRowK ..
  have h1 := holdsK_grow _ 3 (putRowK (fun k => (entK val k).enc) 3 (Go.Sort.ahead w m) g 0 ds.toArray) os g 0 ds.toArray (by rw [hz]; exact hg) (holdsK_putRowK _ 3 (Go.Sort.ahead w m) g 0 ks.toArray ds.toArray (holdsK_ahead _ 3 w m g 0 _ hH) hs)
  refine ⟨⟨?_, fun i hi => ?_⟩, ?_⟩
  · show g < (grow (putRowK _ 3 (Go.Sort.ahead w m) g 0 ds.toArray) os).heap.size
    rw [show (grow (putRowK (fun k => (entK val k).enc) 3 (Go.Sort.ahead w m) g 0 ds.toArray) os).heap.size = w.heap.size + os.size by rw [← hz]; exact Array.size_append]
    omega
  · have hi2 : i < ds.length := by simpa using hi
    have hc := fun c (hc : c < 3) => h1.cell (i := i) (c := c) (by simpa using hi2) hc
    have e : ds.toArray[i]! = ds[i] := by simp [hi2]
    have c0 := (hc 0 (by decide)).1
    have c1 := (hc 1 (by decide)).1
    have c2 := (hc 2 (by decide)).1
    rw [e] at c0 c1 c2
    simp only [List.getElem_map]
    exact ⟨c0, c1, c2⟩
  · refine ⟨rfl, rfl, rfl, ?_, fun i hi hne => ?_⟩
    · show w.heap.size ≤ (grow (putRowK _ 3 (Go.Sort.ahead w m) g 0 ds.toArray) os).heap.size
      rw [show (grow (putRowK (fun k => (entK val k).enc) 3 (Go.Sort.ahead w m) g 0 ds.toArray) os).heap.size = w.heap.size + os.size by rw [← hz]; exact Array.size_append]
      omega
    · show ((putRowK (fun k => (entK val k).enc) 3 (Go.Sort.ahead w m) g 0 ds.toArray).heap ++ os)[i]? = _
      rw [Array.getElem?_append_left (by rw [hz]; exact hi)]
      show ((Go.Sort.ahead w m).heap.modify g _)[i]? = _
      rw [Array.getElem?_modify, if_neg (by rintro rfl; exact hne rfl)]
      rfl
theorem own_holds {w : World} {B g cap : Nat} {val : ByteArray → ByteArray} {ks : List ByteArray} (h : OwnEn w B (.slice (some ⟨g, 0, none⟩) ks.length cap) (ks.map (entK val))) : HoldsK (fun k => (entK val k).enc) 3 w g 0 ks.toArray ∧ g < w.heap.size ∧ B ≤ g ∧ ks.length ≤ cap := by
  have h0 := h
  rcases h.2 with ⟨hv, _⟩ | ⟨g', cap', cur, hv, hb, hk, hc1, hc2, hc3, hc4⟩
  · cases hv
  · injection hv with hv1 hv2 hv3
    injection hv1 with hv1
    injection hv1 with hv1
    subst hv1 hv3
    have hB : Blk w g 116 cur := hk
    refine ⟨fun j hj => ⟨?_, hB.frozen _⟩, hB.lt, hb, by simpa using hc1⟩
    have hj2 : j < ks.length * 3 := by simpa using hj
    rw [get_flatK _ _ _ _ (by simpa using hj2)]
    have hq : j / 3 < ks.length := by omega
    have := ecells_get (ks.map (entK val)) (j / 3) (j % 3) (by simpa using hq) (Nat.mod_lt _ (by decide))
    rw [show j / 3 * 3 + j % 3 = j by omega] at this
    have hc : (entK val ks[j / 3]).enc[j % 3]? = some ((entK val ks[j / 3]).enc[j % 3]!) := by
      have : j % 3 < (entK val ks[j / 3]).enc.length := Nat.mod_lt _ (by decide)
      rw [List.getElem?_eq_getElem this]; exact congrArg some (getElem!_pos (entK val ks[j / 3]).enc (j % 3) this).symm
    simp only [List.getElem_map] at this
    rw [hc] at this
    have hcell := World.ownsRow.cells h0 (g := g) rfl j _ this
    rw [addr_add] at hcell
    rw [hcell]
    simp [hq]
end Go.Proofs.Ytjdjndginacdnaa
namespace Go.Proofs.Ytjdjndginacdnaa
open Go.RowKit Go.Sort Go.Maps

theorem look_some {ps : List (ByteArray × ByteArray)} {x v : ByteArray} (h : lookP ps x = some v) : (x, v) ∈ ps := by
  induction ps using snoc_ind with
  | h0 => cases h
  | h1 l a ih =>
    rw [lookP_snoc] at h
    split at h
    · next e => injection h with h; rw [← e, ← h]; simp
    · exact List.mem_append_left _ (ih h)
theorem made_fit {ps : List (ByteArray × ByteArray)} (hF : FitP ps) {x : ByteArray} (h : has (madeL ps) (litK x) = true) : x.size ≤ 60 := by
  rw [made_has] at h
  obtain ⟨v, hv⟩ := Option.isSome_iff_exists.1 h
  exact (hF _ (look_some hv)).1
theorem keys_perm {D : DataW Unit} {ks : List ByteArray} (h : (ks.map (·.data.toList)).Perm (strKeys D)) : srt ks = srt (keysD D) := by
  refine srt_perm ?_
  have := h.map fun l : List UInt8 => (⟨l.toArray⟩ : ByteArray)
  rw [List.map_map] at this
  have e : ks.map ((fun l : List UInt8 => (⟨l.toArray⟩ : ByteArray)) ∘ fun x => x.data.toList) = ks := by
    conv => rhs; rw [← List.map_id ks]
    exact List.map_congr_left fun x _ => of_toList x
  rw [e] at this
  exact this
theorem OwnEn.at {w : World} {B : Nat} {v : Value} {es : List Ent} (h : OwnEn w B v es) : (v = .slice none 0 0 ∧ es = []) ∨ ∃ g cap, v = .slice (some ⟨g, 0, none⟩) es.length cap := by
  rcases h.2 with ⟨hv, hn⟩ | ⟨g, cap, cur, hv, _⟩
  · exact .inl ⟨hv, List.length_eq_zero_iff.1 hn⟩
  · exact .inr ⟨g, cap, hv⟩
section
attribute [-go_sem] loadVar
set_option maxRecDepth 100000 in
set_option maxHeartbeats 2000000 in
theorem entries_any (b : Nat) (ps : List (ByteArray × ByteArray)) (hsz : ps.length ≤ 12) (hF : FitP ps) (w : World) (hm : MapAt w b ps) :
    Calls Try.prog 37 #[.agg tabV, .map (some b)] w (REs (entsD (madeL ps)) w) := by
  have HKB := Lib.hid (fun x h => made_fit hF (x := x) h)
  unfold MapAt at hm
  generalize madeL ps = D at *
  generalize ps.length = n at *
  have hbl := hm.lt
  have hm0 := hm.alloc (.cells tabV 43)
  have hT0 : Blk (w.alloc (.cells tabV 43)) w.heap.size 43 tabV := Blk.new _ _ _
  have hB0 := (Below.refl _ w).alloc (Nat.le_refl _) (.cells tabV 43)
  have e1 : (w.alloc (.cells tabV 43)).heap.size = w.heap.size + 1 := by simp
  have hsn := own_size hm
  have HRE : Hid (∀ e w', REs (entsD D) w e w' = ∃ oa cap, e = .returned (.slice oa (entsD D).length cap) ∧ (entsD D).length ≤ cap ∧ Ents w' w'.heap.size oa (entsD D) ∧ Below w.heap.size w w') := Lib.hid fun _ _ => rfl
  generalize REs (entsD D) w = PO at *
  have HPO := Lib.hid (fun (k : ByteArray) (hk : k.size ≤ 60) W => pathOf_any k (by omega) W)
  have HS0 := Lib.hid (fun W => sort_none none 0 (.func (.func 64) #[] #[]) W)
  have HS1 := Lib.hid (fun g cap (ks : List ByteArray) (h12 : ks.length ≤ 12) W hH hg => sort_any (valD D) g cap ks.length ks.toArray (by simp) W hH hg h12)
  clear hF hm
  go_enter Try.func37, Try.ntmps37
  go_wp2_with (first
    | (at_range; refine wpList_range_own _ rfl _ 46 rfl 9 9 keyed Try.underlying46 _ b n _ rfl hm0 ?_; intro w1 hrg1 hg1 hs1)
    | go_in)
  go_frame
  rw [e1] at hrg1 hs1 ⊢
  have hT1 := hT0.grown hg1 (by simp)
  have hB1 := hB0.grown hg1 (by rw [e1]; omega) (fun j hj => by cases hj)
  clear hT0 hB0 hg1 hs1 hm0 e1
  go_loopw [5] (fun v wr => ∃ (left : Lit → Bool) (cnt : Nat) (ks : List ByteArray), wr.ranges Try.prog 9 (plainElem (H := Unit) Try.prog 9) b (w.heap.size + 1) n D left cnt ∧ Collected D left (ks.map (·.data.toList)) ∧ OwnEn wr (w.heap.size + 1 + 1) v (ks.map (entK (valD D))) ∧ ks.length + cnt ≤ n ∧ Blk wr w.heap.size 43 tabV ∧ Below w.heap.size w wr) (fun _ wr => wr.rangeLeft b (w.heap.size + 1))
  case atStart => exact ⟨_, _, [], hrg1, Collected.start D, ownEn_nil _ _, by simpa using hsn, hT1, hB1⟩
  case round =>
    clear hrg1 hT1 hB1
    obtain ⟨left, cnt, ks, hrg, hC, hown, hcnt, hT, hB⟩ := hrel
    go_wp2_with (first
      | (at_next; refine wpList_next_ranges _ rfl _ rfl 9 keyed (plainElem (H := Unit) Try.prog 9) (fun x : ByteArray => Value.string x) (fun x : ByteArray => Value.string x) invK invV b (w.heap.size + 1) n D left cnt rfl hrg ?_ ?_)
      | go_in)
    · intro hc0 hl0
      have HE : Hid (entsD D = (srt ks).map (entK (valD D))) := Lib.hid (by unfold entsD; rw [← keys_perm (hC.perm hrg.owns keyed Try.underlying9 hl0)])
      have HLN : Hid (((srt ks).map (entK (valD D))).length = ks.length) := Lib.hid (by rw [List.length_map]; unfold srt; rw [List.length_mergeSort])
      rcases hown.at with ⟨rfl, hk0⟩ | ⟨g, cap, hv⟩
      · have hk00 : ks = [] := by simpa using hk0
        subst hk00
        clear hrg hC hown hT
        go_wp2_with fail
        refine (HS0.out _).mono ?_
        rintro e w2 ⟨rfl, rfl⟩
        go_wp2
        rw [HRE.out, HE.out]
        have e0 : srt [] = [] := by simp [srt]
        rw [e0]
        exact ⟨none, 0, rfl, Nat.le_refl _, .inl rfl, hB⟩
      · rw [List.length_map] at hv
        subst hv
        obtain ⟨hH, hgl, hge, hcap⟩ := own_holds hown
        have HSO := Lib.hid (HS1.out g cap ks (by omega) wr hH hgl)
        have hir := insert_srt ks
        rw [hir] at HSO
        have HSE := Lib.hid (fun m os => sorted_ents (valD D) wr g m ks os hH hgl (srt ks) (by unfold srt; rw [List.length_mergeSort]))
        generalize ks.length = nk at *
        clear hrg hC hown hT hH hir
        go_wp2_with fail
        refine HSO.out.mono ?_
        rintro e w2 ⟨rfl, m, os, rfl⟩
        obtain ⟨hE2, hg2⟩ := HSE.out m os
        have hB2 := hB.grown hg2 hB.size (fun j hj => by injection hj; omega)
        generalize sortedW (valD D) wr g m (srt ks).toArray os = w3 at *
        go_wp2
        rw [HRE.out, HE.out, HLN.out]
        exact ⟨some ⟨g, 0, none⟩, cap, rfl, hcap, .inr ⟨g, 0, rfl, hE2.1, hE2⟩, hB2⟩
    · intro x c kl y yl w2 cnt2 hkey hlk hv hat hrg2 hlt hg2 hs2 hen
      obtain ⟨x', ex, rfl, hxl⟩ := Maps.keyOf_str Try.underlying9 hkey
      have hxx : x = ⟨x'.toArray⟩ := by injection ex
      subst hxx
      obtain ⟨c', hc', hy, _⟩ := plainElem_string_inv Try.underlying9 hv
      injection hc' with hc'
      subst hc'
      injection hy with hy
      subst hy
      have hlit : litK (⟨x'.toArray⟩ : ByteArray) = .string x' := by simp [litK]
      have hat2 : ∀ zd, D.atKey (litK (⟨x'.toArray⟩ : ByteArray)) zd = datV c := fun zd => by rw [hlit]; exact hat zd
      have hval : valD D (⟨x'.toArray⟩ : ByteArray) = c := valD_of hat2
      have hx60 := HKB.out _ (has_true_of_atKey hat2)
      have hC2 := hC.step hlk hat
      obtain ⟨X, hX⟩ : ∃ X : ByteArray, (⟨x'.toArray⟩ : ByteArray) = X := ⟨_, rfl⟩
      have hXl : X.data.toList = x' := by rw [← hX]
      rw [hX] at hval hx60 hen ⊢
      have HCC : Hid (Collected D (fun z => left z && !z.sameKey (.string x')) ((ks ++ [X]).map (·.data.toList))) := Lib.hid (by rw [List.map_append]; simp only [List.map_cons, List.map_nil, hXl]; exact hC2)
      have hT2 := hT.grown hg2 (by intro e; injection e; omega)
      have hown2 := hown.grown hg2 (by
        cases hv : u5.ownBlock with
        | none => exact .inl rfl
        | some z => refine .inr fun e => ?_; injection e with e; have := (World.ownsRow.lt hown z hv).1; omega)
      have hB2 := hB.grown hg2 hB.size (fun j hj => by injection hj; omega)
      have hl2 := tab_run hT2
      have HP1 := Lib.hid (HPO.out X hx60)
      have HEN : Hid (entK (valD D) X = ⟨pathS X, X, c⟩) := Lib.hid (by unfold entK; rw [hval])
      generalize pathS X = pX at *
      have HRG := Lib.hid hrg
      clear hat hat2 hC hC2 hT hown hB hkey hv hlk hlit hval hX hXl hxl hrg hg2
      go_wp2_with fail
      refine (HP1.out _).mono ?_
      rintro e w3 ⟨rfl, hb3⟩
      have hrg3 := hrg2.kept (only_of_below hb3 none) (by simp) (by simp)
      have hown3 := hown2.below hb3
      have hT3 := hT2.below hb3 hT2.lt
      have hB3 := hB2.trans (hb3.mono hB2.size)
      clear hrg2 hown2 hT2 hB2 hb3 hen hl2
      go_wp2_with (at_builtin; refine wpList_append_ent rfl _ _ rfl (w.heap.size + 1 + 1) u5 (ks.map (entK (valD D))) rfl hown3 ⟨pX, X, c⟩ rfl (by rw [List.length_map]; omega) (by have := hrg3.lt; omega) ?_)
      intro g5 c5 w5 hown5 hg5
      have hrg5 := hrg3.kept hg5 (fun e => by have := (World.ownsRow.lt hown3 b e.symm).1; omega) (fun e => by have := (World.ownsRow.lt hown3 (w.heap.size + 1) e.symm).1; omega)
      have hT5 := hT3.grown hg5 (fun e => by have := (World.ownsRow.lt hown3 w.heap.size e.symm).1; omega)
      have hB5 := hB3.grown hg5 hB3.size (fun z hz => by have := (World.ownsRow.lt hown3 z hz).1; omega)
      rw [← HEN.out] at hown5
      clear hrg3 hown3 hT3 hB3 hg5
      go_wp2
      go_roundw
      case rel => exact ⟨_, cnt2, ks ++ [X], hrg5, HCC.out, by rw [List.map_append]; exact hown5, by rw [List.length_append]; simp; omega, hT5, hB5⟩
      case measure => rw [hrg5.left_eq, HRG.out.left_eq]; exact hlt
end
end Go.Proofs.Ytjdjndginacdnaa
namespace Go.Proofs.Ytjdjndginacdnaa
open Go.RowKit Go.Maps

theorem ents_fit {w : World} {b : Nat} {ps : List (ByteArray × ByteArray)} (h : MapAt w b ps) (hF : FitP ps) : Fit (entsD (madeL ps)) := by
  intro x hx
  obtain ⟨k, hk, rfl⟩ := List.mem_map.1 hx
  have hv : (valD (madeL ps) k).size ≤ 60 := by
    unfold valD
    rw [made_at]
    cases hl : lookP ps k with
    | none => exact Nat.zero_le _
    | some v =>
      show (⟨v.data.toList.toArray⟩ : ByteArray).size ≤ 60
      rw [of_toList]
      exact (hF _ (look_some hl)).2
  have hk2 : k ∈ keysD (madeL ps) := (List.mergeSort_perm (keysD (madeL ps)) _).mem_iff.1 hk
  obtain ⟨l, hl, rfl⟩ := List.mem_map.1 hk2
  obtain ⟨es, hD, hko⟩ := World.ownsMap.keysOf h
  rw [hD] at hl
  obtain ⟨p, hp, rfl⟩ := List.mem_map.1 hl
  obtain ⟨key, hkey⟩ := hko p hp
  obtain ⟨x', _, hx', _⟩ := Maps.keyOf_str Try.underlying9 hkey
  have hlit : litK (⟨(strOf p.1).toArray⟩ : ByteArray) = p.1 := by rw [hx']; simp [litK, strOf]
  have hh : has (madeL ps) (litK (⟨(strOf p.1).toArray⟩ : ByteArray)) = true := by
    rw [hD, has_eq, List.any_eq_true]
    exact ⟨p, hp, by rw [hlit, hx']; simp [Lit.sameKey]⟩
  have := made_fit hF hh
  exact ⟨Nat.le_trans this (by decide), Nat.le_trans hv (by decide)⟩
theorem MapAt.below {w w' : World} {b : Nat} {ps : List (ByteArray × ByteArray)} (h : MapAt w b ps) (hb : Below w.heap.size w w') : MapAt w' b ps := World.ownsMap.kept h (only_of_below hb none) (by simp)
theorem ents_len_le {w : World} {b : Nat} {ps : List (ByteArray × ByteArray)} (h : MapAt w b ps) : (entsD (madeL ps)).length ≤ ps.length := by
  rw [ents_len]
  have h1 := own_size h
  obtain ⟨es, hD, _⟩ := World.ownsMap.keysOf h
  rw [hD] at h1 ⊢
  show (es.map _).length ≤ _
  rw [List.length_map]
  exact h1
/-- the root of the map of the pairs -/
def rootP (ps : List (ByteArray × ByteArray)) : ByteArray := rootK 256 (entsD (madeL ps))
theorem rootOf_any (b : Nat) (ps : List (ByteArray × ByteArray)) (hsz : ps.length ≤ 12) (hF : FitP ps) (w : World) (hm : MapAt w b ps) :
    Calls Try.prog 18 #[.agg tabV, .map (some b)] w fun e w' => e = .returned (.string (rootP ps)) ∧ Below w.heap.size w w' :=
  sroot_any (.map (some b)) (entsD (madeL ps)) (by have := ents_len_le hm; omega) (ents_good _) (ents_fit hm hF) w (fun W hW => entries_any b ps hsz hF W (hm.below hW))
end Go.Proofs.Ytjdjndginacdnaa

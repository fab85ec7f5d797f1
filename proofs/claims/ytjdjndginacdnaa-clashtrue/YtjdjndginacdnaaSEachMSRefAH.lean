/-
  A proof that is taken of a map leads to the map's root. The reference's digest, layer 5.
-/
import Derived.Test.YtjdjndginacdnaaSEntMSEntSEnt2SMapR
import Derived.Test.YtjdjndginacdnaaSDnSClMSUnfMSVerM
import Derived.Test.YtjdjndginacdnaaHSumHStepSTree
namespace Go.Proofs.Ytjdjndginacdnaa
open Go.RowKit Go.Maps

theorem bitS_app (fl r : ByteArray) (hf : fl.size = 32) (i : Nat) (hi : i < 256) : bitS (fl ++ r) i = bitS fl i := by
  rw [← bitS_front (fl ++ r) i hi]
  congr 1
  rw [← hf]
  exact ByteArray.extract_append_eq_left rfl
theorem PrS.bit {p : ByteArray} {es : List Ent} {s : ByteArray} (h : PrS p es s) (i : Nat) (hi : i < 256) : bitS s i = tel p es i := by
  obtain ⟨fl, h1, h2, rfl⟩ := h
  rw [bitS_app fl _ h1 i hi, h2 i hi]
theorem rb_cnt {p : ByteArray} {es : List Ent} {s : ByteArray} (h : PrS p es s) : ∀ k, k ≤ 256 → (rb p es k).length = 32 * cntS s k
  | 0, _ => rfl
  | k + 1, hk => by
    have ih := rb_cnt h k (by omega)
    have hb : (bes p es k).data.toList.length = 32 := by rw [Array.length_toList]; exact bes_size p es k
    rw [rb, List.length_append, cntS_succ, h.bit k (by omega), ih]
    split <;> simp_all <;> omega
theorem rb_pre (p : ByteArray) (es : List Ent) (k : Nat) : ∀ m, ∃ r, rb p es (k + m) = rb p es k ++ r
  | 0 => ⟨[], by simp⟩
  | m + 1 => by
    obtain ⟨r, hr⟩ := rb_pre p es k m
    refine ⟨r ++ (if tel p es (k + m) then (bes p es (k + m)).data.toList else []), ?_⟩
    rw [← Nat.add_assoc, rb, hr, List.append_assoc]
theorem ext_list (s : ByteArray) (a b : Nat) : (s.extract a b).data.toList = (s.data.toList.drop a).take (b - a) := by
  simp [ByteArray.data_extract]
theorem PrS.size {p : ByteArray} {es : List Ent} {s : ByteArray} (h : PrS p es s) : s.size = (1 + cntS s 256) * 32 := by
  have hc := rb_cnt h 256 (Nat.le_refl _)
  obtain ⟨fl, h1, h2, h3⟩ := h
  have h4 : (⟨(rb p es 256).toArray⟩ : ByteArray).size = (rb p es 256).length := by
    show (rb p es 256).toArray.size = _
    rw [List.size_toArray]
  have h5 : s.size = 32 + (rb p es 256).length := by rw [h3, ByteArray.size_append, h1, h4]
  omega
theorem PrS.wf {p : ByteArray} {es : List Ent} {s : ByteArray} (h : PrS p es s) : wfS s = true := by
  have := h.size
  unfold wfS
  rw [Bool.and_eq_true, decide_eq_true_iff, decide_eq_true_iff]
  exact ⟨by omega, this⟩
theorem PrS.small {p : ByteArray} {es : List Ent} {s : ByteArray} (h : PrS p es s) : s.size ≤ 10000 := by
  have := h.size
  have := cntS_le s 256
  omega
theorem PrS.beside {p : ByteArray} {es : List Ent} {s : ByteArray} (h : PrS p es s) (i : Nat) (hi : i < 256) : besV s i = bes p es i := by
  unfold besV
  rw [h.bit i hi]
  cases ht : tel p es i with
  | false =>
    unfold tel at ht
    rw [decide_eq_false_iff_not, Classical.not_not] at ht
    rw [ht]
    rfl
  | true =>
    have hc := rb_cnt h i (by omega)
    have hb : (bes p es i).data.toList.length = 32 := by rw [Array.length_toList]; exact bes_size p es i
    obtain ⟨r, hr⟩ := rb_pre p es (i + 1) (256 - (i + 1))
    have hi1 : rb p es (i + 1) = rb p es i ++ (bes p es i).data.toList := by rw [rb, ht]; rfl
    rw [show i + 1 + (256 - (i + 1)) = 256 by omega, hi1] at hr
    have hs : s.data.toList.drop (32 + 32 * cntS s i) = (bes p es i).data.toList ++ r := by
      generalize cntS s i = c at *
      obtain ⟨fl, h1, h2, h3⟩ := h
      have hf : fl.data.toList.length = 32 := by rw [Array.length_toList]; exact h1
      have e : s.data.toList = fl.data.toList ++ (rb p es i ++ ((bes p es i).data.toList ++ r)) := by
        rw [h3, ByteArray.data_append, Array.toList_append, hr]
        simp
      rw [e, ← List.drop_drop, List.drop_left' hf, List.drop_left' hc]
    show s.extract (32 + 32 * cntS s i) (64 + 32 * cntS s i) = _
    refine ByteArray.ext (Array.toList_inj.1 ?_)
    rw [ext_list, hs, show 64 + 32 * cntS s i - (32 + 32 * cntS s i) = 32 by omega, List.take_left' hb]
theorem rootK_step (k : Nat) (es : List Ent) : rootK (k + 1) es = nodS (rootK k (zer (255 - k) es)) (rootK k (one (255 - k) es)) := by
  cases es with
  | nil =>
    rw [rootK, show zer (255 - k) [] = [] from rfl, show one (255 - k) [] = [] from rfl, rootK_nil, empK]
  | cons x r => rw [rootK]
theorem clL_nil (p : ByteArray) (V : Nat → ByteArray) (x : ByteArray) : clL p V x [] = x := rfl
theorem climb_root (p : ByteArray) (es : List Ent) : ∀ k, k ≤ 256 → clL p (bes p es) (rootK 0 (algN p 256 es)) (dn k) = rootK k (algN p (256 - k) es)
  | 0, _ => by
    rw [Nat.sub_zero, show dn 0 = [] from List.take_zero]
    exact clL_nil ..
  | k + 1, hk => by
    have ih := climb_root p es k (by omega)
    have e : algN p (256 - k) es = alg (255 - k) p (algN p (255 - k) es) := by
      rw [show 256 - k = (255 - k) + 1 by omega, algN]
    have eb : bes p es (255 - k) = rootK k (oth (255 - k) p (algN p (255 - k) es)) := by
      unfold bes
      rw [show 255 - (255 - k) = k by omega]
    rw [dn_succ k (by omega), clL_snoc, ih, rootK_step, show 256 - (k + 1) = 255 - k by omega, e]
    unfold clStep
    simp only
    rw [eb]
    unfold alg oth
    split <;> rfl
theorem fold_same {α β : Type} (f g : α → β → α) (h : ∀ x i, f x i = g x i) (x : α) (l : List β) : l.foldl f x = l.foldl g x := by
  rw [show f = g from funext fun x => funext fun i => h x i]
theorem clStep_congr (p : ByteArray) (V V' : Nat → ByteArray) (n : ByteArray) (i : Fin 256) (h : V i.1 = V' i.1) : clStep p V n i = clStep p V' n i := by
  unfold clStep
  rw [h]
theorem clL_congr (p : ByteArray) (V V' : Nat → ByteArray) (h : ∀ i, i < 256 → V i = V' i) (x : ByteArray) (l : List (Fin 256)) : clL p V x l = clL p V' x l := by
  unfold clL
  exact fold_same _ _ (fun n i => clStep_congr p V V' n i (h i.1 i.2)) x l
theorem mem_algN {p : ByteArray} {x : Ent} {es : List Ent} : ∀ {k}, x ∈ algN p k es ↔ x ∈ es ∧ ∀ j, j < k → bitS x.path j = bitS p j
  | 0 => ⟨fun h => ⟨h, fun j hj => absurd hj (Nat.not_lt_zero _)⟩, fun h => h.1⟩
  | k + 1 => by
    rw [algN]
    have e : x ∈ alg k p (algN p k es) ↔ x ∈ algN p k es ∧ bitS x.path k = bitS p k := by
      unfold alg zer one
      cases hb : bitS p k <;> simp [List.mem_filter]
    rw [e, mem_algN (k := k)]
    constructor
    · rintro ⟨⟨h1, h2⟩, h3⟩
      refine ⟨h1, fun j hj => ?_⟩
      rcases Nat.lt_succ_iff_lt_or_eq.1 hj with h | h
      · exact h2 j h
      · rw [h]; exact h3
    · rintro ⟨h1, h2⟩
      exact ⟨⟨h1, fun j hj => h2 j (by omega)⟩, h2 k (by omega)⟩
theorem bits_all {x y : ByteArray} (hx : x.size = 32) (hy : y.size = 32) (h : ∀ j, j < 256 → bitS x j = bitS y j) : x = y := by
  have lx := nums_get_lt x
  have ly := nums_get_lt y
  have hn : ∀ t, t < 32 → (nums x).getD t 0 = (nums y).getD t 0 := fun t ht => by
    have := top_same _ _ (lx t) (ly t) 8 (Nat.le_refl _) fun j hj => by
      have := h (8 * t + j) (by omega)
      unfold bitS at this
      rwa [show (8 * t + j) / 8 = t by omega, show (8 * t + j) % 8 = j by omega] at this
    simpa using this
  refine nums_inj (List.ext_getElem (by rw [nums_length, nums_length, hx, hy]) fun t h1 h2 => ?_)
  have := hn t (by rw [nums_length, hx] at h1; exact h1)
  simpa [List.getD_eq_getElem?_getD, h1, h2] using this
end Go.Proofs.Ytjdjndginacdnaa
namespace Go.Proofs.Ytjdjndginacdnaa
open Go.RowKit

set_option maxRecDepth 100000 in
set_option maxHeartbeats 400000 in
theorem rh5_any (b : ByteArray) (hn : b.size ≤ 1099511627776) (w : World) :
    Calls Try.prog 26 #[.string b] w fun e w' => e = .returned (.string (hB b)) ∧ Below w.heap.size w w' := by
  have HS := Lib.hid (fun W => refsum_any b hn W)
  change Hid (∀ W, Calls Try.prog 33 _ W fun e w' => e = .returned (.string (hB b)) ∧ Below W.heap.size W w') at HS
  generalize hB b = R at *
  go_enter Try.func26, Try.ntmps26
  go_wp2_with fail
  refine (HS.out _).mono ?_
  rintro e w' ⟨rfl, hB⟩
  go_wp2
  go_ret
  exact ⟨rfl, hB⟩
end Go.Proofs.Ytjdjndginacdnaa

/-
  entries: the walk.
-/
import Derived.Test.YtjmjkcgldencoaaGreatSEnt
import Derived.Test.YtjmjkcgldencoaaGreatSSrt
namespace Go.Proofs.YtjmjkcgldencoaaGreat
open Go.RowKit Go.Sort Go.Maps

theorem look_some {ps : List (ByteArray × ByteArray)} {x v : ByteArray} (h : lookP ps x = some v) : (x, v) ∈ ps := by
  induction ps using snoc_ind with
  | h0 => cases h
  | h1 l a ih =>
    rw [lookP_snoc] at h
    split at h
    · next e => injection h with h; rw [← e, ← h]; simp
    · exact List.mem_append_left _ (ih h)
theorem made_fit {ps : List (ByteArray × ByteArray)} (hF : FitP ps) {x : ByteArray} (h : has (madeL ps) (litK x) = true) : x.size ≤ 250 := by
  rw [made_has] at h
  obtain ⟨v, hv⟩ := Option.isSome_iff_exists.1 h
  exact (hF _ (look_some hv)).1
theorem keys_perm {D : DataW Unit} {ks : List ByteArray} (h : (ks.map (·.data.toList)).Perm (strKeys D)) : srt ks = srt (keysD D) := by
  refine srt_perm ?_
  have := h.map fun l : List UInt8 => (⟨l.toArray⟩ : ByteArray)
  rw [List.map_map] at this
  have e : ks.map ((fun l : List UInt8 => (⟨l.toArray⟩ : ByteArray)) ∘ fun x => x.data.toList) = ks := by
    conv => rhs; rw [← List.map_id ks]
    exact List.map_congr_left fun x _ => of_toList x
  rw [e] at this
  exact this
theorem OwnEn.at {w : World} {B : Nat} {v : Value} {es : List Ent} (h : OwnEn w B v es) : (v = .slice none 0 0 ∧ es = []) ∨ ∃ g cap, v = .slice (some ⟨g, 0, none⟩) es.length cap := by
  rcases h.2 with ⟨hv, hn⟩ | ⟨g, cap, cur, hv, _⟩
  · exact .inl ⟨hv, List.length_eq_zero_iff.1 hn⟩
  · exact .inr ⟨g, cap, hv⟩
section
attribute [-go_sem] loadVar
set_option maxRecDepth 100000 in
set_option maxHeartbeats 2000000 in
theorem entries_any (b : Nat) (ps : List (ByteArray × ByteArray)) (hsz : ps.length ≤ 1000) (hF : FitP ps) (w : World) (hm : MapAt w b ps) :
    Calls Tryz.prog 60 #[.agg tabV, .map (some b)] w (REs (entsD (madeL ps)) w) := by
  have HKB := Lib.hid (fun x h => made_fit hF (x := x) h)
  unfold MapAt at hm
  generalize madeL ps = D at *
  generalize ps.length = n at *
  have hbl := hm.lt
  have hm0 := hm.alloc (.cells tabV 47)
  have hT0 : Blk (w.alloc (.cells tabV 47)) w.heap.size 47 tabV := Blk.new _ _ _
  have hB0 := (Below.refl _ w).alloc (Nat.le_refl _) (.cells tabV 47)
  have e1 : (w.alloc (.cells tabV 47)).heap.size = w.heap.size + 1 := by simp
  have hsn := own_size hm
  have HRE : Hid (∀ e w', REs (entsD D) w e w' = ∃ oa cap, e = .returned (.slice oa (entsD D).length cap) ∧ (entsD D).length ≤ cap ∧ Ents w' w'.heap.size oa (entsD D) ∧ Below w.heap.size w w') := Lib.hid fun _ _ => rfl
  generalize REs (entsD D) w = PO at *
  have HPO := Lib.hid (fun (k : ByteArray) (hk : k.size ≤ 250) W => pathOf_any k (by omega) W)
  have HS0 := Lib.hid (fun W => sort_none none 0 (.func (.func 79) #[] #[]) W)
  have HS1 := Lib.hid (fun g cap (ks : List ByteArray) (h12 : ks.length ≤ 1000000) W hH hg => sort_all (valD D) g cap ks W hH hg h12)
  clear hF hm
  go_enter Tryz.func60, Tryz.ntmps60
  go_wp2_with (first
    | (at_range; refine wpList_range_own _ rfl _ 55 rfl 9 9 keyed Tryz.underlying55 _ b n _ rfl hm0 ?_; intro w1 hrg1 hg1 hs1)
    | go_in)
  go_frame
  rw [e1] at hrg1 hs1 ⊢
  have hT1 := hT0.grown hg1 (by simp)
  have hB1 := hB0.grown hg1 (by rw [e1]; omega) (fun j hj => by cases hj)
  clear hT0 hB0 hg1 hs1 hm0 e1
  go_loopw [5] (fun v wr => ∃ (left : Lit → Bool) (cnt : Nat) (ks : List ByteArray), wr.ranges Tryz.prog 9 (plainElem (H := Unit) Tryz.prog 9) b (w.heap.size + 1) n D left cnt ∧ Collected D left (ks.map (·.data.toList)) ∧ OwnEn wr (w.heap.size + 1 + 1) v (ks.map (entK (valD D))) ∧ ks.length + cnt ≤ n ∧ Blk wr w.heap.size 47 tabV ∧ Below w.heap.size w wr) (fun _ wr => wr.rangeLeft b (w.heap.size + 1))
  case atStart => exact ⟨_, _, [], hrg1, Collected.start D, ownEn_nil _ _, by simpa using hsn, hT1, hB1⟩
  case round =>
    clear hrg1 hT1 hB1
    obtain ⟨left, cnt, ks, hrg, hC, hown, hcnt, hT, hB⟩ := hrel
    go_wp2_with (first
      | (at_next; refine wpList_next_ranges _ rfl _ rfl 9 keyed (plainElem (H := Unit) Tryz.prog 9) (fun x : ByteArray => Value.string x) (fun x : ByteArray => Value.string x) invK invV b (w.heap.size + 1) n D left cnt rfl hrg ?_ ?_)
      | go_in)
    · intro hc0 hl0
      have HE : Hid (entsD D = (srt ks).map (entK (valD D))) := Lib.hid (by unfold entsD; rw [← keys_perm (hC.perm hrg.owns keyed Tryz.underlying9 hl0)])
      have HLN : Hid (((srt ks).map (entK (valD D))).length = ks.length) := Lib.hid (by rw [List.length_map]; unfold srt; rw [List.length_mergeSort])
      rcases hown.at with ⟨rfl, hk0⟩ | ⟨g, cap, hv⟩
      · have hk00 : ks = [] := by simpa using hk0
        subst hk00
        clear hrg hC hown hT
        go_wp2_with fail
        refine (HS0.out _).mono ?_
        rintro e w2 ⟨rfl, rfl⟩
        go_wp2
        rw [HRE.out, HE.out]
        have e0 : srt [] = [] := by simp [srt]
        rw [e0]
        exact ⟨none, 0, rfl, Nat.le_refl _, .inl rfl, hB⟩
      · rw [List.length_map] at hv
        subst hv
        obtain ⟨hH, hgl, hge, hcap⟩ := own_holds hown
        have HSO := Lib.hid (HS1.out g cap ks (by omega) wr hH hgl)
        have HSE := Lib.hid (fun m os => sorted_ents (valD D) wr g m ks os hH hgl (srt ks) (by unfold srt; rw [List.length_mergeSort]))
        generalize ks.length = nk at *
        clear hrg hC hown hT hH
        go_wp2_with fail
        refine HSO.out.mono ?_
        rintro e w2 ⟨rfl, m, os, rfl⟩
        obtain ⟨hE2, hg2⟩ := HSE.out m os
        have hB2 := hB.grown hg2 hB.size (fun j hj => by injection hj; omega)
        generalize sortedW (valD D) wr g m (srt ks).toArray os = w3 at *
        go_wp2
        rw [HRE.out, HE.out, HLN.out]
        exact ⟨some ⟨g, 0, none⟩, cap, rfl, hcap, .inr ⟨g, 0, rfl, hE2.1, hE2⟩, hB2⟩
    · intro x c kl y yl w2 cnt2 hkey hlk hv hat hrg2 hlt hg2 hs2 hen
      obtain ⟨x', ex, rfl, hxl⟩ := Maps.keyOf_str Tryz.underlying9 hkey
      have hxx : x = ⟨x'.toArray⟩ := by injection ex
      subst hxx
      obtain ⟨c', hc', hy, _⟩ := plainElem_string_inv Tryz.underlying9 hv
      injection hc' with hc'
      subst hc'
      injection hy with hy
      subst hy
      have hlit : litK (⟨x'.toArray⟩ : ByteArray) = .string x' := by simp [litK]
      have hat2 : ∀ zd, D.atKey (litK (⟨x'.toArray⟩ : ByteArray)) zd = datV c := fun zd => by rw [hlit]; exact hat zd
      have hval : valD D (⟨x'.toArray⟩ : ByteArray) = c := valD_of hat2
      have hx60 := HKB.out _ (has_true_of_atKey hat2)
      have hC2 := hC.step hlk hat
      obtain ⟨X, hX⟩ : ∃ X : ByteArray, (⟨x'.toArray⟩ : ByteArray) = X := ⟨_, rfl⟩
      have hXl : X.data.toList = x' := by rw [← hX]
      rw [hX] at hval hx60 hen ⊢
      have HCC : Hid (Collected D (fun z => left z && !z.sameKey (.string x')) ((ks ++ [X]).map (·.data.toList))) := Lib.hid (by rw [List.map_append]; simp only [List.map_cons, List.map_nil, hXl]; exact hC2)
      have hT2 := hT.grown hg2 (by intro e; injection e; omega)
      have hown2 := hown.grown hg2 (by
        cases hv : u5.ownBlock with
        | none => exact .inl rfl
        | some z => refine .inr fun e => ?_; injection e with e; have := (World.ownsRow.lt hown z hv).1; omega)
      have hB2 := hB.grown hg2 hB.size (fun j hj => by injection hj; omega)
      have hl2 := tab_run hT2
      have HP1 := Lib.hid (HPO.out X hx60)
      have HEN : Hid (entK (valD D) X = ⟨pathS X, X, c⟩) := Lib.hid (by unfold entK; rw [hval])
      generalize pathS X = pX at *
      have HRG := Lib.hid hrg
      clear hat hat2 hC hC2 hT hown hB hkey hv hlk hlit hval hX hXl hxl hrg hg2
      go_wp2_with fail
      refine (HP1.out _).mono ?_
      rintro e w3 ⟨rfl, hb3⟩
      have hrg3 := hrg2.kept (only_of_below hb3 none) (by simp) (by simp)
      have hown3 := hown2.below hb3
      have hT3 := hT2.below hb3 hT2.lt
      have hB3 := hB2.trans (hb3.mono hB2.size)
      clear hrg2 hown2 hT2 hB2 hb3 hen hl2
      go_wp2_with (at_builtin; refine wpList_append_ent rfl _ _ rfl (w.heap.size + 1 + 1) u5 (ks.map (entK (valD D))) rfl hown3 ⟨pX, X, c⟩ rfl (by rw [List.length_map]; omega) (by have := hrg3.lt; omega) ?_)
      intro g5 c5 w5 hown5 hg5
      have hrg5 := hrg3.kept hg5 (fun e => by have := (World.ownsRow.lt hown3 b e.symm).1; omega) (fun e => by have := (World.ownsRow.lt hown3 (w.heap.size + 1) e.symm).1; omega)
      have hT5 := hT3.grown hg5 (fun e => by have := (World.ownsRow.lt hown3 w.heap.size e.symm).1; omega)
      have hB5 := hB3.grown hg5 hB3.size (fun z hz => by have := (World.ownsRow.lt hown3 z hz).1; omega)
      rw [← HEN.out] at hown5
      clear hrg3 hown3 hT3 hB3 hg5
      go_wp2
      go_roundw
      case rel => exact ⟨_, cnt2, ks ++ [X], hrg5, HCC.out, by rw [List.map_append]; exact hown5, by rw [List.length_append]; simp; omega, hT5, hB5⟩
      case measure => rw [hrg5.left_eq, HRG.out.left_eq]; exact hlt
end
end Go.Proofs.YtjmjkcgldencoaaGreat

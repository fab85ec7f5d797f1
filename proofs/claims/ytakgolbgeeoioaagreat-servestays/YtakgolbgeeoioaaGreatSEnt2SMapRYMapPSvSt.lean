/-
  entries: the walk. The root of a map of pairs. Map: the program's; the map behind the first requests. What a state tells: its heads, the leaves and the map behind a head.
-/
import Derived.Test.YtakgolbgeeoioaaGreatYLeavesSEntSSrt
import Derived.Test.YtakgolbgeeoioaaGreatYSlYStYFirst
import Derived.Test.YtakgolbgeeoioaaGreatYRef3SRefD
import Derived.Test.YtakgolbgeeoioaaGreatSvMathYStateMLeaf
namespace Go.Proofs.YtakgolbgeeoioaaGreat
open Go.RowKit Go.Sort Go.Maps

theorem look_some {ps : List (ByteArray × ByteArray)} {x v : ByteArray} (h : lookP ps x = some v) : (x, v) ∈ ps := by
 induction ps using snoc_ind with
 | h0 => cases h
 | h1 l a ih =>
  rw [lookP_snoc] at h
  split at h
  · next e => injection h with h; rw [← e, ← h]; simp
  · exact List.mem_append_left _ (ih h)
theorem made_fit {ps : List (ByteArray × ByteArray)} (hF : FitP ps) {x : ByteArray} (h : has (madeL ps) (litK x) = true) : x.size ≤ 250 := by
 rw [made_has] at h
 obtain ⟨v, hv⟩ := Option.isSome_iff_exists.1 h
 exact (hF _ (look_some hv)).1
theorem keys_perm {D : DataW Unit} {ks : List ByteArray} (h : (ks.map (·.data.toList)).Perm (strKeys D)) : srt ks = srt (keysD D) := by
 refine srt_perm ?_
 have := h.map fun l : List UInt8 => (⟨l.toArray⟩ : ByteArray)
 rw [List.map_map] at this
 have e : ks.map ((fun l : List UInt8 => (⟨l.toArray⟩ : ByteArray)) ∘ fun x => x.data.toList) = ks := by
  conv => rhs; rw [← List.map_id ks]
  exact List.map_congr_left fun x _ => of_toList x
 rw [e] at this
 exact this
theorem OwnEn.at {w : World} {B : Nat} {v : Value} {es : List Ent} (h : OwnEn w B v es) : (v = .slice none 0 0 ∧ es = []) ∨ ∃ g cap, v = .slice (some ⟨g, 0, none⟩) es.length cap := by
 rcases h.2 with ⟨hv, hn⟩ | ⟨g, cap, cur, hv, _⟩
 · exact .inl ⟨hv, List.length_eq_zero_iff.1 hn⟩
 · exact .inr ⟨g, cap, hv⟩
section
attribute [-go_sem] loadVar
set_option maxRecDepth 100000 in
set_option maxHeartbeats 2000000 in
theorem entries_any (b : Nat) (ps : List (ByteArray × ByteArray)) (hsz : ps.length ≤ 1000) (hF : FitP ps) (w : World) (hm : MapAt w b ps) :
 Calls Tryz.prog 80 #[.agg tabV, .map (some b)] w (REs (entsD (madeL ps)) w) := by
 have HKB := Lib.hid (fun x h => made_fit hF (x := x) h)
 unfold MapAt at hm
 generalize madeL ps = D at *
 generalize ps.length = n at *
 have hbl := hm.lt
 have hm0 := hm.alloc (.cells tabV 29)
 have hT0 : Blk (w.alloc (.cells tabV 29)) w.heap.size 29 tabV := Blk.new _ _ _
 have hB0 := (Below.refl _ w).alloc (Nat.le_refl _) (.cells tabV 29)
 have e1 : (w.alloc (.cells tabV 29)).heap.size = w.heap.size + 1 := by simp
 have hsn := own_size hm
 have HRE : Hid (∀ e w', REs (entsD D) w e w' = ∃ oa cap, e = .returned (.slice oa (entsD D).length cap) ∧ (entsD D).length ≤ cap ∧ Ents w' w'.heap.size oa (entsD D) ∧ Below w.heap.size w w') := Lib.hid fun _ _ => rfl
 generalize REs (entsD D) w = PO at *
 have HPO := Lib.hid (fun (k : ByteArray) (hk : k.size ≤ 250) W => pathOf_any k (by omega) W)
 have HS0 := Lib.hid (fun W => sort_none none 0 (.func (.func 104) #[] #[]) W)
 have HS1 := Lib.hid (fun g cap (ks : List ByteArray) (h12 : ks.length ≤ 1000000) W hH hg => sort_all (valD D) g cap ks W hH hg h12)
 clear hF hm
 go_enter Tryz.func80, Tryz.ntmps80
 go_wp2_with (first
  | (at_range; refine wpList_range_own _ rfl _ 110 rfl 9 9 keyed Tryz.underlying110 _ b n _ rfl hm0 ?_; intro w1 hrg1 hg1 hs1)
  | go_in)
 go_frame
 rw [e1] at hrg1 hs1 ⊢
 have hT1 := hT0.grown hg1 (by simp)
 have hB1 := hB0.grown hg1 (by rw [e1]; omega) (fun j hj => by cases hj)
 clear hT0 hB0 hg1 hs1 hm0 e1
 go_loopw [5] (fun v wr => ∃ (left : Lit → Bool) (cnt : Nat) (ks : List ByteArray), wr.ranges Tryz.prog 9 (plainElem (H := Unit) Tryz.prog 9) b (w.heap.size + 1) n D left cnt ∧ Collected D left (ks.map (·.data.toList)) ∧ OwnEn wr (w.heap.size + 1 + 1) v (ks.map (entK (valD D))) ∧ ks.length + cnt ≤ n ∧ Blk wr w.heap.size 29 tabV ∧ Below w.heap.size w wr) (fun _ wr => wr.rangeLeft b (w.heap.size + 1))
 case atStart => exact ⟨_, _, [], hrg1, Collected.start D, ownEn_nil _ _, by simpa using hsn, hT1, hB1⟩
 case round =>
  clear hrg1 hT1 hB1
  obtain ⟨left, cnt, ks, hrg, hC, hown, hcnt, hT, hB⟩ := hrel
  go_wp2_with (first
   | (at_next; refine wpList_next_ranges _ rfl _ rfl 9 keyed (plainElem (H := Unit) Tryz.prog 9) (fun x : ByteArray => Value.string x) (fun x : ByteArray => Value.string x) invK invV b (w.heap.size + 1) n D left cnt rfl hrg ?_ ?_)
   | go_in)
  · intro hc0 hl0
    have HE : Hid (entsD D = (srt ks).map (entK (valD D))) := Lib.hid (by unfold entsD; rw [← keys_perm (hC.perm hrg.owns keyed Tryz.underlying9 hl0)])
    have HLN : Hid (((srt ks).map (entK (valD D))).length = ks.length) := Lib.hid (by rw [List.length_map]; unfold srt; rw [List.length_mergeSort])
    rcases hown.at with ⟨rfl, hk0⟩ | ⟨g, cap, hv⟩
    · have hk00 : ks = [] := by simpa using hk0
      subst hk00
      clear hrg hC hown hT
      go_wp2_with fail
      refine (HS0.out _).mono ?_
      rintro e w2 ⟨rfl, rfl⟩
      go_wp2
      rw [HRE.out, HE.out]
      have e0 : srt [] = [] := by simp [srt]
      rw [e0]
      exact ⟨none, 0, rfl, Nat.le_refl _, .inl rfl, hB⟩
    · rw [List.length_map] at hv
      subst hv
      obtain ⟨hH, hgl, hge, hcap⟩ := own_holds hown
      have HSO := Lib.hid (HS1.out g cap ks (by omega) wr hH hgl)
      have HSE := Lib.hid (fun m os => sorted_ents (valD D) wr g m ks os hH hgl (srt ks) (by unfold srt; rw [List.length_mergeSort]))
      generalize ks.length = nk at *
      clear hrg hC hown hT hH
      go_wp2_with fail
      refine HSO.out.mono ?_
      rintro e w2 ⟨rfl, m, os, rfl⟩
      obtain ⟨hE2, hg2⟩ := HSE.out m os
      have hB2 := hB.grown hg2 hB.size (fun j hj => by injection hj; omega)
      generalize sortedW (valD D) wr g m (srt ks).toArray os = w3 at *
      go_wp2
      rw [HRE.out, HE.out, HLN.out]
      exact ⟨some ⟨g, 0, none⟩, cap, rfl, hcap, .inr ⟨g, 0, rfl, hE2.1, hE2⟩, hB2⟩
  · intro x c kl y yl w2 cnt2 hkey hlk hv hat hrg2 hlt hg2 hs2 hen
    obtain ⟨x', ex, rfl, hxl⟩ := Maps.keyOf_str Tryz.underlying9 hkey
    have hxx : x = ⟨x'.toArray⟩ := by injection ex
    subst hxx
    obtain ⟨c', hc', hy, _⟩ := plainElem_string_inv Tryz.underlying9 hv
    injection hc' with hc'
    subst hc'
    injection hy with hy
    subst hy
    have hlit : litK (⟨x'.toArray⟩ : ByteArray) = .string x' := by simp [litK]
    have hat2 : ∀ zd, D.atKey (litK (⟨x'.toArray⟩ : ByteArray)) zd = datV c := fun zd => by rw [hlit]; exact hat zd
    have hval : valD D (⟨x'.toArray⟩ : ByteArray) = c := valD_of hat2
    have hx60 := HKB.out _ (has_true_of_atKey hat2)
    have hC2 := hC.step hlk hat
    obtain ⟨X, hX⟩ : ∃ X : ByteArray, (⟨x'.toArray⟩ : ByteArray) = X := ⟨_, rfl⟩
    have hXl : X.data.toList = x' := by rw [← hX]
    rw [hX] at hval hx60 hen ⊢
    have HCC : Hid (Collected D (fun z => left z && !z.sameKey (.string x')) ((ks ++ [X]).map (·.data.toList))) := Lib.hid (by rw [List.map_append]; simp only [List.map_cons, List.map_nil, hXl]; exact hC2)
    have hT2 := hT.grown hg2 (by intro e; injection e; omega)
    have hown2 := hown.grown hg2 (by
     cases hv : u5.ownBlock with
     | none => exact .inl rfl
     | some z => refine .inr fun e => ?_; injection e with e; have := (World.ownsRow.lt hown z hv).1; omega)
    have hB2 := hB.grown hg2 hB.size (fun j hj => by injection hj; omega)
    have hl2 := tab_run hT2
    have HP1 := Lib.hid (HPO.out X hx60)
    have HEN : Hid (entK (valD D) X = ⟨pathS X, X, c⟩) := Lib.hid (by unfold entK; rw [hval])
    generalize pathS X = pX at *
    have HRG := Lib.hid hrg
    clear hat hat2 hC hC2 hT hown hB hkey hv hlk hlit hval hX hXl hxl hrg hg2
    go_wp2_with fail
    refine (HP1.out _).mono ?_
    rintro e w3 ⟨rfl, hb3⟩
    have hrg3 := hrg2.kept (only_of_below hb3 none) (by simp) (by simp)
    have hown3 := hown2.below hb3
    have hT3 := hT2.below hb3 hT2.lt
    have hB3 := hB2.trans (hb3.mono hB2.size)
    clear hrg2 hown2 hT2 hB2 hb3 hen hl2
    go_wp2_with (at_builtin; refine wpList_append_ent rfl _ _ rfl (w.heap.size + 1 + 1) u5 (ks.map (entK (valD D))) rfl hown3 ⟨pX, X, c⟩ rfl (by rw [List.length_map]; omega) (by have := hrg3.lt; omega) ?_)
    intro g5 c5 w5 hown5 hg5
    have hrg5 := hrg3.kept hg5 (fun e => by have := (World.ownsRow.lt hown3 b e.symm).1; omega) (fun e => by have := (World.ownsRow.lt hown3 (w.heap.size + 1) e.symm).1; omega)
    have hT5 := hT3.grown hg5 (fun e => by have := (World.ownsRow.lt hown3 w.heap.size e.symm).1; omega)
    have hB5 := hB3.grown hg5 hB3.size (fun z hz => by have := (World.ownsRow.lt hown3 z hz).1; omega)
    rw [← HEN.out] at hown5
    clear hrg3 hown3 hT3 hB3 hg5
    go_wp2
    go_roundw
    case rel => exact ⟨_, cnt2, ks ++ [X], hrg5, HCC.out, by rw [List.map_append]; exact hown5, by rw [List.length_append]; simp; omega, hT5, hB5⟩
    case measure => rw [hrg5.left_eq, HRG.out.left_eq]; exact hlt
end
end Go.Proofs.YtakgolbgeeoioaaGreat
namespace Go.Proofs.YtakgolbgeeoioaaGreat
open Go.RowKit Go.Maps

theorem ents_fit {w : World} {b : Nat} {ps : List (ByteArray × ByteArray)} (h : MapAt w b ps) (hF : FitP ps) : Fit (entsD (madeL ps)) := by
 intro x hx
 obtain ⟨k, hk, rfl⟩ := List.mem_map.1 hx
 have hv : (valD (madeL ps) k).size ≤ 250 := by
  unfold valD
  rw [made_at]
  cases hl : lookP ps k with
  | none => exact Nat.zero_le _
  | some v =>
   show (⟨v.data.toList.toArray⟩ : ByteArray).size ≤ 250
   rw [of_toList]
   exact (hF _ (look_some hl)).2
 have hk2 : k ∈ keysD (madeL ps) := (List.mergeSort_perm (keysD (madeL ps)) _).mem_iff.1 hk
 obtain ⟨l, hl, rfl⟩ := List.mem_map.1 hk2
 obtain ⟨es, hD, hko⟩ := World.ownsMap.keysOf h
 rw [hD] at hl
 obtain ⟨p, hp, rfl⟩ := List.mem_map.1 hl
 obtain ⟨key, hkey⟩ := hko p hp
 obtain ⟨x', _, hx', _⟩ := Maps.keyOf_str Tryz.underlying9 hkey
 have hlit : litK (⟨(strOf p.1).toArray⟩ : ByteArray) = p.1 := by rw [hx']; simp [litK, strOf]
 have hh : has (madeL ps) (litK (⟨(strOf p.1).toArray⟩ : ByteArray)) = true := by
  rw [hD, has_eq, List.any_eq_true]
  exact ⟨p, hp, by rw [hlit, hx']; simp [Lit.sameKey]⟩
 have := made_fit hF hh
 exact ⟨Nat.le_trans this (by decide), Nat.le_trans hv (by decide)⟩
theorem MapAt.below {w w' : World} {b : Nat} {ps : List (ByteArray × ByteArray)} (h : MapAt w b ps) (hb : Below w.heap.size w w') : MapAt w' b ps := World.ownsMap.kept h (only_of_below hb none) (by simp)
theorem ents_len_le {w : World} {b : Nat} {ps : List (ByteArray × ByteArray)} (h : MapAt w b ps) : (entsD (madeL ps)).length ≤ ps.length := by
 rw [ents_len]
 have h1 := own_size h
 obtain ⟨es, hD, _⟩ := World.ownsMap.keysOf h
 rw [hD] at h1 ⊢
 show (es.map _).length ≤ _
 rw [List.length_map]
 exact h1
/-- the root of the map of the pairs -/
def rootP (ps : List (ByteArray × ByteArray)) : ByteArray := rootK 256 (entsD (madeL ps))
theorem rootOf_any (b : Nat) (ps : List (ByteArray × ByteArray)) (hsz : ps.length ≤ 1000) (hF : FitP ps) (w : World) (hm : MapAt w b ps) :
 Calls Tryz.prog 49 #[.agg tabV, .map (some b)] w fun e w' => e = .returned (.string (rootP ps)) ∧ Below w.heap.size w w' :=
 sroot_any (.map (some b)) (entsD (madeL ps)) (by have := ents_len_le hm; omega) (ents_good _) (ents_fit hm hF) w (fun W hW => entries_any b ps hsz hF W (hm.below hW))
end Go.Proofs.YtakgolbgeeoioaaGreat
namespace Go.Proofs.YtakgolbgeeoioaaGreat
open Go.RowKit Go.Maps

section
attribute [-go_sem] loadVar
set_option maxRecDepth 100000 in
set_option maxHeartbeats 2000000 in
theorem mapS_any (oa : Option Addr) (N ca : Nat) (x y z u : Lst) (vb : Value) (n : Int) (tk : List Req) (hN : tk.length = N) (hle : N ≤ ca) (hN2 : N ≤ 1000) (hn : -9223372036854775808 ≤ n ∧ n ≤ 9223372036854775807) (hz : SzQ tk) (w : World) (hP : RowG reqK w oa tk) :
 Calls Tryz.prog 50 #[.agg (cellsS (.slice oa N ca) x y z u vb), .int .i64 n] w (RM (prsQ (tk.take (nearN n N))) w) := by
 have HF1 : Hid (∀ W, Calls Tryz.prog 76 #[.agg (cellsS (.slice oa N ca) x y z u vb), .int .i64 n] W fun e w' => e = .returned (.slice oa (nearN n N) ca) ∧ Below W.heap.size W w') := Lib.hid fun W => first_any oa N ca x y z u vb n hle (by omega) hn W
 have hk := nearN_le n N
 obtain ⟨m, hm⟩ : ∃ m, nearN n N = m := ⟨_, rfl⟩
 rw [hm] at hk HF1 ⊢
 have HRM : Hid (∀ e w', RM (prsQ (tk.take m)) w e w' = ∃ b, e = .returned (.map (some b)) ∧ w.heap.size ≤ b ∧ MapAt w' b (prsQ (tk.take m)) ∧ Below w.heap.size w w') := Lib.hid fun _ _ => rfl
 have HLM : Hid ((fun k => prsQ (tk.take k)) m = prsQ (tk.take m)) := Lib.hid rfl
 have HF0 := Lib.hid (show prsQ (tk.take 0) = [] from rfl)
 have HFL := Lib.hid (show ∀ k, k ≤ m → (prsQ (tk.take k)).length ≤ k from fun k hk => by have := prsQ_len (tk.take k); rw [List.length_take] at this; omega)
 have HFS : Hid (∀ k, k < m → ∃ r : Req, (r.k.size ≤ 100 ∧ r.v.size ≤ 150) ∧ prsQ (tk.take (k + 1)) = prsQ (tk.take k) ++ (if r.k.toList.isEmpty then [] else [(r.k, r.v)]) ∧ ∃ g o, oa = some ⟨g, o, none⟩ ∧ ∀ W, Below w.heap.size w W → (loadVar 61 ⟨g, o + k * 5, none⟩).run Tryz.prog W = .ok (.agg #[.int .i64 r.c, .int .i64 r.q, .string r.l, .string r.k, .string r.v]) W) := Lib.hid fun k hk => by
  obtain ⟨g, o, h1, h2, _⟩ := req_at hP (i := k) (by omega)
  refine ⟨tk[k]'(by omega), (hz.get (by omega)).2, prsQ_take tk k (by omega), g, o, h1, fun W hW => ?_⟩
  have := hP.below hW
  rw [h1] at this
  exact RowG.load reqOk this (List.getElem?_eq_getElem (by omega))
 have hmm := @run_makeMap Tryz.prog
 obtain ⟨w0, hw0⟩ : ∃ w0, w.alloc (.cells (cellsS (.slice oa N ca) x y z u vb) 40) = w0 := ⟨_, rfl⟩
 have hb0 : Below w.heap.size w w0 := by rw [← hw0]; exact (Below.refl _ w).alloc (Nat.le_refl _) _
 have k0 : Blk w0 w.heap.size 40 (cellsS (.slice oa N ca) x y z u vb) := by rw [← hw0]; exact Blk.new _ _ _
 obtain ⟨w1, hw1⟩ : ∃ w1, w0.alloc (.map #[] 0) = w1 := ⟨_, rfl⟩
 have hb01 : Below w0.heap.size w0 w1 := by rw [← hw1]; exact (Below.refl _ w0).alloc (Nat.le_refl _) _
 have hm0 : MapAt w1 w0.heap.size [] := by rw [← hw1]; exact World.ownsMap_made w0 _ _ _
 have hb1 := hb0.trans (hb01.mono hb0.size)
 have l0 := st_load (cellsS_size _ _ _ _ _ _) (k0.below hb01 k0.lt)
 have hs0 : w.heap.size < w0.heap.size := k0.lt
 have HW0 := Lib.hid hw0
 have HW1 := Lib.hid hw1
 generalize RM (prsQ (tk.take m)) w = PO at *
 generalize prsQ (tk.take m) = L at *
 generalize hF : (fun k => prsQ (tk.take k)) = F at *
 have hF' : ∀ k, prsQ (tk.take k) = F k := fun k => by rw [← hF]
 simp only [hF'] at HF0 HFS HFL
 clear hF hF' hz hP hN hw0 hm hw1 k0 hb01
 obtain ⟨gm, hgm⟩ : ∃ gm, w0.heap.size = gm := ⟨_, rfl⟩
 have HGM := Lib.hid hgm
 rw [hgm] at hm0 hs0
 clear hgm
 go_enter Tryz.func50, Tryz.ntmps50
 go_wp2_with (first | rw [HW0.out] | rw [HW1.out, HGM.out])
 refine (HF1.out w1).mono ?_
 rintro e w2 ⟨rfl, hb2⟩
 have hm2 := hm0.below hb2
 have hb02 := hb1.trans (hb2.mono hb1.size)
 clear hm0 hb1 hb2 l0 hmm
 go_wp2_with fail
 go_loopw [13] (fun i wr => ∃ k : Nat, k ≤ m ∧ i = .int .i64 k ∧ MapAt wr gm (F k) ∧ Below w.heap.size w wr) (fun i _ => m - (intOf i).toNat)
 case atStart => exact ⟨0, by omega, rfl, by rw [HF0.out]; exact hm2, hb02⟩
 case round =>
  clear hm2 hb02
  obtain ⟨k, hkm, rfl, hmap, hB⟩ := hrel
  by_cases hlt : k < m
  · have hlt' : (k : Int) < (m : Int) := by omega
    obtain ⟨r, hr, hfs, g, o, rfl, hld⟩ := HFS.out k hlt
    have d0 := hld wr hB
    have HFK := Lib.hid hfs
    have hfl := HFL.out k hkm
    obtain ⟨rc, rq, rl, rk, rv⟩ := r
    dsimp only at d0 hr HFK
    obtain ⟨w3, hw3⟩ : ∃ w3, wr.alloc (.cells #[.int .i64 rc, .int .i64 rq, .string rl, .string rk, .string rv] 61) = w3 := ⟨_, rfl⟩
    have hb3 : Below wr.heap.size wr w3 := by rw [← hw3]; exact (Below.refl _ wr).alloc (Nat.le_refl _) _
    have k9 : Blk w3 wr.heap.size 61 #[.int .i64 rc, .int .i64 rq, .string rl, .string rk, .string rv] := by rw [← hw3]; exact Blk.new _ _ _
    have d3 := txt_load (k9.cell 3)
    have d4 := txt_load (k9.cell 4)
    change (loadVar 9 ⟨wr.heap.size, 3, none⟩).run Tryz.prog w3 = .ok (.string rk) w3 at d3
    change (loadVar 9 ⟨wr.heap.size, 4, none⟩).run Tryz.prog w3 = .ok (.string rv) w3 at d4
    have hm3 := hmap.below hb3
    have hB3 := hB.trans (hb3.mono hB.size)
    have HW3 := Lib.hid hw3
    clear hfs hld hw3 hb3 k9 hmap hB
    cases he : rk.toList.isEmpty with
    | true =>
     rw [if_pos he, List.append_nil] at HFK
     go_wp2_with (rw [HW3.out])
     go_roundw
     case rel => exact ⟨k + 1, by omega, by go_num, by rw [HFK.out]; exact hm3, hB3⟩
     case measure => simp [intOf]; omega
    | false =>
     rw [if_neg (by rw [he]; decide)] at HFK
     obtain ⟨w4, hrun, hown4, hg4⟩ := World.ownsMap.update hm3 keyed Tryz.underlying110 (by unfold maxLen; omega) (Go.WideMaps.keyOf_string_mk Tryz.underlying9 (s := rk) (by unfold maxLen; omega)) (plainElem_string (H := Unit) Tryz.underlying9 (s := rv) (by unfold maxLen; omega))
     have hB4 : Below w.heap.size w w4 := hB3.grown hg4 hB3.size (fun i hi => by injection hi; omega)
     have HM4 : Hid (MapAt w4 gm (F (k + 1))) := Lib.hid (by
      unfold MapAt
      rw [HFK.out, madeL_snoc, List.length_append]
      exact hown4)
     clear hown4 hg4
     go_wp2_with (rw [HW3.out])
     go_roundw
     case rel => exact ⟨k + 1, by omega, by go_num, HM4.out, hB4⟩
     case measure => simp [intOf]; omega
  · obtain rfl : k = m := by omega
    have hlt' : ¬ (k : Int) < (k : Int) := by omega
    go_wp2
    rw [HRM.out]
    exact ⟨gm, rfl, by omega, by rw [← HLM.out]; exact hmap, hB⟩
end
end Go.Proofs.YtakgolbgeeoioaaGreat
namespace Go.Proofs.YtakgolbgeeoioaaGreat
open Go.RowKit

/-- what Head answers: its size, whether it is there; of one that is there its bytes -/
def RHd (hd : List Hd) (a : Int) (w : World) (e : Ending) (w' : World) : Prop := (∃ q t r m, e = .returned (.tuple #[.agg #[.int .i64 q, .int .i64 (zQ hd a : Int), .int .i64 t, .string r, .string m], .bool (headAt hd a).2]) ∧ r.size ≤ 100 ∧ m.size ≤ 100 ∧ headB q (zQ hd a) t r m = hdB1 (headAt hd a).1) ∧ Below w.heap.size w w'
theorem nearN_in {n N : Nat} (h : n ≤ N) : nearN (n : Int) N = n := by unfold nearN; omega
section
variable {w : World} {P : Nat → Prop} {cs : Array Value} {W : Wd}
theorem head_of (hi : InvW W) (hS : StC w P cs W) (a : Int) (ha : -9223372036854775808 ≤ a ∧ a ≤ 9223372036854775807) : Calls Tryz.prog 46 #[.agg cs, .int .i64 a] w (RHd W.hd a w) := by
 obtain ⟨va, vb, rfl, _, ⟨ob, cb, rfl, hD, _, _, _⟩⟩ := hS
 have h64 := hi.most
 have hh := hi.heads
 refine (stHead_any va _ _ _ _ ob W.hd.length cb W.hd rfl (by omega) a ha w hD).mono ?_
 rintro e w' ⟨rfl, hb⟩
 refine ⟨⟨(headAt W.hd a).1.q, (headAt W.hd a).1.t, (headAt W.hd a).1.r, (headAt W.hd a).1.m, ?_, ?_⟩, hb⟩
 · rw [← (hi.zQ a).1]
   rfl
 · rw [← (hi.zQ a).1]
   cases h : (headAt W.hd a).2 with
   | false => rw [(headAt_no h).1]; exact ⟨by decide, by decide, rfl⟩
   | true =>
    obtain ⟨j, hj, _, e⟩ := headAt_yes h
    rw [e]
    have := hi.roots (W.hd.getD j default) (by rw [List.getD_eq_getElem?_getD, List.getElem?_eq_getElem hj]; exact List.getElem_mem hj)
    exact ⟨by show (W.hd.getD j default).r.size ≤ 100; omega, by show (W.hd.getD j default).m.size ≤ 100; omega, rfl⟩
theorem leaves_of (hi : InvW W) (hS : StC w P cs W) (a : Int) : Calls Tryz.prog 48 #[.agg cs, .agg tabV, .int .i64 (zQ W.hd a : Int)] w (RT (lfsQ W.tk W.hd a) w) := by
 obtain ⟨va, vb, rfl, ⟨oa, ca, rfl, hA, hc, _, _⟩, _⟩ := hS
 have h64 := hi.most
 have hz := (hi.zQ a).2.1
 have := leavesS_any oa W.tk.length ca (lastW 0 W) (lastW 1 W) (lastW 2 W) (lastW 3 W) vb (zQ W.hd a : Int) W.tk rfl hc (by omega) (by omega) hi.szq w hA
 rw [nearN_in hz] at this
 exact this
theorem map_of (hi : InvW W) (hS : StC w P cs W) (a : Int) : Calls Tryz.prog 50 #[.agg cs, .int .i64 (zQ W.hd a : Int)] w (RM (prQ W.tk W.hd a) w) := by
 obtain ⟨va, vb, rfl, ⟨oa, ca, rfl, hA, hc, _, _⟩, _⟩ := hS
 have h64 := hi.most
 have hz := (hi.zQ a).2.1
 have := mapS_any oa W.tk.length ca (lastW 0 W) (lastW 1 W) (lastW 2 W) (lastW 3 W) vb (zQ W.hd a : Int) W.tk rfl hc (by omega) (by omega) hi.szq w hA
 rw [nearN_in hz] at this
 exact this
end
theorem lfsQ_len {W : Wd} (hi : InvW W) (a : Int) : (lfsQ W.tk W.hd a).length = zQ W.hd a := by
 unfold lfsQ
 rw [List.length_map, List.length_take]
 have := (hi.zQ a).2.1
 omega
theorem lfsQ_sz (tk : List Req) (hd : List Hd) (a : Int) : Sz (lfsQ tk hd a) := fun x hx => by
 obtain ⟨r, _, rfl⟩ := List.mem_map.1 hx
 unfold leafQ leafM
 rw [hB_size]
 decide
section
attribute [-go_sem] loadVar
set_option maxRecDepth 100000 in
set_option maxHeartbeats 2000000 in
/-- a head's answer -/
theorem shead_any (P : Nat → Prop) (cs : Array Value) (W : Wd) (hi : InvW W) (a : Int) (ha : -9223372036854775808 ≤ a ∧ a ≤ 9223372036854775807) (w : World) (hS : StC w P cs W) :
 Calls Tryz.prog 24 #[.agg cs, .int .i64 a] w fun e w' => (∃ s n, e = .returned (.tuple #[.string s, .int .i64 n]) ∧ AnsH W.hd a s n) ∧ Below w.heap.size w w' := by
 obtain ⟨w0, hw0⟩ : ∃ w0, w.alloc (.cells cs 40) = w0 := ⟨_, rfl⟩
 have hb0 : Below w.heap.size w w0 := by rw [← hw0]; exact (Below.refl _ w).alloc (Nat.le_refl _) _
 have k0 : Blk w0 w.heap.size 40 cs := by rw [← hw0]; exact Blk.new _ _ _
 have l0 := st_load hS.size k0
 have HH := Lib.hid (head_of hi (hS.below hb0) a ha)
 have HR := Lib.hid (show ∀ e w', RHd W.hd a w0 e w' = ((∃ q t r m, e = .returned (.tuple #[.agg #[.int .i64 q, .int .i64 (zQ W.hd a : Int), .int .i64 t, .string r, .string m], .bool (headAt W.hd a).2]) ∧ r.size ≤ 100 ∧ m.size ≤ 100 ∧ headB q (zQ W.hd a) t r m = hdB1 (headAt W.hd a).1) ∧ Below w0.heap.size w0 w') from fun _ _ => rfl)
 have HY : Hid ((headAt W.hd a).2 = true → AnsH W.hd a (hdB1 (headAt W.hd a).1) 0) := Lib.hid fun h => by unfold AnsH; rw [if_pos h]; exact ⟨rfl, rfl⟩
 have HN : Hid ((headAt W.hd a).2 = false → AnsH W.hd a ⟨#[]⟩ 5) := Lib.hid fun h => by unfold AnsH; rw [if_neg (by rw [h]; decide)]; exact ⟨rfl, rfl⟩
 generalize RHd W.hd a w0 = PR at *
 generalize AnsH W.hd a = PA at *
 generalize hdB1 (headAt W.hd a).1 = HB at *
 generalize (headAt W.hd a).2 = ok at *
 generalize zQ W.hd a = z at *
 have HW0 := Lib.hid hw0
 clear hw0 hS k0 hi
 go_enter Tryz.func24, Tryz.ntmps24
 go_wp2_with (rw [HW0.out])
 refine HH.out.mono ?_
 rintro e w1 he
 rw [HR.out] at he
 obtain ⟨⟨q, t, r, m, rfl, hr, hm, hhb⟩, hb1⟩ := he
 obtain ⟨w2, hw2⟩ : ∃ w2, w1.alloc (.cells #[.int .i64 q, .int .i64 z, .int .i64 t, .string r, .string m] 51) = w2 := ⟨_, rfl⟩
 have hb2 : Below w1.heap.size w1 w2 := by rw [← hw2]; exact (Below.refl _ w1).alloc (Nat.le_refl _) _
 have k2 : Blk w2 w1.heap.size 51 #[.int .i64 q, .int .i64 z, .int .i64 t, .string r, .string m] := by rw [← hw2]; exact Blk.new _ _ _
 have hB2 := (hb0.trans (hb1.mono hb0.size)).trans (hb2.mono (by have := hb0.size; have := hb1.size; omega))
 have l2 : (loadVar 51 ⟨w1.heap.size, 0, none⟩).run Tryz.prog w2 = .ok (.agg #[.int .i64 q, .int .i64 z, .int .i64 t, .string r, .string m]) w2 :=
  run_loadVar_row w2 w1.heap.size 51 51 _ (0, 0) _ k2 Tryz.underlying51 rfl info5
 have HW2 := Lib.hid hw2
 have HC := Lib.hid (head_any q z t r m (by omega) (by omega) w2)
 rw [hhb] at HC
 unfold headV at HC
 obtain ⟨g, hg⟩ : ∃ g, w1.heap.size = g := ⟨_, rfl⟩
 have HG := Lib.hid hg
 rw [hg] at l2
 clear hw2 hb1 hb2 k2 hb0 l0 HH HR hhb hg
 cases ok with
 | false =>
  have hA := HN.out rfl
  go_wp2_with (first | rw [HW2.out, HG.out] | rw [HW2.out])
  go_ret2
  exact ⟨⟨_, _, rfl, hA⟩, hB2⟩
 | true =>
  have hA := HY.out rfl
  go_wp2_with (first | rw [HW2.out, HG.out] | rw [HW2.out])
  refine HC.out.mono ?_
  rintro e w3 ⟨rfl, hb3⟩
  have hB3 := hB2.trans (hb3.mono hB2.size)
  go_wp2
  go_ret2
  exact ⟨⟨_, _, rfl, hA⟩, hB3⟩
end
end Go.Proofs.YtakgolbgeeoioaaGreat

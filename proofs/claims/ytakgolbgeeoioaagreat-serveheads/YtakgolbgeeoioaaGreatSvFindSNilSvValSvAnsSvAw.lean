/-
  Whether a key is in a map, and its value: the walk through the map. Prove over what entries answers. Whether a key is in the map behind a head, its value and the proof: the walk. Answer: what is asked of a state. What every law of layer 13 asks first.
-/
import Derived.Test.YtakgolbgeeoioaaGreatSvMathYStateMLeaf
import Derived.Test.YtakgolbgeeoioaaGreatSEnt2SMapRYMapPSvSt
import Derived.Test.YtakgolbgeeoioaaGreatLoadsSProveMPath
import Derived.Test.YtakgolbgeeoioaaGreatSRootSNilRSOrd2SMap
import Derived.Test.YtakgolbgeeoioaaGreatMProveRCatAWListSvPr
import Derived.Test.YtakgolbgeeoioaaGreatSvBegSvLeaf
namespace Go.Proofs.YtakgolbgeeoioaaGreat
open Go.RowKit Go.Sort Go.Maps

theorem told_yes {ps : List (ByteArray × ByteArray)} {key c : ByteArray} (h : ∀ zd, (madeL ps).atKey (litK key) zd = datV c) : tolB ps key = ⟨#[49]⟩ ∧ valB1 ps key = c := by
 have h1 := has_true_of_atKey h
 rw [made_has] at h1
 obtain ⟨v, hv⟩ := Option.isSome_iff_exists.1 h1
 have h2 := h (datV v)
 rw [made_at, hv] at h2
 have h3 : datV v = datV c := h2
 have h4 := Lit.string.inj (DataW.lit.inj h3)
 have h5 : v = c := ByteArray.ext (Array.toList_inj.1 h4)
 unfold tolB valB1
 rw [hv, h5]
 exact ⟨rfl, rfl⟩
theorem told_no {ps : List (ByteArray × ByteArray)} {key : ByteArray} (h : has (madeL ps) (litK key) = false) : tolB ps key = ⟨#[48]⟩ ∧ valB1 ps key = ⟨#[]⟩ := by
 rw [made_has] at h
 unfold tolB valB1
 cases hl : lookP ps key with
 | none => exact ⟨rfl, rfl⟩
 | some v => rw [hl] at h; cases h
theorem lit_ne {a b : ByteArray} (h : a ≠ b) : (litK a).sameKey (litK b) = false := by
 cases hs : (litK a).sameKey (litK b) with
 | false => rfl
 | true =>
  have : a.data.toList = b.data.toList := by simpa [litK, Lit.sameKey] using hs
  exact absurd (ByteArray.ext (Array.toList_inj.1 this)) h
section
set_option maxRecDepth 100000 in
set_option maxHeartbeats 2000000 in
theorem find_any (b : Nat) (ps : List (ByteArray × ByteArray)) (key : ByteArray) (w : World) (hm : MapAt w b ps) :
 Calls Tryz.prog 60 #[.map (some b), .string key] w fun e w' => e = .returned (.tuple #[.string (tolB ps key), .string (valB1 ps key)]) ∧ Below w.heap.size w w' := by
 have HY := Lib.hid (fun c h => told_yes (ps := ps) (key := key) (c := c) h)
 have HN := Lib.hid (fun h => told_no (ps := ps) (key := key) h)
 unfold MapAt at hm
 generalize madeL ps = D at *
 generalize ps.length = n at *
 generalize tolB ps key = TB at *
 generalize valB1 ps key = VB at *
 have hB0 := Below.refl w.heap.size w
 go_enter Tryz.func60, Tryz.ntmps60
 go_wp2_with (first
  | (at_range; refine wpList_range_own _ rfl _ 110 rfl 9 9 keyed Tryz.underlying110 _ b n _ rfl hm ?_; intro w1 hrg1 hg1 hs1)
  | go_in)
 go_frame
 have hsn := hm.lt
 have hB1 := hB0.grown hg1 (Nat.le_refl _) (fun j hj => by cases hj)
 clear hB0 hg1 hs1
 go_loopw [] (fun wr => ∃ (left : Lit → Bool) (cnt : Nat), wr.ranges Tryz.prog 9 (plainElem (H := Unit) Tryz.prog 9) b w.heap.size n D left cnt ∧ Hid (has D (litK key) = true → left (litK key) = true) ∧ Below w.heap.size w wr) (fun wr => wr.rangeLeft b w.heap.size)
 case atStart => exact ⟨_, _, hrg1, Lib.hid fun h => h, hB1⟩
 case round =>
  clear hrg1 hB1
  obtain ⟨left, cnt, hrg, HL, hB⟩ := hrel
  go_wp2_with (first
   | (at_next; refine wpList_next_ranges _ rfl _ rfl 9 keyed (plainElem (H := Unit) Tryz.prog 9) (fun x : ByteArray => Value.string x) (fun x : ByteArray => Value.string x) invK invV b w.heap.size n D left cnt rfl hrg ?_ ?_)
   | go_in)
  · intro hc0 hl0
    obtain ⟨e1, e2⟩ := HN.out (by
     cases hh : has D (litK key) with
     | false => rfl
     | true => have := HL.out hh; rw [hl0] at this; cases this)
    go_wp2
    go_ret2
    rw [e1, e2]
    exact ⟨rfl, hB⟩
  · intro x c kl y yl w2 cnt2 hkey hlk hv hat hrg2 hlt hg2 hs2 hen
    obtain ⟨x', ex, rfl, hxl⟩ := Maps.keyOf_str Tryz.underlying9 hkey
    have hxx : x = ⟨x'.toArray⟩ := by injection ex
    subst hxx
    obtain ⟨c', hc', hy, _⟩ := plainElem_string_inv Tryz.underlying9 hv
    injection hc' with hc'
    subst hc'
    injection hy with hy
    subst hy
    have hlit : litK (⟨x'.toArray⟩ : ByteArray) = .string x' := by simp [litK]
    have hat2 : ∀ zd, D.atKey (litK (⟨x'.toArray⟩ : ByteArray)) zd = datV c := fun zd => by rw [hlit]; exact hat zd
    have HAT := Lib.hid hat2
    have HLT := Lib.hid hlit
    have hB2 := hB.grown hg2 hB.size (fun j hj => by injection hj; omega)
    obtain ⟨X, hX⟩ : ∃ X : ByteArray, (⟨x'.toArray⟩ : ByteArray) = X := ⟨_, rfl⟩
    rw [hX] at HAT HLT hen ⊢
    have HRG := Lib.hid hrg
    clear hkey hxl hX hat hat2 hlit hv hg2 hs2 hrg hB
    by_cases hk : X = key
    · subst hk
      obtain ⟨e1, e2⟩ := HY.out _ HAT.out
      have ht : (X.toList == X.toList) = true := beq_self_eq_true _
      go_wp2_with fail
      go_ret2
      exact ⟨rfl, hB2⟩
    · have ht : (X.toList == key.toList) = false := by
       rw [beq_eq_false_iff_ne]
       exact fun e => hk (ByteArray.ext (Array.toList_inj.1 (by rw [← ByteArray.toList_eq, ← ByteArray.toList_eq]; exact e)))
      have HL2 : Hid (has D (litK key) = true → (left (litK key) && !(litK key).sameKey (.string x')) = true) := Lib.hid fun h => by
       rw [HL.out h, ← HLT.out, lit_ne (fun e => hk e.symm)]
       rfl
      go_wp2_with fail
      go_roundw
      case rel => exact ⟨_, _, hrg2, HL2, hB2⟩
      case measure => rw [hrg2.left_eq, HRG.out.left_eq]; exact hlt
end
end Go.Proofs.YtakgolbgeeoioaaGreat
namespace Go.Proofs.YtakgolbgeeoioaaGreat
open Go.RowKit

section
attribute [-go_sem] loadVar
set_option maxRecDepth 100000 in
set_option maxHeartbeats 2000000 in
theorem sprove_any (mv : Value) (es : List Ent) (hsz : es.length ≤ 1000000) (hG : Good 0 es) (hF : Fit es) (k : ByteArray) (hk : k.size ≤ 1073741824) (w : World)
    (hent : ∀ W, Below w.heap.size w W → Calls Tryz.prog 80 #[.agg tabV, mv] W (REs es W)) :
    Calls Tryz.prog 61 #[.agg tabV, mv, .string k] w fun e w' => (∃ s, PrS (pathS k) es s ∧ e = .returned (.string s)) ∧ Below w.heap.size w w' := by
  have hB0 := (Below.refl _ w).alloc (Nat.le_refl _) (.cells tabV 29)
  have hT0 : Blk (w.alloc (.cells tabV 29)) w.heap.size 29 tabV := Blk.new _ _ _
  have HPL := Lib.hid plant_any
  have HPO := Lib.hid (pathOf_any k hk)
  have HPR := Lib.hid (fun g oa cap hc W hT hE => prove_any g (pathS k) (pathS_size k) oa _ cap es rfl hsz hc hG hF W hT hE)
  have HEN := Lib.hid hent
  unfold REs at HEN
  generalize pathS k = pk at *
  obtain ⟨w0, hw0⟩ : ∃ w0, w.alloc (.cells tabV 29) = w0 := ⟨_, rfl⟩
  have HW := Lib.hid hw0
  rw [hw0] at hB0 hT0
  have HB0 := Lib.hid hB0
  have HKP : Hid (∀ W, Below w0.heap.size w0 W → (loadVar 29 ⟨w.heap.size, 0, none⟩).run Tryz.prog W = .ok (.agg tabV) W ∧ Below w0.heap.size w0 W) := Lib.hid fun W hW => ⟨tab_run (hT0.below hW hT0.lt), hW⟩
  clear hent hw0 hT0 hB0 hG hF hk hsz
  go_enter Tryz.func61, Tryz.ntmps61
  go_wp2
  rw [HW.out]
  go_region_held3 (fun w' => (loadVar 29 ⟨w.heap.size, 0, none⟩).run Tryz.prog w' = .ok (.agg tabV) w' ∧ Below w0.heap.size w0 w')
    ((refine HKP.out _ ?_; first | exact hE4 | exact hE3 | exact hE2 | exact hE1 | exact (Below.refl _ _).drew | exact Below.refl _ _))
    (first
      | (have := hE3; go_at_call 90; refine (HPR.out _ oa cap hc3 _ hT3 hn3).mono ?_; rintro e y4 ⟨⟨s, hs, rfl⟩, hy4⟩; have hE4 : Below w0.heap.size w0 y4 := hE3.trans (hy4.mono hE3.size))
      | (have := hE2; go_at_call 80; refine (HEN.out _ (HB0.out.trans (hE2.mono HB0.out.size))).mono ?_; rintro e y3 ⟨oa, cap, rfl, hc3, hn3, hy3⟩; have hE3 : Below w0.heap.size w0 y3 := hE2.trans (hy3.mono hE2.size); have hT3 := Blk.below hT2 hy3 hT2.lt)
      | (have := hE1; go_at_call 91; refine (HPO.out _).mono ?_; rintro e y2 ⟨rfl, hy2⟩; have hE2 : Below w0.heap.size w0 y2 := hE1.trans (hy2.mono hE1.size); have hT2 := Blk.below hT1 hy2 hT1.lt)
      | (go_at_call 78; refine (HPL.out _).mono ?_; rintro e y1 ⟨rfl, hT1, hy1⟩; have hE1 : Below w0.heap.size w0 y1 := (Below.refl _ _).drew.trans hy1))
  have hB9 := HB0.out.trans (hE4.mono HB0.out.size)
  go_wp2
  go_ret
  exact ⟨⟨s, hs, rfl⟩, hB9⟩
end
theorem algN_nil (p : ByteArray) : ∀ k, algN p k [] = []
  | 0 => rfl
  | k + 1 => by rw [algN, algN_nil p k]; unfold alg; split <;> rfl
theorem rb_nil (p : ByteArray) : ∀ k, k ≤ 256 → rb p [] k = []
  | 0, _ => rfl
  | k + 1, h => by
    have ht : tel p [] k = false := by
      unfold tel bes
      rw [algN_nil]
      have : oth k p [] = [] := by unfold oth; split <;> rfl
      rw [this, rootK_nil, emp, show 256 - (k + 1) = 255 - k by omega]
      simp
    rw [rb, rb_nil p k (by omega), ht]
    rfl
end Go.Proofs.YtakgolbgeeoioaaGreat
namespace Go.Proofs.YtakgolbgeeoioaaGreat
open Go.RowKit

theorem own_three (W : World) (a b c : ByteArray) : Own (W.alloc (.cells #[.string a, .string b, .string c] 9)) W.heap.size (.slice (some ⟨W.heap.size, 0, none⟩) 3 3) [a, b, c] :=
 ⟨rfl, .inr ⟨W.heap.size, 3, #[.string a, .string b, .string c], rfl, Nat.le_refl _, Blk.new _ _ _, Nat.le_refl _, by decide, rfl, rfl⟩⟩
theorem strs_three (W : World) (a b c : ByteArray) : Strs (W.alloc (.cells #[.string a, .string b, .string c] 9)) (some ⟨W.heap.size, 0, none⟩) [a, b, c] := by
 obtain ⟨oa, cap, h, hs⟩ := (own_three W a b c).form
 injection h with h1
 rw [h1]
 exact hs
/-- how long a proof is -/
theorem PrS.le {p : ByteArray} {es : List Ent} {s : ByteArray} (h : PrS p es s) : s.size ≤ 10000 := by
 obtain ⟨fl, h1, _, rfl⟩ := h
 have h2 := rb_len p es 256
 rw [ByteArray.size_append, h1]
 show 32 + (rb p es 256).toArray.size ≤ _
 rw [List.size_toArray]
 omega
theorem tolB_size (ps : List (ByteArray × ByteArray)) (k : ByteArray) : (tolB ps k).size = 1 := by unfold tolB; split <;> rfl
theorem valB1_size {ps : List (ByteArray × ByteArray)} (hF : FitP ps) (k : ByteArray) : (valB1 ps k).size ≤ 250 := by
 unfold valB1
 cases hl : lookP ps k with
 | none => exact Nat.zero_le _
 | some v => exact (hF _ (look_some hl)).2
section
attribute [-go_sem] loadVar
set_option maxRecDepth 100000 in
set_option maxHeartbeats 4000000 in
theorem sval_any (P : Nat → Prop) (cs : Array Value) (W : Wd) (hi : InvW W) (key : ByteArray) (hk : key.size ≤ 1073741824) (a : Int) (ha : -9223372036854775808 ≤ a ∧ a ≤ 9223372036854775807) (w : World) (hS : StC w P cs W) :
 Calls Tryz.prog 27 #[.agg tabV, .agg cs, .string key, .int .i64 a] w fun e w' => (∃ s n, e = .returned (.tuple #[.string s, .int .i64 n]) ∧ AnsK W.tk W.hd key a s n) ∧ Below w.heap.size w w' := by
 obtain ⟨w0, hw0⟩ : ∃ w0, (w.alloc (.cells tabV 29)).alloc (.cells cs 40) = w0 := ⟨_, rfl⟩
 have hb0 : Below w.heap.size w w0 := by rw [← hw0]; exact ((Below.refl _ w).alloc (Nat.le_refl _) _).alloc (by simp) _
 have kT : Blk w0 w.heap.size 29 tabV := by rw [← hw0]; exact (Blk.new _ _ _).alloc _
 have kS : Blk w0 (w.heap.size + 1) 40 cs := by rw [← hw0]; exact Blk.new_at (by simp)
 have hgs : w.heap.size + 1 < w0.heap.size := kS.lt
 have hS0 := hS.below hb0
 have HLS : Hid (∀ X, Below w0.heap.size w0 X → (loadVar 40 ⟨w.heap.size + 1, 0, none⟩).run Tryz.prog X = .ok (.agg cs) X) := Lib.hid fun X hX => st_load hS.size (kS.below hX kS.lt)
 have HLT : Hid (∀ X, Below w0.heap.size w0 X → (loadVar 29 ⟨w.heap.size, 0, none⟩).run Tryz.prog X = .ok (.agg tabV) X) := Lib.hid fun X hX => tab_run (kT.below hX kT.lt)
 have HHa : Hid (∀ X, Below w0.heap.size w0 X → Calls Tryz.prog 46 #[.agg cs, .int .i64 a] X fun e w' => (∃ q t r m, e = .returned (.tuple #[.agg #[.int .i64 q, .int .i64 (zQ W.hd a : Int), .int .i64 t, .string r, .string m], .bool (headAt W.hd a).2])) ∧ Below X.heap.size X w') := Lib.hid fun X hX => (head_of hi (hS0.below hX) a ha).mono fun e w' ⟨⟨q, t, r, m, he, _⟩, hb⟩ => ⟨⟨q, t, r, m, he⟩, hb⟩
 have h64 := hi.most
 have hfit : FitP (prQ W.tk W.hd a) := prsQ_fit hi.szq _
 have hpl : (prQ W.tk W.hd a).length ≤ 64 := by
  have := prsQ_len (W.tk.take (zQ W.hd a))
  rw [List.length_take] at this
  unfold prQ
  omega
 have HMP : Hid (∀ X, Below w0.heap.size w0 X → Calls Tryz.prog 50 #[.agg cs, .int .i64 (zQ W.hd a : Int)] X fun e w' => ∃ b, e = .returned (.map (some b)) ∧ MapAt w' b (prQ W.tk W.hd a) ∧ Below X.heap.size X w') := Lib.hid fun X hX => (map_of hi (hS0.below hX) a).mono fun e w' ⟨b, he, _, hm, hb⟩ => ⟨b, he, hm, hb⟩
 have HPR : Hid (∀ b X, MapAt X b (prQ W.tk W.hd a) → Calls Tryz.prog 61 #[.agg tabV, .map (some b), .string key] X fun e w' => (∃ s, PrS (pathS key) (entsD (madeL (prQ W.tk W.hd a))) s ∧ e = .returned (.string s)) ∧ Below X.heap.size X w') := Lib.hid fun b X hm =>
  sprove_any (.map (some b)) (entsD (madeL (prQ W.tk W.hd a))) (by have := ents_len_le hm; omega) (ents_good _) (ents_fit hm hfit) key hk X (fun Y hY => entries_any b (prQ W.tk W.hd a) (by omega) hfit Y (hm.below hY))
 have HFI : Hid (∀ b X, MapAt X b (prQ W.tk W.hd a) → Calls Tryz.prog 60 #[.map (some b), .string key] X fun e w' => e = .returned (.tuple #[.string (tolB (prQ W.tk W.hd a) key), .string (valB1 (prQ W.tk W.hd a) key)]) ∧ Below X.heap.size X w') := Lib.hid fun b X hm => find_any b _ key X hm
 have HLI : Hid (∀ s, PrS (pathS key) (entsD (madeL (prQ W.tk W.hd a))) s → ∀ X, Calls Tryz.prog 57 #[.slice (some ⟨X.heap.size, 0, none⟩) 3 3] (X.alloc (.cells #[.string (tolB (prQ W.tk W.hd a) key), .string (valB1 (prQ W.tk W.hd a) key), .string s] 9)) fun e w' => e = .returned (.string (listB [tolB (prQ W.tk W.hd a) key, valB1 (prQ W.tk W.hd a) key, s])) ∧ Below X.heap.size X w') := Lib.hid fun s hs X => by
  refine (list_any (some ⟨X.heap.size, 0, none⟩) 3 3 [tolB (prQ W.tk W.hd a) key, valB1 (prQ W.tk W.hd a) key, s] rfl ?_ (by omega) _ (strs_three X _ _ _)).mono ?_
  · have := hs.le
    have := tolB_size (prQ W.tk W.hd a) key
    have := valB1_size hfit key
    show (txt _ ++ (txt _ ++ (txt _ ++ ⟨#[]⟩))).size ≤ _
    rw [ByteArray.size_append, ByteArray.size_append, ByteArray.size_append, txt_size, txt_size, txt_size]
    show _ + (_ + (_ + 0)) ≤ _
    omega
  · rintro e w' ⟨rfl, hb⟩
    exact ⟨rfl, ((Below.refl _ X).alloc (Nat.le_refl _) _).trans (hb.mono (by simp))⟩
 have HYES : Hid (¬ 50 < key.size → (headAt W.hd a).2 = true → ∀ s, PrS (pathS key) (entsD (madeL (prQ W.tk W.hd a))) s → AnsK W.tk W.hd key a (listB [tolB (prQ W.tk W.hd a) key, valB1 (prQ W.tk W.hd a) key, s]) 0) := Lib.hid fun h1 h2 s hs => by
  unfold AnsK
  rw [if_neg h1, if_pos h2]
  exact ⟨rfl, s, hs, rfl⟩
 have HNO : Hid (¬ 50 < key.size → (headAt W.hd a).2 = false → AnsK W.tk W.hd key a ⟨#[]⟩ 5) := Lib.hid fun h1 h2 => by
  unfold AnsK
  rw [if_neg h1, if_neg (by rw [h2]; decide)]
  exact ⟨rfl, rfl⟩
 have HLG : Hid (50 < key.size → AnsK W.tk W.hd key a ⟨#[]⟩ 1) := Lib.hid fun h1 => by
  unfold AnsK
  rw [if_pos h1]
  exact ⟨rfl, rfl⟩
 generalize AnsK W.tk W.hd key a = PA at *
 generalize tolB (prQ W.tk W.hd a) key = TB at *
 generalize valB1 (prQ W.tk W.hd a) key = VB at *
 generalize entsD (madeL (prQ W.tk W.hd a)) = ES at *
 generalize prQ W.tk W.hd a = PQ at *
 generalize zQ W.hd a = z at *
 generalize (headAt W.hd a).2 = ok at *
 generalize PrS (pathS key) ES = PP at *
 have HW0 := Lib.hid hw0
 have HB0 := Lib.hid hb0
 clear hw0 hb0 hS hS0 kT kS hi hfit hpl h64
 have hr0 := Below.refl w0.heap.size w0
 by_cases hlong : 50 < key.size
 · have hl1 : (50 : Int) < (key.size : Int) := by omega
   have hA := HLG.out hlong
   clear HHa HMP HPR HFI HLI hr0
   go_enter Tryz.func27, Tryz.ntmps27
   go_wp2_with (rw [HW0.out])
   go_ret2
   exact ⟨⟨_, _, rfl, hA⟩, HB0.out⟩
 have hl1 : ¬ (50 : Int) < (key.size : Int) := by omega
 replace HYES := Lib.hid (HYES.out hlong)
 replace HNO := Lib.hid (HNO.out hlong)
 clear hlong HLG
 go_enter Tryz.func27, Tryz.ntmps27
 have ls1 := HLS.out w0 hr0
 go_wp2_with (rw [HW0.out])
 refine (HHa.out _ hr0).mono ?_
 rintro e x1 ⟨⟨q1, t1, r1, m1, rfl⟩, hx⟩
 obtain ⟨w1, hw1⟩ : ∃ y, x1.alloc (.cells #[.int .i64 q1, .int .i64 (z : Int), .int .i64 t1, .string r1, .string m1] 51) = y := ⟨_, rfl⟩
 have hy : Below x1.heap.size x1 w1 := by rw [← hw1]; exact (Below.refl _ x1).alloc (Nat.le_refl _) _
 have k1 : Blk w1 x1.heap.size 51 #[.int .i64 q1, .int .i64 (z : Int), .int .i64 t1, .string r1, .string m1] := by rw [← hw1]; exact Blk.new _ _ _
 have hxx := hr0.trans (hx.mono hr0.size)
 have hb1 : Below w0.heap.size w0 w1 := hxx.trans (hy.mono hxx.size)
 obtain ⟨g1, hg1⟩ : ∃ g, x1.heap.size = g := ⟨_, rfl⟩
 have HW1 := Lib.hid hw1
 have HG1 := Lib.hid hg1
 rw [hg1] at k1
 have HZ1 : Hid (∀ X, Below w1.heap.size w1 X → (loadVar 3 ⟨g1, 1, none⟩).run Tryz.prog X = .ok (.int .i64 (z : Int)) X) := Lib.hid fun X hX => num_load ((k1.below hX k1.lt).cell 1)
 clear ls1 hw1 hy hxx hg1 hx
 clear hr0 HHa hl1
 cases ok with
 | false =>
  have hA := HNO.out rfl
  have hB := HB0.out.trans (hb1.mono HB0.out.size)
  go_wp2_with (first | rw [HW1.out, HG1.out] | rw [HW1.out])
  go_ret2
  exact ⟨⟨_, _, rfl, hA⟩, hB⟩
 | true =>
  have ls := HLS.out w1 hb1
  have lz := HZ1.out w1 (Below.refl _ _)
  go_wp2_with (first | rw [HW1.out, HG1.out] | rw [HW1.out])
  refine (HMP.out _ hb1).mono ?_
  rintro e w2 ⟨b, rfl, hm2, hb2⟩
  have hB2 := hb1.trans (hb2.mono hb1.size)
  clear ls lz hb1 hb2 k1 HZ1
  go_wp2_with fail
  refine (HFI.out b w2 hm2).mono ?_
  rintro e w3 ⟨rfl, hb3⟩
  have hB3 := hB2.trans (hb3.mono hB2.size)
  have hm3 := hm2.below hb3
  have lt := HLT.out w3 hB3
  clear hB2 hb3 hm2
  go_wp2_with fail
  refine (HPR.out b w3 hm3).mono ?_
  rintro e w4 ⟨⟨s, hs, rfl⟩, hb4⟩
  have hB4 := hB3.trans (hb4.mono hB3.size)
  have hA := HYES.out (by first | rfl | trivial) s hs
  have HL4 := Lib.hid (HLI.out s hs w4)
  clear hB3 hb4 hm3 lt hs
  go_wp2_with fail
  refine HL4.out.mono ?_
  rintro e w5 ⟨rfl, hb5⟩
  have hB5 := hB4.trans (hb5.mono hB4.size)
  have hB6 := HB0.out.trans (hB5.mono HB0.out.size)
  go_wp2
  go_ret2
  exact ⟨⟨_, _, rfl, hA⟩, hB6⟩
end
end Go.Proofs.YtakgolbgeeoioaaGreat
namespace Go.Proofs.YtakgolbgeeoioaaGreat
open Go.RowKit

section
attribute [-go_sem] loadVar
set_option maxRecDepth 100000 in
set_option maxHeartbeats 4000000 in
theorem answer_any (P : Nat → Prop) (cs : Array Value) (W : Wd) (hi : InvW W) (q : Qry) (ha : -9223372036854775808 ≤ q.a ∧ q.a ≤ 9223372036854775807) (hb : -9223372036854775808 ≤ q.b ∧ q.b ≤ 9223372036854775807) (hk : q.key.size ≤ 1073741824) (w : World) (hS : StC w P cs W) :
 Calls Tryz.prog 11 #[.agg tabV, .agg cs, .agg q.enc] w fun e w' => (∃ s n, e = .returned (.tuple #[.string s, .int .i64 n]) ∧ Ans W.tk W.hd q s n) ∧ Below w.heap.size w w' := by
 obtain ⟨k, a, b, key⟩ := q
 dsimp only at ha hb hk
 change Calls Tryz.prog 11 #[.agg tabV, .agg cs, .agg #[.int .i64 k, .int .i64 a, .int .i64 b, .string key]] w _
 obtain ⟨w0, hw0⟩ : ∃ w0, ((w.alloc (.cells tabV 29)).alloc (.cells cs 40)).alloc (.cells #[.int .i64 k, .int .i64 a, .int .i64 b, .string key] 49) = w0 := ⟨_, rfl⟩
 have hb0 : Below w.heap.size w w0 := by rw [← hw0]; exact (((Below.refl _ w).alloc (Nat.le_refl _) _).alloc (by simp) _).alloc (by simp; omega) _
 have kT : Blk w0 w.heap.size 29 tabV := by rw [← hw0]; exact ((Blk.new _ _ _).alloc _).alloc _
 have kS : Blk w0 (w.heap.size + 1) 40 cs := by rw [← hw0]; exact (Blk.new_at (by simp)).alloc _
 have kQ : Blk w0 (w.heap.size + 1 + 1) 49 #[.int .i64 k, .int .i64 a, .int .i64 b, .string key] := by rw [← hw0]; exact Blk.new_at (by simp)
 have hS0 := hS.below hb0
 have lT := tab_run kT
 have lS := st_load hS.size kS
 have l0 := num_load (kQ.cell 0)
 have l1 := num_load (kQ.cell 1)
 have l2 := num_load (kQ.cell 2)
 have l3 := txt_load (kQ.cell 3)
 change (loadVar 3 ⟨w.heap.size + 1 + 1, 0, none⟩).run Tryz.prog w0 = .ok (.int .i64 k) w0 at l0
 change (loadVar 3 ⟨w.heap.size + 1 + 1, 1, none⟩).run Tryz.prog w0 = .ok (.int .i64 a) w0 at l1
 change (loadVar 3 ⟨w.heap.size + 1 + 1, 2, none⟩).run Tryz.prog w0 = .ok (.int .i64 b) w0 at l2
 change (loadVar 9 ⟨w.heap.size + 1 + 1, 3, none⟩).run Tryz.prog w0 = .ok (.string key) w0 at l3
 have H0 := Lib.hid (shead_any P cs W hi a ha w0 hS0)
 have H1 := Lib.hid (sleaf_any P cs W hi a b ha hb w0 hS0)
 have H2 := Lib.hid (sbeg_any P cs W hi a b ha hb w0 hS0)
 have H3 := Lib.hid (sval_any P cs W hi key hk a ha w0 hS0)
 obtain ⟨PA, hPA⟩ : ∃ PA, Ans W.tk W.hd ⟨k, a, b, key⟩ = PA := ⟨_, rfl⟩
 rw [hPA]
 unfold Ans at hPA
 dsimp only at hPA
 have HPA := Lib.hid hPA
 have HW0 := Lib.hid hw0
 have HB0 := Lib.hid hb0
 clear hw0 hb0 kT kS kQ hS hS0 hi hPA ha hb hk
 generalize AnsH W.hd a = A0 at *
 generalize AnsL W.tk W.hd a b = A1 at *
 generalize AnsB W.tk W.hd a b = A2 at *
 generalize AnsK W.tk W.hd key a = A3 at *
 by_cases k0 : k = 0
 · have t0 : (k == 0) = true := by rw [k0]; rfl
   have HE : Hid (PA = A0) := Lib.hid (by rw [← HPA.out]; funext s n; rw [if_pos k0])
   clear k0
   go_enter Tryz.func11, Tryz.ntmps11
   go_wp2_with (rw [HW0.out])
   refine H0.out.mono ?_
   rintro e w1 ⟨⟨s, n, rfl, hA⟩, hb1⟩
   have hB1 := HB0.out.trans (hb1.mono HB0.out.size)
   have hA2 : PA s n := by rw [HE.out]; exact hA
   go_wp2
   go_ret2
   exact ⟨⟨_, _, rfl, hA2⟩, hB1⟩
 have t0 : (k == 0) = false := by rw [beq_eq_false_iff_ne]; exact k0
 by_cases k1 : k = 1
 · have t1 : (k == 1) = true := by rw [k1]; rfl
   have HE : Hid (PA = A1) := Lib.hid (by rw [← HPA.out]; funext s n; rw [if_neg k0, if_pos k1])
   clear k0 k1
   go_enter Tryz.func11, Tryz.ntmps11
   go_wp2_with (rw [HW0.out])
   refine H1.out.mono ?_
   rintro e w1 ⟨⟨s, n, rfl, hA⟩, hb1⟩
   have hB1 := HB0.out.trans (hb1.mono HB0.out.size)
   have hA2 : PA s n := by rw [HE.out]; exact hA
   go_wp2
   go_ret2
   exact ⟨⟨_, _, rfl, hA2⟩, hB1⟩
 have t1 : (k == 1) = false := by rw [beq_eq_false_iff_ne]; exact k1
 by_cases k2 : k = 2
 · have t2 : (k == 2) = true := by rw [k2]; rfl
   have HE : Hid (PA = A2) := Lib.hid (by rw [← HPA.out]; funext s n; rw [if_neg k0, if_neg k1, if_pos k2])
   clear k0 k1 k2
   go_enter Tryz.func11, Tryz.ntmps11
   go_wp2_with (rw [HW0.out])
   refine H2.out.mono ?_
   rintro e w1 ⟨⟨s, n, rfl, hA⟩, hb1⟩
   have hB1 := HB0.out.trans (hb1.mono HB0.out.size)
   have hA2 : PA s n := by rw [HE.out]; exact hA
   go_wp2
   go_ret2
   exact ⟨⟨_, _, rfl, hA2⟩, hB1⟩
 have t2 : (k == 2) = false := by rw [beq_eq_false_iff_ne]; exact k2
 by_cases k3 : k = 3
 · have t3 : (k == 3) = true := by rw [k3]; rfl
   have HE : Hid (PA = A3) := Lib.hid (by rw [← HPA.out]; funext s n; rw [if_neg k0, if_neg k1, if_neg k2, if_pos k3])
   clear k0 k1 k2 k3
   go_enter Tryz.func11, Tryz.ntmps11
   go_wp2_with (rw [HW0.out])
   refine H3.out.mono ?_
   rintro e w1 ⟨⟨s, n, rfl, hA⟩, hb1⟩
   have hB1 := HB0.out.trans (hb1.mono HB0.out.size)
   have hA2 : PA s n := by rw [HE.out]; exact hA
   go_wp2
   go_ret2
   exact ⟨⟨_, _, rfl, hA2⟩, hB1⟩
 have t3 : (k == 3) = false := by rw [beq_eq_false_iff_ne]; exact k3
 have hA : PA ⟨#[]⟩ 1 := by rw [← HPA.out]; dsimp only; rw [if_neg k0, if_neg k1, if_neg k2, if_neg k3]; exact ⟨rfl, rfl⟩
 clear k0 k1 k2 k3
 go_enter Tryz.func11, Tryz.ntmps11
 go_wp2_with (rw [HW0.out])
 go_ret2
 exact ⟨⟨_, _, rfl, hA⟩, HB0.out⟩
end
end Go.Proofs.YtakgolbgeeoioaaGreat
namespace Go.Proofs.YtakgolbgeeoioaaGreat
open Go.RowKit

section
attribute [-go_sem] loadVar
set_option maxRecDepth 100000 in
set_option maxHeartbeats 1000000 in
theorem awake13_any (w : World) : Calls Tryz.prog 7 #[] w fun e w' => e = .returned (.bool true) ∧ Below w.heap.size w w' := by
 have HMK := Lib.hid (fun W => make_std W)
 have HA := Lib.hid (fun X => answer_any (fun _ => True) zeroSt ⟨[], [], []⟩ InvW.nil ⟨0, 1, 0, ⟨#[]⟩⟩ (by decide) (by decide) (by decide) X (zeroSt_at X _))
 have HN : Hid (∀ s n, Ans [] [] ⟨0, 1, 0, ⟨#[]⟩⟩ s n → n = 5) := Lib.hid fun s n h => ((ans_told h).2.1 ⟨rfl, by decide, by decide, .inl (by decide)⟩).1
 change Hid (∀ X, Calls Tryz.prog 11 #[.agg tabV, .agg zeroSt, .agg #[.int .i64 0, .int .i64 1, .int .i64 0, .string ⟨#[]⟩]] X fun e w' => (∃ s n, e = .returned (.tuple #[.string s, .int .i64 n]) ∧ Ans [] [] ⟨0, 1, 0, ⟨#[]⟩⟩ s n) ∧ Below X.heap.size X w') at HA
 generalize Ans [] [] ⟨0, 1, 0, ⟨#[]⟩⟩ = PA at *
 have z1 := zeroS
 go_enter Tryz.func7, Tryz.ntmps7
 go_wp2_with fail
 refine (HMK.out _).mono ?_
 rintro e w1 ⟨rfl, hb1⟩
 go_wp2_with fail
 refine (HA.out _).mono ?_
 rintro e w2 ⟨⟨s, n, rfl, hA⟩, hb2⟩
 obtain rfl := HN.out s n hA
 have hB2 := hb1.trans (hb2.mono hb1.size)
 go_wp2
 go_ret
 exact ⟨rfl, hB2⟩
end
end Go.Proofs.YtakgolbgeeoioaaGreat

/-
  Sign: the program's.
-/
import Derived.Test.YtbkmclgddknijaaOPath
import Derived.Test.YtbkmclgddknijaaWBldFar
namespace Go.Proofs.Ytbkmclgddknijaa
open Go.RowKit

theorem Own.blk {w : World} {B : Nat} {v : Value} {ss : List ByteArray} {g n cap : Nat} (h : Own w B v ss) (hv : v = .slice (some ⟨g, 0, none⟩) n cap) : ∃ cs, Blk w g 9 cs := by
  rcases h.2 with ⟨rfl, hn⟩ | ⟨g', cap', cur, rfl, hg, hk, _⟩
  · cases hv
  · injection hv with h1
    injection h1 with h1
    injection h1 with h1
    subst h1
    exact ⟨cur, hk⟩
/-- what a call answers that makes n texts -/
def RR (ss : List ByteArray) (n : Nat) (w : World) (e : Ending) (w' : World) : Prop := ∃ g cap cs, e = .returned (.slice (some ⟨g, 0, none⟩) n cap) ∧ n ≤ cap ∧ w.heap.size ≤ g ∧ Row w' g 0 ss ∧ Blk w' g 9 cs ∧ Below w.heap.size w w'
theorem RT.rr {ss : List ByteArray} {n : Nat} {w w' : World} {e : Ending} (h : RT ss w e w') (hn : ss.length = n) (hp : 0 < n) : RR ss n w e w' := by
  obtain ⟨v, rfl, hown, hb⟩ := h
  obtain ⟨g, cap, rfl, hg, hc, hr⟩ := hown.row (by omega)
  obtain ⟨cs, hk⟩ := hown.blk rfl
  subst hn
  exact ⟨g, cap, cs, rfl, hc, hg, hr, hk, hb⟩
theorem Row.blk {w w' : World} {g o : Nat} {ss : List ByteArray} {t : TypeId} {cs : Array Value} (h : Row w g o ss) (k : Blk w g t cs) (k' : Blk w' g t cs) : Row w' g o ss :=
  ⟨k'.lt, fun i hi => by rw [k'.cell, ← k.cell]; exact h.2 i hi⟩
theorem leaves_rr (seed : ByteArray) (hs : seed.size ≤ 1073741824) (w : World) : Calls Try.prog 25 #[.agg tabV, .string seed] w (RR (levelB seed 0 8) 8 w) :=
  (leaves_any seed hs w).mono fun _ _ h => h.rr (levelB_length _ _ _) (by decide)
theorem path_rr (seed : ByteArray) (q g cap : Nat) (hq : q < 8) (w : World) (hc : Row w g 0 (levelB seed 0 8)) :
    Calls Try.prog 35 #[.agg tabV, .int .i64 q, .slice (some ⟨g, 0, none⟩) 8 cap] w (RR (fstN (fun h => nodeB seed h (othB (q / 2 ^ h))) 3) 3 w) :=
  (path_any seed q g cap hq w hc).mono fun _ _ h => h.rr (fstN_length _ _) (by decide)

section
attribute [-go_sem] loadVar
set_option maxRecDepth 100000 in
set_option maxHeartbeats 1000000 in
theorem sign_spent (seed m : ByteArray) (q : Int) (hq : ¬ (0 ≤ q ∧ q < 8)) (w : World) :
    Calls Try.prog 18 #[.agg tabV, .string seed, .int .i64 q, .string m] w fun e w' => e = .returned (.tuple #[.string ⟨#[]⟩, .int .i64 4]) ∧ Below w.heap.size w w' := by
  have HK := Lib.hid (fun W => isKey_any q W)
  have hd : decide (0 ≤ q ∧ q < 8) = false := decide_eq_false hq
  rw [hd] at HK
  have hB0 := (Below.refl _ w).alloc (Nat.le_refl _) (.cells tabV 27)
  clear hd hq
  go_enter Try.func18, Try.ntmps18
  go_wp2_with fail
  refine (HK.out _).mono ?_
  rintro e w1 ⟨rfl, rfl⟩
  go_wp2
  go_ret2
  exact ⟨rfl, hB0⟩

set_option maxRecDepth 100000 in
set_option maxHeartbeats 4000000 in
theorem sign_any (seed m : ByteArray) (hs : seed.size ≤ 1073741824) (hm : m.size ≤ 1073741824) (q : Nat) (hq : q < 8) (w : World) :
    Calls Try.prog 18 #[.agg tabV, .string seed, .int .i64 q, .string m] w fun e w' => e = .returned (.tuple #[.string (signB seed q m), .int .i64 0]) ∧ Below w.heap.size w w' := by
  have HK := Lib.hid (fun W => isKey_any q W)
  have hd : decide (0 ≤ (q : Int) ∧ (q : Int) < 8) = true := decide_eq_true (by omega)
  rw [hd] at HK
  have HN := Lib.hid (fun W => number_any q W)
  have HDG := Lib.hid (fun W => digits_any q m hm W)
  have HIX := Lib.hid (fun (i : Nat) (hi : i < 67) => odV_index q m hi)
  have HDL := Lib.hid (digB_le q m)
  have HLV := Lib.hid (fun W => leaves_rr seed hs W)
  have HPT := Lib.hid (fun g cap W hW => path_rr seed q g cap hq W hW)
  have HV0 := Lib.hid (show catB (fstN (fun i => valB seed q i (digB q m i)) 0) = ⟨#[]⟩ from rfl)
  have HVS := Lib.hid (show ∀ k, catB (fstN (fun i => valB seed q i (digB q m i)) (k + 1)) = catB (fstN (fun i => valB seed q i (digB q m i)) k) ++ walkB q k 0 (firstB seed q k) (digB q m k) from fun k => fstN_cat_succ _ k)
  have HVZ := Lib.hid (show ∀ k, (catB (fstN (fun i => valB seed q i (digB q m i)) k)).size = 32 * k from fun k => fstN_size (fun i => valB_size _ _ _ _) k)
  have HP0 := Lib.hid (show catB (fstN (fun h => nodeB seed h (othB (q / 2 ^ h))) 0) = ⟨#[]⟩ from rfl)
  have HPS := Lib.hid (show ∀ k, catB (fstN (fun h => nodeB seed h (othB (q / 2 ^ h))) (k + 1)) = catB (fstN (fun h => nodeB seed h (othB (q / 2 ^ h))) k) ++ nodeB seed k (othB (q / 2 ^ k)) from fun k => fstN_cat_succ _ k)
  have HPZ := Lib.hid (show ∀ k, (catB (fstN (fun h => nodeB seed h (othB (q / 2 ^ h))) k)).size = 32 * k from fun k => fstN_size (fun i => nodeB_size _ _ _) k)
  have HPG := Lib.hid (show ∀ k, k < 3 → (fstN (fun h => nodeB seed h (othB (q / 2 ^ h))) 3).getD k ByteArray.empty = nodeB seed k (othB (q / 2 ^ k)) from fun k hk => fstN_get _ hk)
  have HPL := Lib.hid (show (fstN (fun h => nodeB seed h (othB (q / 2 ^ h))) 3).length = 3 from fstN_length _ _)
  have HSB := Lib.hid (show signB seed q m = num4 q ++ catB (fstN (fun i => valB seed q i (digB q m i)) 67) ++ catB (fstN (fun h => nodeB seed h (othB (q / 2 ^ h))) 3) from rfl)
  have HN4 := Lib.hid (num4_size q)
  have HS := Lib.hid hs
  generalize signB seed q m = SB at *
  generalize fstN (fun i => valB seed q i (digB q m i)) = V at *
  generalize fstN (fun h => nodeB seed h (othB (q / 2 ^ h))) = P at *
  generalize odV q m = D at *
  generalize num4 (q : Int) = N at *
  generalize digB q m = dig at *
  have hB0 := ((Below.refl _ w).alloc (Nat.le_refl _) (.cells tabV 27)).alloc (by simp) (.cells #[.pointer none, .slice none 0 0] 63)
  have hT : Blk ((w.alloc (.cells tabV 27)).alloc (.cells #[.pointer none, .slice none 0 0] 63)) w.heap.size 27 tabV := (Blk.new _ _ _).alloc _
  have hb0 := bld_new (w.alloc (.cells tabV 27))
  rw [World.size_alloc] at hb0
  have HSZ := Lib.hid (show ((w.alloc (.cells tabV 27)).alloc (.cells #[.pointer none, .slice none 0 0] 63)).heap.size = w.heap.size + 1 + 1 by simp)
  clear hs hm hd
  go_enter Try.func18, Try.ntmps18
  go_wp2_with fail
  refine (HK.out _).mono ?_
  rintro e w1 ⟨rfl, rfl⟩
  go_wp2_with fail
  generalize (w.alloc (.cells tabV 27)).alloc (.cells #[.pointer none, .slice none 0 0] 63) = w0 at *
  obtain ⟨B, hBB⟩ : ∃ B, w.heap.size = B := ⟨_, rfl⟩
  rw [hBB] at hB0 hT hb0 HSZ ⊢
  have HBB := Lib.hid hBB
  clear hBB
  refine (HN.out _).mono ?_
  rintro e w2 ⟨rfl, hb2⟩
  have hBw : B ≤ w0.heap.size := by have := HSZ.out; omega
  have hT2 := hT.below hb2 hT.lt
  have hb2b := hb0.below hb2
  have hB2 := hB0.trans (hb2.mono hBw)
  clear hb2 hT hb0 hB0 hBw HSZ
  go_wp2_with fail
  refine (bld_write (B + 1) (B + 1) [] N _ hb2b (by have := HN4.out; show 0 + _ ≤ _; omega) hT2.lt).mono ?_
  rintro e w3 ⟨rfl, hb3, hb3'⟩
  have hT3 := hT2.below hb3' (Nat.lt_succ_self _)
  have hB3 := hB2.trans (hb3'.mono (Nat.le_succ _))
  rw [List.nil_append] at hb3
  clear hT2 hb2b hB2 hb3'
  have hl3 := tab_run hT3
  go_wp2_with fail
  refine (HDG.out _).mono ?_
  rintro e w4 ⟨rfl, hb4⟩
  have hT4 := hT3.below hb4 hT3.lt
  have hb4b := hb3.below hb4
  have hB4 := hB3.trans (hb4.mono (Nat.le_of_lt hT3.lt))
  have hz4 : Bld w4 (B + 1) (B + 1) (N.data.toList ++ (catB (V 0)).data.toList) := by
    rw [HV0.out, show (⟨#[]⟩ : ByteArray).data.toList = [] from rfl, List.append_nil]
    exact hb4b
  have HNL := Lib.hid (show N.data.toList.length = 4 by rw [Array.length_toList]; exact HN4.out)
  have HVL := Lib.hid (show ∀ k, (catB (V k)).data.toList.length = 32 * k from fun k => by rw [Array.length_toList]; exact HVZ.out k)
  clear hT3 hb3 hB3 hb4 hb4b hl3 HDG HN HK HV0
  go_wp2
  go_loopw [25] (fun i wr => ∃ k : Nat, k ≤ 67 ∧ i = .int .i64 k ∧ Bld wr (B + 1) (B + 1) (N.data.toList ++ (catB (V k)).data.toList) ∧ Blk wr B 27 tabV ∧ Below B w wr) (fun i _ => 67 - (intOf i).toNat)
  case atStart => exact ⟨0, by omega, rfl, hz4, hT4, hB4⟩
  case round =>
    clear hz4 hT4 hB4
    obtain ⟨k, hk, rfl, hbl, hT, hB⟩ := hrel
    by_cases hlt : k < 67
    · have hlt' : (k : Int) < 67 := by omega
      have hix := HIX.out k hlt
      have hdl := HDL.out k
      have HF1 := Lib.hid (fun W => first_any seed HS.out q k W)
      have HW1 := Lib.hid (fun W => walk_any q k 0 (dig k) (dig k) (firstB seed q k) (by rw [firstB_size]; decide) (Nat.zero_add _) (by omega) W)
      have HVK := Lib.hid (HVS.out k)
      have HRZ := Lib.hid (show (walkB q k 0 (firstB seed q k) (dig k)).size = 32 from walkB_size q k 0 _ (firstB_size _ _ _) _)
      generalize walkB q k 0 (firstB seed q k) (dig k) = R at *
      generalize firstB seed q k = X at *
      generalize dig k = d at *
      have HKP : Hid (∀ W, Below (B + 1) wr W → (loadVar 27 ⟨B, 0, none⟩).run Try.prog W = .ok (.agg tabV) W ∧ Below (B + 1) wr W) :=
        Lib.hid fun W hW => ⟨tab_run (hT.below hW (Nat.lt_succ_self _)), hW⟩
      have HT := Lib.hid hT
      have HBL := Lib.hid hbl
      have HWR := Lib.hid hT.lt
      clear hT hbl
      go_wp2
      go_region_held3 (fun w' => (loadVar 27 ⟨B, 0, none⟩).run Try.prog w' = .ok (.agg tabV) w' ∧ Below (B + 1) wr w')
        ((refine HKP.out _ ?_; first | exact hG3 | exact hb2'.mono HWR.out | exact hb1.mono HWR.out | exact (Below.refl _ _).drew | exact Below.refl _ _))
        (first
          | (have := hb2'; go_at_call 31; refine (bld_write (B + 1) (B + 1) _ R _ (HBL.out.below hb2') (by rw [List.length_append, HNL.out, HVL.out, HRZ.out]; omega) (Nat.le_trans HWR.out hb2'.size)).mono ?_; rintro e w3 ⟨rfl, hbl3, hb3⟩; have hG3 : Below (B + 1) wr w3 := (hb2'.mono HWR.out).trans hb3)
          | (have := hb1; go_at_call 33; refine (HW1.out _).mono ?_; rintro e w2 ⟨rfl, hb2⟩; have hb2' := hb1.trans (hb2.mono hb1.size))
          | (go_at_call 34; refine (HF1.out _).mono ?_; rintro e w1 ⟨rfl, hb0⟩; have hb1 : Below wr.heap.size wr w1 := (Below.refl _ _).drew.trans hb0))
      rw [List.append_assoc, ← toList_append, ← HVK.out] at hbl3
      have hT3 := HT.out.below hG3 (Nat.lt_succ_self _)
      have hB3 := hB.trans (hG3.mono (Nat.le_succ _))
      clear hB hG3 hb0 hb1 hb2 hb2' hb3 HKP HF1 HW1 HT HBL HWR
      rename_i hHeld
      clear hHeld
      go_wp2
      go_roundw
      case rel => exact ⟨k + 1, by omega, by go_num, hbl3, hT3, hB3⟩
      case measure => simp [intOf]; omega
    · obtain rfl : k = 67 := by omega
      clear hlt hk
      rw [show ((67 : Nat) : Int) = 67 from rfl]
      have HKP : Hid (∀ W, Below wr.heap.size wr W → (loadVar 27 ⟨B, 0, none⟩).run Try.prog W = .ok (.agg tabV) W ∧ Below wr.heap.size wr W) :=
        Lib.hid fun W hW => ⟨tab_run (hT.below hW hT.lt), hW⟩
      have HT := Lib.hid hT
      have HBL := Lib.hid hbl
      clear hT hbl
      go_wp2
      go_region_held3 (fun w' => (loadVar 27 ⟨B, 0, none⟩).run Try.prog w' = .ok (.agg tabV) w' ∧ Below wr.heap.size wr w')
        ((refine HKP.out _ ?_; first | exact hb2' | exact hb1 | exact (Below.refl _ _).drew | exact Below.refl _ _))
        (first
          | (have := hb1; go_at_call 35; refine (HPT.out _ _ _ hr1).mono ?_; rintro e w2 ⟨g2, c2, cs2, rfl, hc2, hg2, hr2, hk2, hb2⟩; have hb2' := hb1.trans (hb2.mono hb1.size))
          | (go_at_call 25; refine (HLV.out _).mono ?_; rintro e w1 ⟨g1, c1, cs1, rfl, hc1, hg1, hr1, hk1, hb0⟩; have hb1 : Below wr.heap.size wr w1 := (Below.refl _ _).drew.trans hb0))
      have hbl2 := HBL.out.below hb2'
      have hT2 := HT.out.below hb2' HT.out.lt
      have hB2 := hB.trans (hb2'.mono (Nat.le_of_lt HT.out.lt))
      have HR2 := Lib.hid hr2
      have HK2 := Lib.hid hk2
      have hz2 : Bld w2 (B + 1) (B + 1) (N.data.toList ++ (catB (V 67)).data.toList ++ (catB (P 0)).data.toList) := by
        rw [HP0.out, show (⟨#[]⟩ : ByteArray).data.toList = [] from rfl, List.append_nil]
        exact hbl2
      have HLN := Lib.hid (show ∀ k, (N.data.toList ++ (catB (V 67)).data.toList ++ (catB (P k)).data.toList).length = 2148 + 32 * k from fun k => by
        rw [List.length_append, List.length_append, HNL.out, HVL.out, Array.length_toList]
        show _ + (catB (P k)).size = _
        rw [HPZ.out])
      have HF : Hid ((⟨(N.data.toList ++ (catB (V 67)).data.toList ++ (catB (P 3)).data.toList).toArray⟩ : ByteArray) = SB) := Lib.hid (by
        rw [HSB.out, ← of_toList (N ++ catB (V 67) ++ catB (P 3)), toList_append, toList_append])
      generalize N.data.toList ++ (catB (V 67)).data.toList = l0 at *
      clear hB hbl2 hb0 hb1 hb2 hb2' hr1 hk1 HKP HT HBL hc1 hg1 hc2 hg2 hr2
      rename_i hHeld
      clear hHeld
      go_wp2
      go_loopw [48] (fun i wr => ∃ k : Nat, k ≤ 3 ∧ i = .int .i64 k ∧ Bld wr (B + 1) (B + 1) (l0 ++ (catB (P k)).data.toList) ∧ Blk wr g2 9 cs2 ∧ B < wr.heap.size ∧ Below B w wr) (fun i _ => 3 - (intOf i).toNat)
      case atStart => exact ⟨0, by omega, rfl, hz2, hk2, hT2.lt, hB2⟩
      case round =>
        clear hz2 hT2 hB2 hk2
        obtain ⟨k, hk, rfl, hbl, hkk, hlw, hB⟩ := hrel
        by_cases hlt : k < 3
        · have hlt' : (k : Int) < 3 := by omega
          have hl0 := (HR2.out.blk HK2.out hkk).2 k (by rw [HPL.out]; exact hlt)
          rw [HPG.out k hlt, Nat.zero_add] at hl0
          have hl1 := txt_load hl0
          have HPK := Lib.hid (HPS.out k)
          have HXZ := Lib.hid (nodeB_size seed k (othB (q / 2 ^ k)))
          generalize nodeB seed k (othB (q / 2 ^ k)) = X at *
          clear hl0
          go_wp2_with fail
          refine (bld_write_far (B + 1) (B + 1) _ X g2 9 cs2 (by decide) (by decide) _ hbl hkk (by rw [HLN.out, HXZ.out]; omega) hlw).mono ?_
          rintro e w5 ⟨rfl, hbl5, hb5, hk5⟩
          rw [List.append_assoc, ← toList_append, ← HPK.out] at hbl5
          have hB5 := hB.trans (hb5.mono (Nat.le_succ _))
          have hlw5 := Nat.lt_of_lt_of_le hlw hb5.size
          clear hbl hkk hB hb5 hlw hl1
          go_wp2
          go_roundw
          case rel => exact ⟨k + 1, by omega, by go_num, hbl5, hk5, hlw5, hB5⟩
          case measure => simp [intOf]; omega
        · obtain rfl : k = 3 := by omega
          clear hlt hk
          go_wp2_with fail
          refine (bld_string (B + 1) (B + 1) _ _ hbl hlw).mono ?_
          rintro e w7 ⟨rfl, hb7⟩
          have hB7 := hB.trans (hb7.mono (Nat.le_succ _))
          rw [HF.out]
          rw [← HBB.out] at hB7
          go_wp2
          go_ret2
          exact ⟨rfl, hB7⟩
end
end Go.Proofs.Ytbkmclgddknijaa

/-
  The roots beside the path that a proof tells.
-/
import Derived.Test.YtedkhcjbppknpaaSWell
namespace Go.Proofs.Ytedkhcjbppknpaa
open Go.RowKit

theorem sext_ext (t : ByteArray) (i a b : Nat) (h : i + b ≤ t.size) : (t.extract i t.size).extract a b = t.extract (i + a) (i + b) := by
  rw [ByteArray.extract_extract, Nat.min_eq_left h]
theorem sext_size (t : ByteArray) (i j : Nat) (h : j ≤ t.size) : (t.extract i j).size = j - i := by
  rw [ByteArray.size_extract, Nat.min_eq_left h]
theorem nums_extS (s : ByteArray) (i j : Nat) : nums (s.extract i j) = ((nums s).drop i).take (j - i) := by
  unfold nums
  rw [ByteArray.data_extract, Array.toList_extract, List.extract_eq_take_drop, List.map_take, List.map_drop]
theorem bitS_front (s : ByteArray) (i : Nat) (hi : i < 256) : bitS (s.extract 0 32) i = bitS s i := by
  unfold bitS
  rw [nums_extS]
  congr 3
  rw [List.getD_eq_getElem?_getD, List.getD_eq_getElem?_getD, List.getElem?_take, if_pos (by omega), List.drop_zero]
/-- the root beside the path, below its bit i, as the proof tells it -/
def besV (s : ByteArray) (i : Nat) : ByteArray := if bitS s i then s.extract (32 + 32 * cntS s i) (64 + 32 * cntS s i) else emp (i + 1)
theorem wfS_size {s : ByteArray} (h : wfS s = true) : s.size = (1 + cntS s 256) * 32 := by
  unfold wfS at h
  simp only [Bool.and_eq_true, decide_eq_true_eq] at h
  exact h.2
theorem wfS_room {s : ByteArray} (h : wfS s = true) {i : Nat} (hi : i < 256) (hb : bitS s i = true) : 64 + 32 * cntS s i ≤ s.size := by
  have h1 := wfS_size h
  have h2 := cntS_succ s i
  rw [hb] at h2
  have h3 := cntS_mono s (a := i + 1) (b := 256) (by omega)
  simp at h2
  omega
theorem besV_size {s : ByteArray} (h : wfS s = true) {i : Nat} (hi : i < 256) : (besV s i).size = 32 := by
  unfold besV
  split
  · next hb =>
    rw [sext_size _ _ _ (wfS_room h hi hb)]
    omega
  · exact emp_size _
section
attribute [-go_sem] loadVar
set_option maxRecDepth 100000 in
set_option maxHeartbeats 2000000 in
theorem unfold_any (g : Nat) (s : ByteArray) (hw : wfS s = true) (w : World) (hT : Tre w g) :
    Calls Try.prog 33 #[.pointer (some ⟨g, 0, none⟩), .string s] w (RT (fstN (besV s) 256) w) := by
  have hsz := wfS_size hw
  have hc256 := cntS_le s 256
  have h32 : 32 ≤ s.size := by omega
  have hm : s.size ≤ 1000000 := by omega
  have HRT := Lib.hid (show ∀ e w', RT (fstN (besV s) 256) w e w' = ∃ v, e = .returned v ∧ Own w' w.heap.size v (fstN (besV s) 256) ∧ Below w.heap.size w w' from fun _ _ => rfl)
  have HF0 := Lib.hid (show fstN (besV s) 0 = [] from rfl)
  have HFS := Lib.hid (show ∀ k, fstN (besV s) (k + 1) = fstN (besV s) k ++ [besV s k] from fun k => fstN_succ _ k)
  have HFL := Lib.hid (show ∀ k, (fstN (besV s) k).length = k from fun k => fstN_length _ k)
  have HBF := Lib.hid (fun c k (hk : k < 256) W hc => bitf_any c k hk (s.extract 0 32) (by rw [sext_size _ _ _ h32]) W hc)
  have HBE := Lib.hid (fun k (hk : k < 256) => bitS_front s k hk)
  have HRM := Lib.hid (fun k (hk : k < 256) hb => wfS_room hw (i := k) hk hb)
  have HC0 : Hid (cntS s 0 = 0) := Lib.hid rfl
  have HCS := Lib.hid (cntS_succ s)
  have HBV : Hid (∀ k, besV s k = if bitS s k then s.extract (32 + 32 * cntS s k) (64 + 32 * cntS s k) else emp (k + 1)) := Lib.hid fun _ => rfl
  have HGL := Lib.hid hT.lt
  have HT0 := Lib.hid hT
  generalize RT (fstN (besV s) 256) w = PO at *
  generalize fstN (besV s) = F at *
  obtain ⟨fl, hfl⟩ : ∃ fl, s.extract 0 32 = fl := ⟨_, rfl⟩
  rw [hfl] at HBF HBE
  have HFL0 := Lib.hid hfl
  clear hfl hsz hc256 hw hT
  have h32' : (32 : Int) ≤ (s.size : Int) := by omega
  go_enter Try.func33, Try.ntmps33
  go_wp2
  go_quiet (fail)
  go_wp2
  rw [HFL0.out]
  have hB1 : Below w.heap.size w (w.drewN nq) := below_drewN (Below.refl _ _) nq
  have hT1 : Tre (w.drewN nq) g := HT0.out
  generalize w.drewN nq = w1 at *
  clear HFL0 HT0
  go_loopw [6, 7, 13] (fun r v i wr => ∃ k : Nat, k ≤ 256 ∧ i = .int .i64 k ∧ r = .string (s.extract (32 + 32 * cntS s k) s.size) ∧ Own wr w.heap.size v (F k) ∧ Tre wr g ∧ Below w.heap.size w wr) (fun _ _ i _ => 256 - (intOf i).toNat)
  case atStart => exact ⟨0, by omega, rfl, by rw [HC0.out], by rw [HF0.out]; exact own_nil _ _, hT1, hB1⟩
  case round =>
    clear hB1 hT1
    obtain ⟨k, hk, rfl, rfl, hown, hTr, hBr⟩ := hrel
    by_cases hlt : k < 256
    · have hlt' : (k : Int) < 256 := by omega
      have HBF1 := Lib.hid (fun c W hc => HBF.out c k hlt W hc)
      rw [HBE.out k hlt] at HBF1
      have HFK := Lib.hid (HFS.out k)
      have HFKL := Lib.hid (HFL.out k)
      have hlen : (F k).length ≤ 1073741824 := by rw [HFL.out]; omega
      have HRM1 := Lib.hid (HRM.out k hlt)
      have HCS1 := Lib.hid (HCS.out k)
      have HBV1 := Lib.hid (HBV.out k)
      generalize bitS s k = b at *
      clear HBF HBE HFS HRM HCS HBV HC0 HF0
      go_wp2_with fail
      refine (bitAt_any k _).mono ?_
      rintro e w2 ⟨rfl, hw2⟩
      have hcd : w2.cell? ⟨wr.heap.size, 0, none⟩ = some (.int .i64 k) := by rw [← hw2]; exact (Blk.new wr 3 #[.int .i64 k]).cell 0
      have hB2 : Below wr.heap.size wr w2 := by rw [← hw2]; exact (Below.refl _ wr).alloc (Nat.le_refl _) _
      clear hw2
      go_wp2_with fail
      refine (HBF1.out _ _ hcd).mono ?_
      rintro e w3 ⟨rfl, q, hw3⟩
      have hB3 : Below wr.heap.size wr w3 := by rw [hw3]; exact below_drewN hB2 q
      have hown3 := hown.below hB3
      have hT3 := Blk.below hTr hB3 hTr.lt
      have hB3' := hBr.trans (hB3.mono hBr.size)
      clear hw3 hB2 hcd hB3 hown hTr hBr HBF1
      cases b
      · have HE : Hid (cntS s (k + 1) = cntS s k) := Lib.hid (by rw [HCS1.out]; rfl)
        have hV : besV s k = emp (k + 1) := by rw [HBV1.out]; rfl
        rw [hV] at HFK
        have hl3 := txt_load (tre_cell hT3 (d := k + 1) (by omega))
        have hk7 : (k : Int) + 1 < 257 := by omega
        generalize emp (k + 1) = Y at *
        have HT3 := Lib.hid hT3
        clear hV HRM1 HCS1 HBV1 hT3
        generalize hX : s.extract (32 + 32 * cntS s k) s.size = X at *
        have HX := Lib.hid hX
        clear hX
        go_wp2_with (at_builtin; refine wpList_append_txt rfl _ _ rfl w.heap.size u7 (F k) rfl hown3 Y rfl hlen hB3'.size ?_)
        intro g5 c5 w5 hown5 hg5
        rw [HFKL.out, ← HFK.out] at hown5
        have hB5 := hB3'.grown hg5 hB3'.size (fun z hz => (World.ownsRow.lt hown3 z hz).1)
        have hT5 := Blk.grown HT3.out hg5 (fun e => by have := (World.ownsRow.lt hown3 g e.symm).1; have := HGL.out; omega)
        clear hown3 hB3' hg5 HT3 hl3
        rw [HFKL.out]
        go_wp2
        go_roundw
        case rel => exact ⟨k + 1, by omega, by go_num, by rw [HE.out, HX.out], hown5, hT5, hB5⟩
        case measure => simp [intOf]; omega
      · have HE : Hid (cntS s (k + 1) = cntS s k + 1) := Lib.hid (by rw [HCS1.out]; rfl)
        have hrm := HRM1.out rfl
        have hV : besV s k = s.extract (32 + 32 * cntS s k) (64 + 32 * cntS s k) := by rw [HBV1.out]; rfl
        rw [hV] at HFK
        have hsx : (s.extract (32 + 32 * cntS s k) s.size).size = s.size - (32 + 32 * cntS s k) := sext_size _ _ _ (Nat.le_refl _)
        have HE1 := Lib.hid (show (s.extract (32 + 32 * cntS s k) s.size).extract 0 32 = s.extract (32 + 32 * cntS s k) (64 + 32 * cntS s k) by
          rw [sext_ext _ _ _ _ (by omega), Nat.add_zero]
          congr 1
          omega)
        have HE2 := Lib.hid (show (s.extract (32 + 32 * cntS s k) s.size).extract 32 (s.extract (32 + 32 * cntS s k) s.size).size = s.extract (32 + 32 * (cntS s k + 1)) s.size by
          rw [hsx, sext_ext _ _ _ _ (by omega)]
          congr 1 <;> omega)
        have HT3 := Lib.hid hT3
        clear hV HRM1 HCS1 HBV1 hT3
        generalize hX : s.extract (32 + 32 * cntS s k) s.size = X at *
        have h32 : (32 : Int) ≤ (X.size : Int) := by omega
        have hxm : X.size ≤ 1000000 := by omega
        obtain ⟨Y, hY⟩ : ∃ Y, X.extract 0 32 = Y := ⟨_, rfl⟩
        rw [hY] at HE1
        rw [← HE1.out] at HFK
        clear hX hsx hrm HE1
        go_wp2_with (at_builtin; refine wpList_append_txt rfl _ _ rfl w.heap.size u7 (F k) rfl hown3 Y (by rw [← hY]; rfl) hlen hB3'.size ?_)
        intro g5 c5 w5 hown5 hg5
        rw [HFKL.out, ← HFK.out] at hown5
        have hB5 := hB3'.grown hg5 hB3'.size (fun z hz => (World.ownsRow.lt hown3 z hz).1)
        have hT5 := Blk.grown HT3.out hg5 (fun e => by have := (World.ownsRow.lt hown3 g e.symm).1; have := HGL.out; omega)
        clear hown3 hB3' hg5 HT3
        rw [HFKL.out]
        go_wp2
        go_roundw
        case rel => exact ⟨k + 1, by omega, by go_num, by rw [HE.out, ← HE2.out], hown5, hT5, hB5⟩
        case measure => simp [intOf]; omega
    · obtain rfl : k = 256 := by omega
      rw [show ((256 : Nat) : Int) = 256 from rfl]
      clear hlt hk
      generalize s.extract (32 + 32 * cntS s 256) s.size = X at *
      go_wp2
      rw [HRT.out]
      exact ⟨_, rfl, hown, hBr⟩
end
end Go.Proofs.Ytedkhcjbppknpaa

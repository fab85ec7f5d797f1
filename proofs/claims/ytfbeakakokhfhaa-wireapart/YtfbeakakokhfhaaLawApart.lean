/-
  The walk of the law WireApart.
-/
import Derived.Test.YtfbeakakokhfhaaLawRequests
namespace Go.Proofs.Ytfbeakakokhfhaa
open Go.RowKit

theorem req_read_more (c q : Int) (l k v r : ByteArray) (hl : l.size ≤ 2147483647) (hk : k.size ≤ 2147483647) (hv : v.size ≤ 2147483647) :
    rqC (reqB c q l k v ++ r) = clip c ∧ rqQ (reqB c q l k v ++ r) = clip q ∧ rqL (reqB c q l k v ++ r) = l ∧ rqK (reqB c q l k v ++ r) = k ∧ rqV (reqB c q l k v ++ r) = v := by
  have e0' : q0 (reqB c q l k v ++ r) = num4 c ++ (num4 q ++ (txt l ++ (txt k ++ (txt v ++ r)))) := by
    unfold q0 reqB
    simp only [ByteArray.append_assoc]
    rw [cut_right _ _ 1 rfl]
  have e1' : q1 (reqB c q l k v ++ r) = num4 q ++ (txt l ++ (txt k ++ (txt v ++ r))) := by unfold q1; rw [e0', rest_num]
  have e2' : q2 (reqB c q l k v ++ r) = txt l ++ (txt k ++ (txt v ++ r)) := by unfold q2; rw [e1', rest_num]
  have e3' : q3 (reqB c q l k v ++ r) = txt k ++ (txt v ++ r) := by unfold q3; rw [e2', txR_txt _ _ hl]
  have e4' : q4 (reqB c q l k v ++ r) = txt v ++ r := by unfold q4; rw [e3', txR_txt _ _ hk]
  refine ⟨?_, ?_, ?_, ?_, ?_⟩
  · unfold rqC; rw [e0', nF_num]
  · unfold rqQ; rw [e1', nF_num]
  · unfold rqL; rw [e2', txF_txt _ _ hl]
  · unfold rqK; rw [e3', txF_txt _ _ hk]
  · unfold rqV; rw [e4', txF_txt _ _ hv]
theorem clip_inj {a b : Int} (ha : 0 ≤ a ∧ a ≤ 2147483647) (hb : 0 ≤ b ∧ b ≤ 2147483647) (h : clip a = clip b) : a = b := by
  rw [clip_in ha.1 ha.2, clip_in hb.1 hb.2] at h
  omega
/-- of two right requests none's bytes are the other's beginning, if they aren't the same -/
theorem req_prefix {c q : Int} {l k v : ByteArray} {c2 q2 : Int} {l2 k2 v2 : ByteArray} (h1 : rightB c q l k v = true) (h2 : rightB c2 q2 l2 k2 v2 = true) (r : ByteArray)
    (h : reqB c2 q2 l2 k2 v2 = reqB c q l k v ++ r) : c2 = c ∧ q2 = q ∧ l2 = l ∧ k2 = k ∧ v2 = v := by
  obtain ⟨a1, a2, a3, a4, a5, a6, a7, a8, a9⟩ := right_parts h1
  obtain ⟨b1, b2, b3, b4, b5, b6, b7, b8, b9⟩ := right_parts h2
  obtain ⟨f1, f2, f3, f4, f5⟩ := req_read_more c q l k v r (by omega) (by omega) (by omega)
  obtain ⟨g1, g2, g3, g4, g5⟩ := req_read c2 q2 l2 k2 v2 (by omega) (by omega) (by omega)
  rw [← h, g1] at f1
  rw [← h, g2] at f2
  rw [← h, g3] at f3
  rw [← h, g4] at f4
  rw [← h, g5] at f5
  exact ⟨clip_inj ⟨b1, by omega⟩ ⟨a1, by omega⟩ f1, clip_inj ⟨by omega, b4⟩ ⟨by omega, a4⟩ f2, f3, f4, f5⟩
theorem ext_split (y : ByteArray) (n : Nat) (h : n ≤ y.size) : y = y.extract 0 n ++ y.extract n y.size := by
  apply ByteArray.ext
  rw [ByteArray.data_append, ByteArray.data_extract, ByteArray.data_extract]
  apply Array.toList_inj.1
  rw [Array.toList_append, Array.toList_extract, Array.toList_extract, List.extract_eq_drop_take', List.extract_eq_drop_take']
  have h2 : y.size = y.data.toList.length := by simp
  rw [h2, List.take_of_length_le (Nat.le_refl _), List.drop_zero, List.take_append_drop]
theorem ext_all (y : ByteArray) : y.extract 0 y.size = y := by
  have := ext_left y ⟨#[]⟩
  rwa [append_empty] at this

theorem agg_eql_no (w : World) (c q : Int) (l k v : ByteArray) (c2 q2 : Int) (l2 k2 v2 : ByteArray) (h : ¬ (c2 = c ∧ q2 = q ∧ l2 = l ∧ k2 = k ∧ v2 = v)) : (binOp .eql 23 (.agg #[.int .i64 c, .int .i64 q, .string l, .string k, .string v]) (.agg #[.int .i64 c2, .int .i64 q2, .string l2, .string k2, .string v2])).run Try.prog w = .ok (.bool false) w := by
  go_simp
  exact fun h1 h2 h3 h4 h5 => h ⟨h1.symm, h2.symm, toList_inj h3.symm, toList_inj h4.symm, toList_inj h5.symm⟩
set_option maxRecDepth 100000 in
set_option maxHeartbeats 4000000 in
theorem law_apart_in (c q : Int) (l k v : ByteArray) (c2 q2 : Int) (l2 k2 v2 : ByteArray) (h1 : rightB c q l k v = true) (h2 : rightB c2 q2 l2 k2 v2 = true) (w : World) :
    Calls Try.prog 3 #[.agg #[.int .i64 c, .int .i64 q, .string l, .string k, .string v], .agg #[.int .i64 c2, .int .i64 q2, .string l2, .string k2, .string v2]] w fun e w' => e = .returned (.bool true) ∧ Below w.heap.size w w' := by
  obtain ⟨a1, a2, a3, a4, a5, a6, a7, a8, a9⟩ := right_parts h1
  obtain ⟨b1, b2, b3, b4, b5, b6, b7, b8, b9⟩ := right_parts h2
  have H1 := Lib.hid (fun W => rright_any c q l k v (by omega) (by omega) (by omega) W)
  have H2 := Lib.hid (fun W => rright_any c2 q2 l2 k2 v2 (by omega) (by omega) (by omega) W)
  have H3 := Lib.hid (fun W => request_any c q l k v (by omega) (by omega) (by omega) W)
  have H4 := Lib.hid (fun W => request_any c2 q2 l2 k2 v2 (by omega) (by omega) (by omega) W)
  rw [h1] at H1
  rw [h2] at H2
  have hX := reqB_size c q l k v
  have hY := reqB_size c2 q2 l2 k2 v2
  have HP1 := Lib.hid (fun r => req_prefix (r := r) h1 h2)
  have HP2 := Lib.hid (fun r => req_prefix (r := r) h2 h1)
  have hX1 : 1 ≤ (reqB c q l k v).size := by omega
  have hX2 : (reqB c q l k v).size ≤ 1000 := by omega
  have hY1 : 1 ≤ (reqB c2 q2 l2 k2 v2).size := by omega
  have hY2 : (reqB c2 q2 l2 k2 v2).size ≤ 1000 := by omega
  have HSM := Lib.hid (show c2 = c ∧ q2 = q ∧ l2 = l ∧ k2 = k ∧ v2 = v → reqB c q l k v = reqB c2 q2 l2 k2 v2 by rintro ⟨rfl, rfl, rfl, rfl, rfl⟩; rfl)
  generalize reqB c q l k v = X at *
  generalize reqB c2 q2 l2 k2 v2 = Y at *
  unfold reqV at H1 H2 H3 H4
  clear hX hY h1 h2 a1 a2 a3 a4 a5 a6 a7 a8 a9 b1 b2 b3 b4 b5 b6 b7 b8 b9
  have HK0 := Lib.hid (show ∀ W, Below ((w.alloc (.cells #[.int .i64 c, .int .i64 q, .string l, .string k, .string v] 23)).alloc (.cells #[.int .i64 c2, .int .i64 q2, .string l2, .string k2, .string v2] 23)).heap.size ((w.alloc (.cells #[.int .i64 c, .int .i64 q, .string l, .string k, .string v] 23)).alloc (.cells #[.int .i64 c2, .int .i64 q2, .string l2, .string k2, .string v2] 23)) W →
      Blk W w.heap.size 23 #[.int .i64 c, .int .i64 q, .string l, .string k, .string v] ∧ Blk W (w.heap.size + 1) 23 #[.int .i64 c2, .int .i64 q2, .string l2, .string k2, .string v2] ∧ Below w.heap.size w W from fun W hW =>
    ⟨((Blk.new w 23 _).alloc _).below hW (by simp; omega), (Blk.new_at (w := w.alloc _) (by simp)).below hW (by simp), (((Below.refl _ w).alloc (Nat.le_refl _) _).alloc (by simp) _).trans (hW.mono (by simp; omega))⟩)
  go_enter Try.func3, Try.ntmps3
  go_wp2_with fail
  refine (wawake_any _).mono ?_
  rintro e w1 ⟨rfl, hB1⟩
  obtain ⟨hk1, hm1, hb1⟩ := HK0.out _ hB1
  clear hB1
  generalize w.heap.size + 1 = g1 at *
  obtain ⟨c0, c1, c2', c3, c4⟩ := cells5 hk1
  go_wp2_with fail
  refine (H1.out _).mono ?_
  rintro e w2 ⟨rfl, hB2⟩
  have hk2 := hk1.below hB2 hk1.lt
  have hm2 := hm1.below hB2 hm1.lt
  have hb2 := hb1.trans (hB2.mono hb1.size)
  clear c0 c1 c2' c3 c4 hk1 hm1 hb1 hB2 HK0 H1
  obtain ⟨d0, d1, d2, d3, d4⟩ := cells5 hm2
  go_wp2_with fail
  refine (H2.out _).mono ?_
  rintro e w3 ⟨rfl, hB3⟩
  have hk3 := hk2.below hB3 hk2.lt
  have hm3 := hm2.below hB3 hm2.lt
  have hb3 := hb2.trans (hB3.mono hb2.size)
  clear d0 d1 d2 d3 d4 hk2 hm2 hb2 hB3 H2
  go_wp2
  obtain ⟨g0, hg0⟩ : ∃ g0, w.heap.size = g0 := ⟨_, rfl⟩
  rw [hg0] at hk3 hb3 ⊢
  have HG := Lib.hid hg0
  clear hg0
  have HKP := Lib.hid (show ∀ W, Below w3.heap.size w3 W → (W.cell? ⟨g0, 0, none⟩ = some (.int .i64 c) ∧ W.cell? ⟨g0, 1, none⟩ = some (.int .i64 q) ∧ W.cell? ⟨g0, 2, none⟩ = some (.string l) ∧ W.cell? ⟨g0, 3, none⟩ = some (.string k) ∧ W.cell? ⟨g0, 4, none⟩ = some (.string v)) ∧
      (W.cell? ⟨g1, 0, none⟩ = some (.int .i64 c2) ∧ W.cell? ⟨g1, 1, none⟩ = some (.int .i64 q2) ∧ W.cell? ⟨g1, 2, none⟩ = some (.string l2) ∧ W.cell? ⟨g1, 3, none⟩ = some (.string k2) ∧ W.cell? ⟨g1, 4, none⟩ = some (.string v2)) ∧ Below w3.heap.size w3 W from fun W hW => ⟨cells5 (hk3.below hW hk3.lt), cells5 (hm3.below hW hm3.lt), hW⟩)
  go_region_held3 (fun w' => (w'.cell? ⟨g0, 0, none⟩ = some (.int .i64 c) ∧ w'.cell? ⟨g0, 1, none⟩ = some (.int .i64 q) ∧ w'.cell? ⟨g0, 2, none⟩ = some (.string l) ∧ w'.cell? ⟨g0, 3, none⟩ = some (.string k) ∧ w'.cell? ⟨g0, 4, none⟩ = some (.string v)) ∧
      (w'.cell? ⟨g1, 0, none⟩ = some (.int .i64 c2) ∧ w'.cell? ⟨g1, 1, none⟩ = some (.int .i64 q2) ∧ w'.cell? ⟨g1, 2, none⟩ = some (.string l2) ∧ w'.cell? ⟨g1, 3, none⟩ = some (.string k2) ∧ w'.cell? ⟨g1, 4, none⟩ = some (.string v2)) ∧ Below w3.heap.size w3 w')
    ((refine HKP.out _ ?_; first | exact hx2' | exact hx1' | exact (Below.refl _ _).drew | exact Below.refl _ _))
    (first
      | (have := hx1'; go_at_call 11; refine (H4.out _).mono ?_; rintro e w5 ⟨rfl, hx2⟩; have hx2' : Below w3.heap.size w3 w5 := hx1'.trans (hx2.mono hx1'.size))
      | (go_at_call 11; refine (H3.out _).mono ?_; rintro e w4 ⟨rfl, hx1⟩; have hx1' : Below w3.heap.size w3 w4 := (Below.refl _ _).drew.trans hx1))
  have hb5 : Below w.heap.size w w5 := by
    rw [HG.out]
    exact hb3.trans (hx2'.mono (by have := hb3.size; have := HG.out; omega))
  obtain ⟨⟨c0, c1, c2', c3, c4⟩, ⟨d0, d1, d2, d3, d4⟩, _⟩ := HKP.out _ hx2'
  clear hx1 hx1' hx2 hx2' HKP hb3 hk3 hm3 H3 H4
  by_cases hs : c2 = c ∧ q2 = q ∧ l2 = l ∧ k2 = k ∧ v2 = v
  · have hXY := HSM.out hs
    obtain ⟨rfl, rfl, rfl, rfl, rfl⟩ := hs
    subst hXY
    have he := fun W => agg_eq_req W c2 q2 l2 k2 v2
    clear HP1 HP2 HSM
    go_wp2
    go_ret
    exact ⟨rfl, hb5⟩
  · have he := fun W => agg_eql_no W c q l k v c2 q2 l2 k2 v2 hs
    have HS := Lib.hid hs
    clear hs HSM
    have hne : (X.toList == Y.toList) = false := by
      rw [beq_eq_false_iff_ne]
      intro e
      exact HS.out (HP1.out ⟨#[]⟩ (by rw [append_empty]; exact (toList_inj e).symm))
    by_cases hle : X.size ≤ Y.size
    · have hpre : (X.toList == (Y.extract 0 X.size).toList) = false := by
        rw [beq_eq_false_iff_ne]
        intro e
        have e2 := toList_inj e
        refine HS.out (HP1.out (Y.extract X.size Y.size) ?_)
        conv => lhs; rw [ext_split Y X.size hle]
        rw [← e2]
      have hmin : min (X.size : Int) (Y.size : Int) = (X.size : Int) := by omega
      have i1 : (X.size : Int) ≤ (Y.size : Int) := by omega
      have i0 : (0 : Int) ≤ (X.size : Int) := by omega
      clear HP1 HP2 HS
      go_wp2
      go_quiet (fail)
      go_wp2
      go_ret
      exact ⟨rfl, below_drewN hb5 _⟩
    · have hle2 : Y.size ≤ X.size := by omega
      have hpre : ((X.extract 0 Y.size).toList == Y.toList) = false := by
        rw [beq_eq_false_iff_ne]
        intro e
        have e2 := toList_inj e
        obtain ⟨f1, f2, f3, f4, f5⟩ := HP2.out (X.extract Y.size X.size) (by
          conv => lhs; rw [ext_split X Y.size hle2]
          rw [e2])
        exact HS.out ⟨f1.symm, f2.symm, f3.symm, f4.symm, f5.symm⟩
      have hmin : min (X.size : Int) (Y.size : Int) = (Y.size : Int) := by omega
      have i1 : (Y.size : Int) ≤ (X.size : Int) := by omega
      have i0 : (0 : Int) ≤ (Y.size : Int) := by omega
      clear HP1 HP2 HS hle
      go_wp2
      go_quiet (fail)
      go_wp2
      go_ret
      exact ⟨rfl, below_drewN hb5 _⟩

set_option maxRecDepth 100000 in
set_option maxHeartbeats 1000000 in
theorem law_apart_out (c q : Int) (l k v : ByteArray) (hz : l.size ≤ 9223372036854775807 ∧ k.size ≤ 9223372036854775807 ∧ v.size ≤ 9223372036854775807) (c2 q2 : Int) (l2 k2 v2 : ByteArray) (hz2 : l2.size ≤ 9223372036854775807 ∧ k2.size ≤ 9223372036854775807 ∧ v2.size ≤ 9223372036854775807)
    (h : rightB c q l k v = false ∨ (rightB c q l k v = true ∧ rightB c2 q2 l2 k2 v2 = false)) (w : World) :
    Calls Try.prog 3 #[.agg #[.int .i64 c, .int .i64 q, .string l, .string k, .string v], .agg #[.int .i64 c2, .int .i64 q2, .string l2, .string k2, .string v2]] w fun e w' => e = .returned (.bool true) ∧ Below w.heap.size w w' := by
  have H1 := Lib.hid (fun W => rright_any c q l k v hz.1 hz.2.1 hz.2.2 W)
  have H2 := Lib.hid (fun W => rright_any c2 q2 l2 k2 v2 hz2.1 hz2.2.1 hz2.2.2 W)
  unfold reqV at H1 H2
  have HK0 := Lib.hid (show ∀ W, Below ((w.alloc (.cells #[.int .i64 c, .int .i64 q, .string l, .string k, .string v] 23)).alloc (.cells #[.int .i64 c2, .int .i64 q2, .string l2, .string k2, .string v2] 23)).heap.size ((w.alloc (.cells #[.int .i64 c, .int .i64 q, .string l, .string k, .string v] 23)).alloc (.cells #[.int .i64 c2, .int .i64 q2, .string l2, .string k2, .string v2] 23)) W →
      Blk W w.heap.size 23 #[.int .i64 c, .int .i64 q, .string l, .string k, .string v] ∧ Blk W (w.heap.size + 1) 23 #[.int .i64 c2, .int .i64 q2, .string l2, .string k2, .string v2] ∧ Below w.heap.size w W from fun W hW =>
    ⟨((Blk.new w 23 _).alloc _).below hW (by simp; omega), (Blk.new_at (w := w.alloc _) (by simp)).below hW (by simp), (((Below.refl _ w).alloc (Nat.le_refl _) _).alloc (by simp) _).trans (hW.mono (by simp; omega))⟩)
  clear hz hz2
  rcases h with h | ⟨h, h'⟩
  · rw [h] at H1
    clear h H2
    go_enter Try.func3, Try.ntmps3
    go_wp2_with fail
    refine (wawake_any _).mono ?_
    rintro e w1 ⟨rfl, hB1⟩
    obtain ⟨hk1, hm1, hb1⟩ := HK0.out _ hB1
    clear hB1 HK0
    obtain ⟨c0, c1, c2', c3, c4⟩ := cells5 hk1
    go_wp2_with fail
    refine (H1.out _).mono ?_
    rintro e w2 ⟨rfl, hB2⟩
    have hb2 := hb1.trans (hB2.mono hb1.size)
    clear c0 c1 c2' c3 c4 hk1 hm1 hb1 hB2
    go_wp2_with fail
    refine (wawake_any _).mono ?_
    rintro e w3 ⟨rfl, hB3⟩
    have hb3 := hb2.trans (hB3.mono hb2.size)
    go_wp2
    go_ret
    exact ⟨rfl, hb3⟩
  · rw [h] at H1
    rw [h'] at H2
    clear h h'
    go_enter Try.func3, Try.ntmps3
    go_wp2_with fail
    refine (wawake_any _).mono ?_
    rintro e w1 ⟨rfl, hB1⟩
    obtain ⟨hk1, hm1, hb1⟩ := HK0.out _ hB1
    clear hB1 HK0
    obtain ⟨c0, c1, c2', c3, c4⟩ := cells5 hk1
    go_wp2_with fail
    refine (H1.out _).mono ?_
    rintro e w2 ⟨rfl, hB2⟩
    have hm2 := hm1.below hB2 hm1.lt
    have hb2 := hb1.trans (hB2.mono hb1.size)
    clear c0 c1 c2' c3 c4 hk1 hm1 hb1 hB2
    obtain ⟨d0, d1, d2, d3, d4⟩ := cells5 hm2
    go_wp2_with fail
    refine (H2.out _).mono ?_
    rintro e w3 ⟨rfl, hB3⟩
    have hb3 := hb2.trans (hB3.mono hb2.size)
    clear d0 d1 d2 d3 d4 hm2 hb2 hB3
    go_wp2_with fail
    refine (wawake_any _).mono ?_
    rintro e w4 ⟨rfl, hB4⟩
    have hb4 := hb3.trans (hB4.mono hb3.size)
    go_wp2
    go_ret
    exact ⟨rfl, hb4⟩
theorem law_apart (c q : Int) (l k v : ByteArray) (hz : l.size ≤ 9223372036854775807 ∧ k.size ≤ 9223372036854775807 ∧ v.size ≤ 9223372036854775807) (c2 q2 : Int) (l2 k2 v2 : ByteArray) (hz2 : l2.size ≤ 9223372036854775807 ∧ k2.size ≤ 9223372036854775807 ∧ v2.size ≤ 9223372036854775807) (w : World) :
    Calls Try.prog 3 #[.agg #[.int .i64 c, .int .i64 q, .string l, .string k, .string v], .agg #[.int .i64 c2, .int .i64 q2, .string l2, .string k2, .string v2]] w fun e w' => e = .returned (.bool true) ∧ Below w.heap.size w w' := by
  cases h1 : rightB c q l k v
  · exact law_apart_out c q l k v hz c2 q2 l2 k2 v2 hz2 (.inl h1) w
  · cases h2 : rightB c2 q2 l2 k2 v2
    · exact law_apart_out c q l k v hz c2 q2 l2 k2 v2 hz2 (.inr ⟨h1, h2⟩) w
    · exact law_apart_in c q l k v c2 q2 l2 k2 v2 h1 h2 w
end Go.Proofs.Ytfbeakakokhfhaa

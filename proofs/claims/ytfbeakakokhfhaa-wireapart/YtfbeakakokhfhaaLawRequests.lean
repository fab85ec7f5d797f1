/-
  The walk of the law WireRequests.
-/
import Derived.Test.YtfbeakakokhfhaaLawReads
namespace Go.Proofs.Ytfbeakakokhfhaa
open Go.RowKit

theorem toList_inj {a b : ByteArray} (h : a.toList = b.toList) : a = b := by
  rw [ByteArray.toList_eq, ByteArray.toList_eq] at h
  rw [← of_toList a, h, of_toList]
theorem agg_eq_req (w : World) (c q : Int) (l k v : ByteArray) : (binOp .eql 23 (.agg #[.int .i64 c, .int .i64 q, .string l, .string k, .string v]) (.agg #[.int .i64 c, .int .i64 q, .string l, .string k, .string v])).run Try.prog w = .ok (.bool true) w := by
  go_simp
theorem agg_neq_req (w : World) (c q : Int) (l k v : ByteArray) (c2 q2 : Int) (l2 k2 v2 : ByteArray) (h : ¬ (c2 = c ∧ q2 = q ∧ l2 = l ∧ k2 = k ∧ v2 = v)) : (binOp .neq 23 (.agg #[.int .i64 c2, .int .i64 q2, .string l2, .string k2, .string v2]) (.agg #[.int .i64 c, .int .i64 q, .string l, .string k, .string v])).run Try.prog w = .ok (.bool true) w := by
  go_simp
  exact fun h1 h2 h3 h4 h5 => h ⟨h1, h2, toList_inj h3, toList_inj h4, toList_inj h5⟩

set_option maxRecDepth 100000 in
set_option maxHeartbeats 4000000 in
theorem law_requests_in (c q : Int) (l k v : ByteArray) (hl : l.size ≤ 300) (hk : k.size ≤ 300) (hv : v.size ≤ 300) (RB : Bool) (hRB : rightB c q l k v = RB) (w : World) :
    Calls Try.prog 5 #[.agg #[.int .i64 c, .int .i64 q, .string l, .string k, .string v]] w fun e w' => e = .returned (.bool true) ∧ Below w.heap.size w w' := by
  have hsz := reqB_size c q l k v
  obtain ⟨e2, c2, q2, l2, k2, v2, HV2, z1, z2, z3, HH⟩ := rqS (reqB c q l k v)
  have HRT := Lib.hid (fun h => rdReq_right (c := c) (q := q) (l := l) (k := k) (v := v) h)
  rw [HV2] at HRT
  have H1 := Lib.hid (fun W => request_any c q l k v (by omega) (by omega) (by omega) W)
  have H2 := Lib.hid (fun W => readRequest_any (reqB c q l k v) (by omega) W)
  have H3 := Lib.hid (fun W => rrequest_any c q l k v (by omega) (by omega) (by omega) W)
  have H4 := Lib.hid (fun W => right_any c q l k v (by omega) (by omega) (by omega) W)
  have H5 := Lib.hid (fun W => rright_any c q l k v (by omega) (by omega) (by omega) W)
  have H6 := Lib.hid (fun W => rright_any c2 q2 l2 k2 v2 (by omega) (by omega) (by omega) W)
  rw [HV2] at H2
  rw [hRB] at H4 H5 HRT
  have HRB := Lib.hid hRB
  have HH' := Lib.hid HH
  have t1 : ¬ (300 : Int) < (l.size : Int) := by omega
  have t2 : ¬ (300 : Int) < (k.size : Int) := by omega
  have t3 : ¬ (300 : Int) < (v.size : Int) := by omega
  generalize reqB c q l k v = X at *
  clear HV2 HH hsz z1 z2 z3 hRB
  unfold reqV at H1 H2 H3 H4 H5 H6
  go_enter Try.func5, Try.ntmps5
  go_wp2_with fail
  refine (wawake_any _).mono ?_
  rintro e w1 ⟨rfl, hB1⟩
  have hk1 : Blk w1 w.heap.size 23 #[.int .i64 c, .int .i64 q, .string l, .string k, .string v] := (Blk.new w 23 _).below hB1 (by simp)
  have hB1' := ((Below.refl _ w).alloc (Nat.le_refl _) (.cells #[.int .i64 c, .int .i64 q, .string l, .string k, .string v] 23)).trans (hB1.mono (by simp))
  obtain ⟨c0, c1, c2', c3, c4⟩ := cells5 hk1
  clear hB1
  go_wp2_with fail
  refine (H1.out _).mono ?_
  rintro e w2 ⟨rfl, hB2⟩
  have hk2 := hk1.below hB2 hk1.lt
  have hB2' := hB1'.trans (hB2.mono hB1'.size)
  clear c0 c1 c2' c3 c4 hk1 hB1' hB2
  go_wp2_with fail
  refine (H2.out _).mono ?_
  rintro e w3 ⟨rfl, hB3⟩
  have hk3 := (hk2.below hB3 hk2.lt).alloc (.cells #[.int .i64 c2, .int .i64 q2, .string l2, .string k2, .string v2] 23)
  have hx3 : Blk (w3.alloc (.cells #[.int .i64 c2, .int .i64 q2, .string l2, .string k2, .string v2] 23)) w3.heap.size 23 #[.int .i64 c2, .int .i64 q2, .string l2, .string k2, .string v2] := Blk.new _ _ _
  have hB3' := (hB2'.trans (hB3.mono hB2'.size))
  have hB3'' := hB3'.alloc hB3'.size (.cells #[.int .i64 c2, .int .i64 q2, .string l2, .string k2, .string v2] 23)
  clear hk2 hB2' hB3 hB3' H1 H2
  go_wp2
  generalize w3.alloc (.cells #[.int .i64 c2, .int .i64 q2, .string l2, .string k2, .string v2] 23) = w4 at *
  generalize w3.heap.size = g at *
  obtain ⟨g0, hg0⟩ : ∃ g0, w.heap.size = g0 := ⟨_, rfl⟩
  rw [hg0] at hk3 hB3'' ⊢
  have HG := Lib.hid hg0
  clear hg0
  have HKP := Lib.hid (show ∀ W, Below w4.heap.size w4 W → (W.cell? ⟨g0, 0, none⟩ = some (.int .i64 c) ∧ W.cell? ⟨g0, 1, none⟩ = some (.int .i64 q) ∧ W.cell? ⟨g0, 2, none⟩ = some (.string l) ∧ W.cell? ⟨g0, 3, none⟩ = some (.string k) ∧ W.cell? ⟨g0, 4, none⟩ = some (.string v)) ∧ Below w4.heap.size w4 W from fun W hW => ⟨cells5 (hk3.below hW hk3.lt), hW⟩)
  go_region_held3 (fun w' => (w'.cell? ⟨g0, 0, none⟩ = some (.int .i64 c) ∧ w'.cell? ⟨g0, 1, none⟩ = some (.int .i64 q) ∧ w'.cell? ⟨g0, 2, none⟩ = some (.string l) ∧ w'.cell? ⟨g0, 3, none⟩ = some (.string k) ∧ w'.cell? ⟨g0, 4, none⟩ = some (.string v)) ∧ Below w4.heap.size w4 w')
    ((refine HKP.out _ ?_; first | exact hb3' | exact hb2' | exact hb1' | exact (Below.refl _ _).drew | exact Below.refl _ _))
    (first
      | (have := hb2'; go_at_call 15; refine (H3.out _).mono ?_; rintro e w7 ⟨rfl, hb3⟩; have hb3' : Below w4.heap.size w4 w7 := hb2'.trans (hb3.mono hb2'.size))
      | (have := hb1'; go_at_call 10; refine (H5.out _).mono ?_; rintro e w6 ⟨rfl, hb2⟩; have hb2' : Below w4.heap.size w4 w6 := hb1'.trans (hb2.mono hb1'.size))
      | (go_at_call 14; refine (H4.out _).mono ?_; rintro e w5 ⟨rfl, hb1⟩; have hb1' : Below w4.heap.size w4 w5 := (Below.refl _ _).drew.trans hb1))
  have hB7 : Below g0 w w7 := hB3''.trans (hb3'.mono (by have := hB3''.size; have := HG.out; omega))
  have hk7 := hk3.below hb3' hk3.lt
  have hx7 := hx3.below hb3' hx3.lt
  clear hb1 hb1' hb2 hb2' hb3 hb3' HKP hB3'' hk3 hx3 H3 H4
  obtain ⟨c0, c1, c2', c3, c4⟩ := cells5 hk7
  go_wp2_with fail
  refine (H5.out _).mono ?_
  rintro e w8 ⟨rfl, hB8⟩
  have hk8 := hk7.below hB8 hk7.lt
  have hx8 := hx7.below hB8 hx7.lt
  have hB8' : Below w.heap.size w w8 := by
    rw [HG.out]
    exact hB7.trans (hB8.mono (by have := hB7.size; have := HG.out; omega))
  clear c0 c1 c2' c3 c4 hk7 hx7 hB7 hB8 H5
  obtain ⟨c0, c1, c2', c3, c4⟩ := cells5 hk8
  obtain ⟨d0, d1, d2, d3, d4⟩ := cells5 hx8
  cases RB
  · rcases HH'.out with ⟨rfl, hh1, hh2⟩ | ⟨rfl, rfl, rfl, rfl, rfl, rfl⟩
    · have hne : ¬ (c2 = c ∧ q2 = q ∧ l2 = l ∧ k2 = k ∧ v2 = v) := by
        rintro ⟨rfl, rfl, rfl, rfl, rfl⟩
        have := HRB.out
        rw [hh1] at this
        cases this
      have hneq := fun W => agg_neq_req W c q l k v c2 q2 l2 k2 v2 hne
      rw [hh1] at H6
      clear HH' hh1 hh2 HRT hne
      go_wp2_with fail
      refine (H6.out _).mono ?_
      rintro e w9 ⟨rfl, hB9⟩
      have hk9 := hk8.below hB9 hk8.lt
      have hx9 := hx8.below hB9 hx8.lt
      have hB9' := hB8'.trans (hB9.mono hB8'.size)
      clear c0 c1 c2' c3 c4 d0 d1 d2 d3 d4 hk8 hx8 hB8' hB9
      obtain ⟨c0, c1, c2', c3, c4⟩ := cells5 hk9
      obtain ⟨d0, d1, d2, d3, d4⟩ := cells5 hx9
      go_wp2
      go_ret
      exact ⟨rfl, hB9'⟩
    · have he := fun W => agg_eq_req W 0 0 ⟨#[]⟩ ⟨#[]⟩ ⟨#[]⟩
      clear HH' H6 HRT
      go_wp2
      go_ret
      exact ⟨rfl, hB8'⟩
  · have hq := HRT.out rfl
    simp only [reqV] at hq
    injection hq with hq
    simp only [List.cons.injEq, Value.agg.injEq, Array.mk.injEq, Value.int.injEq, Value.string.injEq, true_and, and_true] at hq
    obtain ⟨⟨rfl, rfl, rfl, rfl, rfl⟩, rfl⟩ := hq
    have he := fun W => agg_eq_req W c2 q2 l2 k2 v2
    clear HRT HH' H6
    go_wp2
    go_ret
    exact ⟨rfl, hB8'⟩

set_option maxRecDepth 100000 in
set_option maxHeartbeats 1000000 in
theorem law_requests_out (c q : Int) (l k v : ByteArray) (hz : l.size ≤ 9223372036854775807 ∧ k.size ≤ 9223372036854775807 ∧ v.size ≤ 9223372036854775807) (h : 300 < l.size ∨ (l.size ≤ 300 ∧ 300 < k.size) ∨ (l.size ≤ 300 ∧ k.size ≤ 300 ∧ 300 < v.size)) (w : World) :
    Calls Try.prog 5 #[.agg #[.int .i64 c, .int .i64 q, .string l, .string k, .string v]] w fun e w' => e = .returned (.bool true) ∧ Below w.heap.size w w' := by
  obtain ⟨z1, z2, z3⟩ := hz
  rcases h with h | ⟨h1, h⟩ | ⟨h1, h2, h⟩
  · have t1 : (300 : Int) < (l.size : Int) := by omega
    clear h
    go_enter Try.func5, Try.ntmps5
    go_wp2_with fail
    refine (wawake_any _).mono ?_
    rintro e w1 ⟨rfl, hB1⟩
    have hk1 : Blk w1 w.heap.size 23 #[.int .i64 c, .int .i64 q, .string l, .string k, .string v] := (Blk.new w 23 _).below hB1 (by simp)
    have hB1' := ((Below.refl _ w).alloc (Nat.le_refl _) (.cells #[.int .i64 c, .int .i64 q, .string l, .string k, .string v] 23)).trans (hB1.mono (by simp))
    obtain ⟨c0, c1, c2, c3, c4⟩ := cells5 hk1
    clear hB1 hk1
    go_wp2_with fail
    refine (wawake_any _).mono ?_
    rintro e w2 ⟨rfl, hB2⟩
    have hB2' := hB1'.trans (hB2.mono hB1'.size)
    go_wp2
    go_ret
    exact ⟨rfl, hB2'⟩
  · have t1 : ¬ (300 : Int) < (l.size : Int) := by omega
    have t2 : (300 : Int) < (k.size : Int) := by omega
    clear h h1
    go_enter Try.func5, Try.ntmps5
    go_wp2_with fail
    refine (wawake_any _).mono ?_
    rintro e w1 ⟨rfl, hB1⟩
    have hk1 : Blk w1 w.heap.size 23 #[.int .i64 c, .int .i64 q, .string l, .string k, .string v] := (Blk.new w 23 _).below hB1 (by simp)
    have hB1' := ((Below.refl _ w).alloc (Nat.le_refl _) (.cells #[.int .i64 c, .int .i64 q, .string l, .string k, .string v] 23)).trans (hB1.mono (by simp))
    obtain ⟨c0, c1, c2, c3, c4⟩ := cells5 hk1
    clear hB1 hk1
    go_wp2_with fail
    refine (wawake_any _).mono ?_
    rintro e w2 ⟨rfl, hB2⟩
    have hB2' := hB1'.trans (hB2.mono hB1'.size)
    go_wp2
    go_ret
    exact ⟨rfl, hB2'⟩
  · have t1 : ¬ (300 : Int) < (l.size : Int) := by omega
    have t2 : ¬ (300 : Int) < (k.size : Int) := by omega
    have t3 : (300 : Int) < (v.size : Int) := by omega
    clear h h1 h2
    go_enter Try.func5, Try.ntmps5
    go_wp2_with fail
    refine (wawake_any _).mono ?_
    rintro e w1 ⟨rfl, hB1⟩
    have hk1 : Blk w1 w.heap.size 23 #[.int .i64 c, .int .i64 q, .string l, .string k, .string v] := (Blk.new w 23 _).below hB1 (by simp)
    have hB1' := ((Below.refl _ w).alloc (Nat.le_refl _) (.cells #[.int .i64 c, .int .i64 q, .string l, .string k, .string v] 23)).trans (hB1.mono (by simp))
    obtain ⟨c0, c1, c2, c3, c4⟩ := cells5 hk1
    clear hB1 hk1
    go_wp2_with fail
    refine (wawake_any _).mono ?_
    rintro e w2 ⟨rfl, hB2⟩
    have hB2' := hB1'.trans (hB2.mono hB1'.size)
    go_wp2
    go_ret
    exact ⟨rfl, hB2'⟩
theorem law_requests (c q : Int) (l k v : ByteArray) (hz : l.size ≤ 9223372036854775807 ∧ k.size ≤ 9223372036854775807 ∧ v.size ≤ 9223372036854775807) (w : World) :
    Calls Try.prog 5 #[.agg #[.int .i64 c, .int .i64 q, .string l, .string k, .string v]] w fun e w' => e = .returned (.bool true) ∧ Below w.heap.size w w' := by
  by_cases h : l.size ≤ 300 ∧ k.size ≤ 300 ∧ v.size ≤ 300
  · exact law_requests_in c q l k v h.1 h.2.1 h.2.2 _ rfl w
  · exact law_requests_out c q l k v hz (by omega) w
end Go.Proofs.Ytfbeakakokhfhaa

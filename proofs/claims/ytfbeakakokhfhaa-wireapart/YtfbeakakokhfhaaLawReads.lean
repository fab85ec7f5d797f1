/-
  The walk of the law WireReads.
-/
import Derived.Test.YtfbeakakokhfhaaWMath
namespace Go.Proofs.Ytfbeakakokhfhaa
open Go.RowKit

theorem rdReq_yes {b : ByteArray} (h : okReq b = true) : rdReq b = #[.agg (reqV (rqC b) (rqQ b) (rqL b) (rqK b) (rqV b)), .int .i64 0] := by unfold rdReq; rw [h]; rfl
theorem rdReq_no {b : ByteArray} (h : okReq b = false) : rdReq b = #[.agg zReq, .int .i64 2] := by unfold rdReq; rw [h]; rfl
theorem rdHead_yes {b : ByteArray} (h : okHead b = true) : rdHead b = #[.agg (headV (hdA b) (hdB b) (hdC b) (hdR b) (hdM b)), .int .i64 0] := by unfold rdHead; rw [h]; rfl
theorem rdHead_no {b : ByteArray} (h : okHead b = false) : rdHead b = #[.agg zHead, .int .i64 2] := by unfold rdHead; rw [h]; rfl

/-- what the law holds of a request that was read (ok: whether one was) -/
def RqS (b : ByteArray) (e : Int) (c q : Int) (l k v : ByteArray) : Prop :=
  rdReq b = #[.agg (reqV c q l k v), .int .i64 e] ∧ l.size ≤ b.size ∧ k.size ≤ b.size ∧ v.size ≤ b.size ∧ ((e = 0 ∧ rightB c q l k v = true ∧ reqB c q l k v = b) ∨ (e = 2 ∧ c = 0 ∧ q = 0 ∧ l = ⟨#[]⟩ ∧ k = ⟨#[]⟩ ∧ v = ⟨#[]⟩))
theorem rqS (b : ByteArray) : ∃ e c q l k v, RqS b e c q l k v := by
  cases h : okReq b
  · exact ⟨2, 0, 0, ⟨#[]⟩, ⟨#[]⟩, ⟨#[]⟩, rdReq_no h, Nat.zero_le _, Nat.zero_le _, Nat.zero_le _, .inr ⟨rfl, rfl, rfl, rfl, rfl, rfl⟩⟩
  · obtain ⟨_, _, _, _, _, z5, z6, z7⟩ := q_sizes b
    exact ⟨0, _, _, _, _, _, rdReq_yes h, z5, z6, z7, .inl ⟨rfl, (okReq_right h).1, (okReq_right h).2⟩⟩
def HdS (b : ByteArray) (e : Int) (x y z : Int) (r m : ByteArray) : Prop :=
  rdHead b = #[.agg (headV x y z r m), .int .i64 e] ∧ r.size ≤ b.size ∧ m.size ≤ b.size ∧ ((e = 0 ∧ rheadB x y z r m = true ∧ headB x y z r m = b) ∨ (e = 2 ∧ x = 0 ∧ y = 0 ∧ z = 0 ∧ r = ⟨#[]⟩ ∧ m = ⟨#[]⟩))
theorem hdS (b : ByteArray) : ∃ e x y z r m, HdS b e x y z r m := by
  cases h : okHead b
  · exact ⟨2, 0, 0, 0, ⟨#[]⟩, ⟨#[]⟩, rdHead_no h, Nat.zero_le _, Nat.zero_le _, .inr ⟨rfl, rfl, rfl, rfl, rfl, rfl⟩⟩
  · obtain ⟨_, _, _, _, _, z5, z6⟩ := e_sizes b
    exact ⟨0, _, _, _, _, _, rdHead_yes h, z5, z6, .inl ⟨rfl, (okHead_right h).1, (okHead_right h).2⟩⟩
/-- ReadList, told by its answer -/
def RLS (b : ByteArray) (w : World) (e : Ending) (w' : World) : Prop :=
  ∃ oa n cap ss f, e = .returned (.tuple #[.slice oa n cap, .int .i64 f]) ∧ ss.length = n ∧ Strs w' oa ss ∧ Below w.heap.size w w' ∧ ((f = 0 ∧ listB ss = b ∧ n ≤ 1000 ∧ (txts ss).size ≤ b.size) ∨ (f = 2 ∧ ss = []))
theorem readList_s (b : ByteArray) (hb : b.size ≤ 268435456) (w : World) : Calls Try.prog 20 #[.string b] w (RLS b w) := by
  refine (readList_any b hb w).mono ?_
  rintro e w' ⟨oa, n, cap, ss, rfl, hn, hss, hst, hB⟩
  cases h : okList b
  · rw [h] at hss
    exact ⟨oa, n, cap, ss, 2, rfl, hn, hst, hB, .inr ⟨rfl, hss⟩⟩
  · rw [h] at hss
    have hss' : ss = lsT b := hss
    have hk : decide (lsN b ≤ 1000) = true ∧ decide (listB (lsT b) = b) = true := by
      unfold okList at h
      simpa using h
    have h1 := of_decide_eq_true hk.1
    have h2 := of_decide_eq_true hk.2
    subst hss'
    refine ⟨oa, n, cap, lsT b, 0, rfl, hn, hst, hB, .inl ⟨rfl, h2, ?_, ?_⟩⟩
    · rw [← hn]; unfold lsT; rw [rdT_length]; exact h1
    · have := listB_size (lsT b)
      rw [h2] at this
      omega
theorem agg_same (w : World) (c q : Int) (l k v : ByteArray) : (binOp .neq 23 (.agg (reqV c q l k v)) (.agg (reqV c q l k v))).run Try.prog w = .ok (.bool false) w := by
  unfold reqV
  go_simp
theorem zreq_neq (w : World) : (binOp .neq 23 (.agg #[.int .i64 0, .int .i64 0, .string ⟨#[]⟩, .string ⟨#[]⟩, .string ⟨#[]⟩]) (.agg #[.int .i64 0, .int .i64 0, .string ⟨#[]⟩, .string ⟨#[]⟩, .string ⟨#[]⟩])).run Try.prog w = .ok (.bool false) w := by kernel_rfl

set_option maxRecDepth 100000 in
set_option maxHeartbeats 4000000 in
theorem law_reads (b : ByteArray) (hb : b.size ≤ 9223372036854775807) (w : World) : Calls Try.prog 7 #[.string b] w fun e w' => e = .returned (.bool true) ∧ Below w.heap.size w w' := by
  by_cases hlen : b.size ≤ 600
  · have hlen' : ¬ (600 : Int) < (b.size : Int) := by omega
    obtain ⟨e1, c, q, l, k, v, HV1, z1, z2, z3, HR⟩ := rqS b
    obtain ⟨e2, x, y, z, r, m, HV2, z4, z5, HH⟩ := hdS b
    have H1 := Lib.hid (fun W => readRequest_any b (by omega) W)
    have H2 := Lib.hid (fun W => readHead_any b (by omega) W)
    have H3 := Lib.hid (fun W => readList_s b (by omega) W)
    rw [HV1] at H1
    rw [HV2] at H2
    clear HV1 HV2
    unfold reqV at H1
    unfold headV at H2
    have HR' := Lib.hid HR
    have HH' := Lib.hid HH
    clear HR HH
    go_enter Try.func7, Try.ntmps7
    go_wp2_with fail
    refine (wawake_any _).mono ?_
    rintro e w1 ⟨rfl, hB1⟩
    go_wp2_with fail
    refine (H1.out _).mono ?_
    rintro e w2 ⟨rfl, hB2⟩
    have hB2' := hB1.trans (hB2.mono hB1.size)
    clear hB1 hB2
    go_wp2_with fail
    refine (H2.out _).mono ?_
    rintro e w3 ⟨rfl, hB3⟩
    have hk3 : Blk w3 w2.heap.size 23 (reqV c q l k v) := (Blk.new w2 23 _).below hB3 (by simp)
    have hB3' := (hB2'.alloc hB2'.size _).trans (hB3.mono (by have := hB2'.size; simp; omega))
    generalize w2.heap.size = b1 at *
    clear hB2' hB3
    go_wp2_with fail
    refine (H3.out _).mono ?_
    rintro e w4 ⟨oa, n, cap, ss, e3, rfl, hn, hst4, hB4, HLL⟩
    have hk4 : Blk w4 b1 23 (reqV c q l k v) := (hk3.alloc _).below hB4 (hk3.alloc (.cells (headV x y z r m) 34)).lt
    have hh4 : Blk w4 w3.heap.size 34 (headV x y z r m) := (Blk.new w3 34 _).below hB4 (by simp)
    have hB4' := (hB3'.alloc hB3'.size _).trans (hB4.mono (by have := hB3'.size; simp; omega))
    generalize w3.heap.size = b2 at *
    clear hk3 hB3' hB4 H1 H2 H3
    have HL := Lib.hid (show ∀ W, Below w4.heap.size w4 W → (W.cell? ⟨b1, 0, none⟩ = some (.int .i64 c) ∧ W.cell? ⟨b1, 1, none⟩ = some (.int .i64 q) ∧ W.cell? ⟨b1, 2, none⟩ = some (.string l) ∧ W.cell? ⟨b1, 3, none⟩ = some (.string k) ∧ W.cell? ⟨b1, 4, none⟩ = some (.string v)) ∧ (W.cell? ⟨b2, 0, none⟩ = some (.int .i64 x) ∧ W.cell? ⟨b2, 1, none⟩ = some (.int .i64 y) ∧ W.cell? ⟨b2, 2, none⟩ = some (.int .i64 z) ∧ W.cell? ⟨b2, 3, none⟩ = some (.string r) ∧ W.cell? ⟨b2, 4, none⟩ = some (.string m)) ∧ Strs W oa ss ∧ Below w.heap.size w W from
      fun W hW => ⟨cells5 (hk4.below hW hk4.lt), cells5 (hh4.below hW hh4.lt), hst4.below hW, hB4'.trans (hW.mono hB4'.size)⟩)
    have HR1 := Lib.hid (fun W => rright_any c q l k v (by omega) (by omega) (by omega) W)
    have HR2 := Lib.hid (fun W => rrequest_any c q l k v (by omega) (by omega) (by omega) W)
    have HH1 := Lib.hid (fun W => rhead_any x y z r m (by omega) (by omega) W)
    have HN := Lib.hid hn
    clear hk4 hh4 hst4 hB4' z1 z2 z3 z4 z5 hn
    rcases HR'.out with ⟨rfl, hr1, hr2⟩ | ⟨rfl, rfl, rfl, rfl, rfl, rfl⟩
    · rw [hr1] at HR1
      rw [hr2] at HR2
      clear HR' hr1 hr2
      rcases HH'.out with ⟨rfl, hh1, hh2⟩ | ⟨rfl, rfl, rfl, rfl, rfl, rfl⟩
      · rw [hh2] at HH1
        clear HH' hh1 hh2
        rcases HLL with ⟨rfl, hl1, hl2, hl3⟩ | ⟨rfl, hl1⟩
        · have HLI := Lib.hid (fun W hW => rlist_any oa n cap ss HN.out (by omega) (by omega) W hW)
          rw [hl1] at HLI
          clear hl1 hl3
          obtain ⟨⟨c0, c1, c2, c3, c4⟩, ⟨d0, d1, d2, d3, d4⟩, hst, hB⟩ := HL.out _ (Below.refl _ _)
          go_wp2_with fail
          refine (HR1.out _).mono ?_
          rintro e w5 ⟨rfl, hb5⟩
          have hx5 : Below w4.heap.size w4 w5 := hb5
          clear c0 c1 c2 c3 c4 d0 d1 d2 d3 d4 hst hB
          obtain ⟨⟨c0, c1, c2, c3, c4⟩, ⟨d0, d1, d2, d3, d4⟩, hst, hB⟩ := HL.out _ hx5
          go_wp2_with fail
          refine (HR2.out _).mono ?_
          rintro e w6 ⟨rfl, hb6⟩
          have hx6 : Below w4.heap.size w4 w6 := hx5.trans (hb6.mono hx5.size)
          clear c0 c1 c2 c3 c4 d0 d1 d2 d3 d4 hst hB
          obtain ⟨⟨c0, c1, c2, c3, c4⟩, ⟨d0, d1, d2, d3, d4⟩, hst, hB⟩ := HL.out _ hx6
          go_wp2_with fail
          refine (HH1.out _).mono ?_
          rintro e w7 ⟨rfl, hb7⟩
          have hx7 : Below w4.heap.size w4 w7 := hx6.trans (hb7.mono hx6.size)
          clear c0 c1 c2 c3 c4 d0 d1 d2 d3 d4 hst hB
          obtain ⟨⟨c0, c1, c2, c3, c4⟩, ⟨d0, d1, d2, d3, d4⟩, hst, hB⟩ := HL.out _ hx7
          go_wp2_with fail
          refine (HLI.out _ hst).mono ?_
          rintro e w8 ⟨rfl, hb8⟩
          have hx8 : Below w4.heap.size w4 w8 := hx7.trans (hb8.mono hx7.size)
          clear c0 c1 c2 c3 c4 d0 d1 d2 d3 d4 hst hB
          obtain ⟨⟨c0, c1, c2, c3, c4⟩, ⟨d0, d1, d2, d3, d4⟩, hst, hB⟩ := HL.out _ hx8
          go_wp2
          go_ret
          exact ⟨rfl, hB⟩
        · have hn0 : n = 0 := by have := HN.out; rw [hl1] at this; simpa using this.symm
          subst hn0
          clear hl1
          obtain ⟨⟨c0, c1, c2, c3, c4⟩, ⟨d0, d1, d2, d3, d4⟩, hst, hB⟩ := HL.out _ (Below.refl _ _)
          go_wp2_with fail
          refine (HR1.out _).mono ?_
          rintro e w5 ⟨rfl, hb5⟩
          have hx5 : Below w4.heap.size w4 w5 := hb5
          clear c0 c1 c2 c3 c4 d0 d1 d2 d3 d4 hst hB
          obtain ⟨⟨c0, c1, c2, c3, c4⟩, ⟨d0, d1, d2, d3, d4⟩, hst, hB⟩ := HL.out _ hx5
          go_wp2_with fail
          refine (HR2.out _).mono ?_
          rintro e w6 ⟨rfl, hb6⟩
          have hx6 : Below w4.heap.size w4 w6 := hx5.trans (hb6.mono hx5.size)
          clear c0 c1 c2 c3 c4 d0 d1 d2 d3 d4 hst hB
          obtain ⟨⟨c0, c1, c2, c3, c4⟩, ⟨d0, d1, d2, d3, d4⟩, hst, hB⟩ := HL.out _ hx6
          go_wp2_with fail
          refine (HH1.out _).mono ?_
          rintro e w7 ⟨rfl, hb7⟩
          have hx7 : Below w4.heap.size w4 w7 := hx6.trans (hb7.mono hx6.size)
          clear c0 c1 c2 c3 c4 d0 d1 d2 d3 d4 hst hB
          obtain ⟨⟨c0, c1, c2, c3, c4⟩, ⟨d0, d1, d2, d3, d4⟩, hst, hB⟩ := HL.out _ hx7
          go_wp2
          go_ret
          exact ⟨rfl, hB⟩
      · clear HH' HH1
        rcases HLL with ⟨rfl, hl1, hl2, hl3⟩ | ⟨rfl, hl1⟩
        · have HLI := Lib.hid (fun W hW => rlist_any oa n cap ss HN.out (by omega) (by omega) W hW)
          rw [hl1] at HLI
          clear hl1 hl3
          obtain ⟨⟨c0, c1, c2, c3, c4⟩, ⟨d0, d1, d2, d3, d4⟩, hst, hB⟩ := HL.out _ (Below.refl _ _)
          go_wp2_with fail
          refine (HR1.out _).mono ?_
          rintro e w5 ⟨rfl, hb5⟩
          have hx5 : Below w4.heap.size w4 w5 := hb5
          clear c0 c1 c2 c3 c4 d0 d1 d2 d3 d4 hst hB
          obtain ⟨⟨c0, c1, c2, c3, c4⟩, ⟨d0, d1, d2, d3, d4⟩, hst, hB⟩ := HL.out _ hx5
          go_wp2_with fail
          refine (HR2.out _).mono ?_
          rintro e w6 ⟨rfl, hb6⟩
          have hx6 : Below w4.heap.size w4 w6 := hx5.trans (hb6.mono hx5.size)
          clear c0 c1 c2 c3 c4 d0 d1 d2 d3 d4 hst hB
          obtain ⟨⟨c0, c1, c2, c3, c4⟩, ⟨d0, d1, d2, d3, d4⟩, hst, hB⟩ := HL.out _ hx6
          go_wp2_with fail
          refine (HLI.out _ hst).mono ?_
          rintro e w7 ⟨rfl, hb7⟩
          have hx7 : Below w4.heap.size w4 w7 := hx6.trans (hb7.mono hx6.size)
          clear c0 c1 c2 c3 c4 d0 d1 d2 d3 d4 hst hB
          obtain ⟨⟨c0, c1, c2, c3, c4⟩, ⟨d0, d1, d2, d3, d4⟩, hst, hB⟩ := HL.out _ hx7
          go_wp2
          go_ret
          exact ⟨rfl, hB⟩
        · have hn0 : n = 0 := by have := HN.out; rw [hl1] at this; simpa using this.symm
          subst hn0
          clear hl1
          obtain ⟨⟨c0, c1, c2, c3, c4⟩, ⟨d0, d1, d2, d3, d4⟩, hst, hB⟩ := HL.out _ (Below.refl _ _)
          go_wp2_with fail
          refine (HR1.out _).mono ?_
          rintro e w5 ⟨rfl, hb5⟩
          have hx5 : Below w4.heap.size w4 w5 := hb5
          clear c0 c1 c2 c3 c4 d0 d1 d2 d3 d4 hst hB
          obtain ⟨⟨c0, c1, c2, c3, c4⟩, ⟨d0, d1, d2, d3, d4⟩, hst, hB⟩ := HL.out _ hx5
          go_wp2_with fail
          refine (HR2.out _).mono ?_
          rintro e w6 ⟨rfl, hb6⟩
          have hx6 : Below w4.heap.size w4 w6 := hx5.trans (hb6.mono hx5.size)
          clear c0 c1 c2 c3 c4 d0 d1 d2 d3 d4 hst hB
          obtain ⟨⟨c0, c1, c2, c3, c4⟩, ⟨d0, d1, d2, d3, d4⟩, hst, hB⟩ := HL.out _ hx6
          go_wp2
          go_ret
          exact ⟨rfl, hB⟩
    · clear HR' HR1 HR2
      rcases HH'.out with ⟨rfl, hh1, hh2⟩ | ⟨rfl, rfl, rfl, rfl, rfl, rfl⟩
      · rw [hh2] at HH1
        clear HH' hh1 hh2
        rcases HLL with ⟨rfl, hl1, hl2, hl3⟩ | ⟨rfl, hl1⟩
        · have HLI := Lib.hid (fun W hW => rlist_any oa n cap ss HN.out (by omega) (by omega) W hW)
          rw [hl1] at HLI
          clear hl1 hl3
          obtain ⟨⟨c0, c1, c2, c3, c4⟩, ⟨d0, d1, d2, d3, d4⟩, hst, hB⟩ := HL.out _ (Below.refl _ _)
          go_wp2_with fail
          refine (HH1.out _).mono ?_
          rintro e w5 ⟨rfl, hb5⟩
          have hx5 : Below w4.heap.size w4 w5 := hb5
          clear c0 c1 c2 c3 c4 d0 d1 d2 d3 d4 hst hB
          obtain ⟨⟨c0, c1, c2, c3, c4⟩, ⟨d0, d1, d2, d3, d4⟩, hst, hB⟩ := HL.out _ hx5
          go_wp2_with fail
          refine (HLI.out _ hst).mono ?_
          rintro e w6 ⟨rfl, hb6⟩
          have hx6 : Below w4.heap.size w4 w6 := hx5.trans (hb6.mono hx5.size)
          clear c0 c1 c2 c3 c4 d0 d1 d2 d3 d4 hst hB
          obtain ⟨⟨c0, c1, c2, c3, c4⟩, ⟨d0, d1, d2, d3, d4⟩, hst, hB⟩ := HL.out _ hx6
          go_wp2
          go_ret
          exact ⟨rfl, hB⟩
        · have hn0 : n = 0 := by have := HN.out; rw [hl1] at this; simpa using this.symm
          subst hn0
          clear hl1
          obtain ⟨⟨c0, c1, c2, c3, c4⟩, ⟨d0, d1, d2, d3, d4⟩, hst, hB⟩ := HL.out _ (Below.refl _ _)
          go_wp2_with fail
          refine (HH1.out _).mono ?_
          rintro e w5 ⟨rfl, hb5⟩
          have hx5 : Below w4.heap.size w4 w5 := hb5
          clear c0 c1 c2 c3 c4 d0 d1 d2 d3 d4 hst hB
          obtain ⟨⟨c0, c1, c2, c3, c4⟩, ⟨d0, d1, d2, d3, d4⟩, hst, hB⟩ := HL.out _ hx5
          go_wp2
          go_ret
          exact ⟨rfl, hB⟩
      · clear HH' HH1
        rcases HLL with ⟨rfl, hl1, hl2, hl3⟩ | ⟨rfl, hl1⟩
        · have HLI := Lib.hid (fun W hW => rlist_any oa n cap ss HN.out (by omega) (by omega) W hW)
          rw [hl1] at HLI
          clear hl1 hl3
          obtain ⟨⟨c0, c1, c2, c3, c4⟩, ⟨d0, d1, d2, d3, d4⟩, hst, hB⟩ := HL.out _ (Below.refl _ _)
          go_wp2_with fail
          refine (HLI.out _ hst).mono ?_
          rintro e w5 ⟨rfl, hb5⟩
          have hx5 : Below w4.heap.size w4 w5 := hb5
          clear c0 c1 c2 c3 c4 d0 d1 d2 d3 d4 hst hB
          obtain ⟨⟨c0, c1, c2, c3, c4⟩, ⟨d0, d1, d2, d3, d4⟩, hst, hB⟩ := HL.out _ hx5
          go_wp2
          go_ret
          exact ⟨rfl, hB⟩
        · have hn0 : n = 0 := by have := HN.out; rw [hl1] at this; simpa using this.symm
          subst hn0
          clear hl1
          obtain ⟨⟨c0, c1, c2, c3, c4⟩, ⟨d0, d1, d2, d3, d4⟩, hst, hB⟩ := HL.out _ (Below.refl _ _)
          go_wp2
          go_ret
          exact ⟨rfl, hB⟩
  · have hlen' : (600 : Int) < (b.size : Int) := by omega
    go_enter Try.func7, Try.ntmps7
    go_wp2_with fail
    refine (wawake_any _).mono ?_
    rintro e w1 ⟨rfl, hB1⟩
    go_wp2_with fail
    refine (wawake_any _).mono ?_
    rintro e w2 ⟨rfl, hB2⟩
    have hB2' := hB1.trans (hB2.mono hB1.size)
    go_wp2
    go_ret
    exact ⟨rfl, hB2'⟩
end Go.Proofs.Ytfbeakakokhfhaa

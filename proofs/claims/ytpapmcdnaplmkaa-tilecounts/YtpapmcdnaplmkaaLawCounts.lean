/-
  Of all sizes, levels and indexes it is told how many hashes there are, which tiles, and which make the edge.
-/
import Derived.Test.YtpapmcdnaplmkaaTRefP
import Derived.Test.YtpapmcdnaplmkaaTEdge
namespace Go.Proofs.Ytpapmcdnaplmkaa
open Go.RowKit

/-- a slice of places that a call made, as it is read -/
theorem rd_form {ps : List (Nat × Nat)} {W : World} {e : Ending} {w' : World} (h : RD ps W e w') : ∃ oa cap, e = .returned (.slice oa ps.length cap) ∧ (∀ i, i < ps.length → ∃ g o, oa = some ⟨g, o, none⟩ ∧ g < w'.heap.size ∧ w'.cell? ⟨g, o + i * 2, none⟩ = some (iv (ps.getD i (0, 0)).1) ∧ w'.cell? ⟨g, o + i * 2 + 1, none⟩ = some (iv (ps.getD i (0, 0)).2)) ∧ ps.length ≤ cap ∧ Below W.heap.size W w' := by
  obtain ⟨v, rfl, hv, hb⟩ := h
  obtain ⟨oa, cap, rfl, h1, h2, _, h3⟩ := hv.form
  refine ⟨oa, cap, rfl, fun i hi => ?_, h2, hb⟩
  obtain ⟨a, ha, h4, h5, h6⟩ := h1 i hi
  have h7 := (h3 a ha).1
  rw [h7, addr_add] at h5 h6
  exact ⟨a.block, 0, by rw [ha, ← h7], h4, h5, h6⟩
/-- two slices of the same places -/
theorem rsame7_rd (oa ob : Option Addr) (c c' : Nat) (ps : List (Nat × Nat)) (hn : ps.length ≤ 1048576) (hc : ps.length ≤ c) (hc' : ps.length ≤ c') (w1 w2 : World) (hb : Below w1.heap.size w1 w2)
    (ha : ∀ i, i < ps.length → ∃ g o, oa = some ⟨g, o, none⟩ ∧ g < w1.heap.size ∧ w1.cell? ⟨g, o + i * 2, none⟩ = some (iv (ps.getD i (0, 0)).1) ∧ w1.cell? ⟨g, o + i * 2 + 1, none⟩ = some (iv (ps.getD i (0, 0)).2))
    (hb2 : ∀ i, i < ps.length → ∃ g o, ob = some ⟨g, o, none⟩ ∧ g < w2.heap.size ∧ w2.cell? ⟨g, o + i * 2, none⟩ = some (iv (ps.getD i (0, 0)).1) ∧ w2.cell? ⟨g, o + i * 2 + 1, none⟩ = some (iv (ps.getD i (0, 0)).2)) :
    Calls Try.prog 18 #[.slice oa ps.length c, .slice ob ps.length c'] w2 fun e w' => e = .returned (.bool true) ∧ Below w2.heap.size w2 w' :=
  rsame7_any oa ob ps.length c c' ps rfl hn hc hc' w2 (fun i hi => by
    obtain ⟨g, o, h1, h2, h3, h4⟩ := ha i hi
    exact ⟨g, o, h1, (hb.cell (p := ⟨g, o + i * 2, none⟩) h2).trans h3, (hb.cell (p := ⟨g, o + i * 2 + 1, none⟩) h2).trans h4⟩) (fun i hi => by
    obtain ⟨g, o, h1, _, h3, h4⟩ := hb2 i hi
    exact ⟨g, o, h1, h3, h4⟩)
theorem rplan_len {k : Nat} (edge : Bool) : (rplanT k edge 4).length ≤ 1048576 := by
  have := rplanT_len k edge 4
  omega
set_option maxRecDepth 100000 in
set_option maxHeartbeats 4000000 in
theorem counts_walk (n : Int) (_hn : -9223372036854775808 ≤ n ∧ n ≤ 9223372036854775807) (level : Int) (_hl : -9223372036854775808 ≤ level ∧ level ≤ 9223372036854775807) (index : Int) (hi : -9223372036854775808 ≤ index ∧ index ≤ 9223372036854775807) (w : World) :
    Calls Try.prog 5 #[.int .i64 n, .int .i64 level, .int .i64 index] w fun e w' => e = .returned (.bool true) ∧ Below w.heap.size w w' := by
  have HA := Lib.hid (fun W => awake7_any W)
  have HC := Lib.hid (fun W => count_any n level W)
  have HRC := Lib.hid (fun W => rcount_any n level W)
  have HW := Lib.hid (fun W => width_any n level index hi W)
  have HRW := Lib.hid (fun W => rwidth_any n level index W)
  rw [← cnt_eq] at HRC
  rw [← wid_eq] at HRW
  generalize cntT n level = c at *
  generalize widT n level index = wd at *
  by_cases hs : n < 0 ∨ 64 < n
  · have HP := Lib.hid (fun W => plan_any n W)
    have HE := Lib.hid (fun W => edge_any n W)
    rw [(plan_big hs).1] at HP
    rw [(plan_big hs).2] at HE
    have HRD := Lib.hid (show ∀ W e w', RD [] W e w' → ∃ oa cap, e = .returned (.slice oa 0 cap) ∧ Below W.heap.size W w' from fun W e w' h => by
      obtain ⟨oa, cap, h1, _, _, h2⟩ := rd_form h
      exact ⟨oa, cap, h1, h2⟩)
    generalize RD [] = PO at *
    rcases hs with hs | hs
    · have hs1 : ¬ (0 : Int) ≤ n := by omega
      go_enter Try.func5, Try.ntmps5
      go_wp2_with fail
      refine (HA.out _).mono ?_
      rintro e w1 ⟨rfl, hb1⟩
      go_wp2_with fail
      refine (HC.out _).mono ?_
      rintro e w2 ⟨rfl, hb2⟩
      go_wp2_with fail
      refine (HRC.out _).mono ?_
      rintro e w3 ⟨rfl, rfl⟩
      go_wp2_with fail
      refine (HW.out _).mono ?_
      rintro e w4 ⟨rfl, hb4⟩
      go_wp2_with fail
      refine (HRW.out _).mono ?_
      rintro e w5 ⟨rfl, rfl⟩
      have hB5 := (hb1.trans (hb2.mono hb1.size)).trans (hb4.mono (hb1.trans (hb2.mono hb1.size)).size)
      clear HA HC HRC HW HRW hb1 hb2 hb4
      go_wp2_with fail
      refine (HP.out _).mono ?_
      intro e w6 hq
      obtain ⟨oa, cap, rfl, hb6⟩ := HRD.out _ _ _ hq
      clear hq
      go_wp2_with fail
      refine (HE.out _).mono ?_
      intro e w7 hq
      obtain ⟨ob, cap', rfl, hb7⟩ := HRD.out _ _ _ hq
      clear hq
      have hB6 := hB5.trans (hb6.mono hB5.size)
      have hB7 := hB6.trans (hb7.mono hB6.size)
      go_wp2
      go_ret
      exact ⟨rfl, hB7⟩
    · have hs1 : (0 : Int) ≤ n := by omega
      have hs2 : ¬ n ≤ 64 := by omega
      go_enter Try.func5, Try.ntmps5
      go_wp2_with fail
      refine (HA.out _).mono ?_
      rintro e w1 ⟨rfl, hb1⟩
      go_wp2_with fail
      refine (HC.out _).mono ?_
      rintro e w2 ⟨rfl, hb2⟩
      go_wp2_with fail
      refine (HRC.out _).mono ?_
      rintro e w3 ⟨rfl, rfl⟩
      go_wp2_with fail
      refine (HW.out _).mono ?_
      rintro e w4 ⟨rfl, hb4⟩
      go_wp2_with fail
      refine (HRW.out _).mono ?_
      rintro e w5 ⟨rfl, rfl⟩
      have hB5 := (hb1.trans (hb2.mono hb1.size)).trans (hb4.mono (hb1.trans (hb2.mono hb1.size)).size)
      clear HA HC HRC HW HRW hb1 hb2 hb4
      go_wp2_with fail
      refine (HP.out _).mono ?_
      intro e w6 hq
      obtain ⟨oa, cap, rfl, hb6⟩ := HRD.out _ _ _ hq
      clear hq
      go_wp2_with fail
      refine (HE.out _).mono ?_
      intro e w7 hq
      obtain ⟨ob, cap', rfl, hb7⟩ := HRD.out _ _ _ hq
      clear hq
      have hB6 := hB5.trans (hb6.mono hB5.size)
      have hB7 := hB6.trans (hb7.mono hB6.size)
      go_wp2
      go_ret
      exact ⟨rfl, hB7⟩
  · obtain ⟨k, rfl⟩ : ∃ k : Nat, n = (k : Int) := ⟨n.toNat, by omega⟩
    have hk : k ≤ 64 := by omega
    have HP := Lib.hid (fun W => plan_any (k : Int) W)
    have HE := Lib.hid (fun W => edge_any (k : Int) W)
    have HRP := Lib.hid (fun W => rplan_any k false W)
    have HRQ := Lib.hid (fun W => rplan_any k true W)
    rw [plan_eq hk] at HP
    rw [edge_eq hk] at HE
    have hl1 := rplan_len (k := k) false
    have hl2 := rplan_len (k := k) true
    generalize rplanT k false 4 = PF at *
    generalize rplanT k true 4 = PT at *
    have HRD := Lib.hid (fun W e w' (h : RD PF W e w') => rd_form h)
    have HRE := Lib.hid (fun W e w' (h : RD PT W e w') => rd_form h)
    have HSA := Lib.hid (fun oa ob c c' hc hc' w1 w2 hb ha hb2 => rsame7_rd oa ob c c' PF hl1 hc hc' w1 w2 hb ha hb2)
    have HSB := Lib.hid (fun oa ob c c' hc hc' w1 w2 hb ha hb2 => rsame7_rd oa ob c c' PT hl2 hc hc' w1 w2 hb ha hb2)
    generalize RD PF = PO at *
    generalize RD PT = PQ at *
    generalize PF.length = m at *
    generalize PT.length = m' at *
    have hk1 : (k : Int) ≤ 64 := by omega
    have hk2 : decide ((k : Int) ≤ 64) = true := decide_eq_true hk1
    clear hs hl1 hl2
    go_enter Try.func5, Try.ntmps5
    go_wp2_with fail
    refine (HA.out _).mono ?_
    rintro e w1 ⟨rfl, hb1⟩
    go_wp2_with fail
    refine (HC.out _).mono ?_
    rintro e w2 ⟨rfl, hb2⟩
    go_wp2_with fail
    refine (HRC.out _).mono ?_
    rintro e w3 ⟨rfl, rfl⟩
    go_wp2_with fail
    refine (HW.out _).mono ?_
    rintro e w4 ⟨rfl, hb4⟩
    go_wp2_with fail
    refine (HRW.out _).mono ?_
    rintro e w5 ⟨rfl, rfl⟩
    have hB5 := (hb1.trans (hb2.mono hb1.size)).trans (hb4.mono (hb1.trans (hb2.mono hb1.size)).size)
    clear HA HC HRC HW HRW hb1 hb2 hb4
    go_wp2_with fail
    refine (HP.out _).mono ?_
    intro e w6 hq
    obtain ⟨oa, cap, rfl, hi6, hc6, hb6⟩ := HRD.out _ _ _ hq
    clear hq
    go_wp2_with fail
    refine (HRP.out _).mono ?_
    intro e w7 hq
    obtain ⟨ob, cap', rfl, hi7, hc7, hb7⟩ := HRD.out _ _ _ hq
    clear hq
    have HS := Lib.hid (HSA.out oa ob cap cap' hc6 hc7 w6 w7 hb7 hi6 hi7)
    clear hi6 hi7 HP HRP
    go_wp2_with fail
    refine HS.out.mono ?_
    rintro e w8 ⟨rfl, hb8⟩
    have hB6 := hB5.trans (hb6.mono hB5.size)
    have hB7 := hB6.trans (hb7.mono hB6.size)
    have hB8 := hB7.trans (hb8.mono hB7.size)
    clear HS hb6 hb7 hb8
    go_wp2_with fail
    refine (HE.out _).mono ?_
    intro e w9 hq
    obtain ⟨oc, cap2, rfl, hi9, hc9, hb9⟩ := HRE.out _ _ _ hq
    clear hq
    go_wp2_with fail
    refine (HRQ.out _).mono ?_
    intro e w10 hq
    obtain ⟨od, cap3, rfl, hi10, hc10, hb10⟩ := HRE.out _ _ _ hq
    clear hq
    have HS := Lib.hid (HSB.out oc od cap2 cap3 hc9 hc10 w9 w10 hb10 hi9 hi10)
    clear hi9 hi10 HE HRQ
    go_wp2_with fail
    refine HS.out.mono ?_
    rintro e w11 ⟨rfl, hb11⟩
    have hB9 := hB8.trans (hb9.mono hB8.size)
    have hB10 := hB9.trans (hb10.mono hB9.size)
    have hB11 := hB10.trans (hb11.mono hB10.size)
    go_wp2
    go_ret
    exact ⟨rfl, hB11⟩
end Go.Proofs.Ytpapmcdnaplmkaa

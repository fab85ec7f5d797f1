/-
  The reference's Width, Plan, Same.
-/
import Derived.Test.YtpapmcdnaplmkaaTRef
namespace Go.Proofs.Ytpapmcdnaplmkaa
open Go.RowKit

theorem rwidC_yes (k : Nat) (index : Int) (h : (((k / 4 : Nat) : Int) == index) = true) : rwidC (k + 1) index = rwidC k index + 1 := by
  unfold rwidC
  rw [List.range_succ, List.countP_append]
  simp at h
  simp [h]
theorem rwidC_no (k : Nat) (index : Int) (h : (((k / 4 : Nat) : Int) == index) = false) : rwidC (k + 1) index = rwidC k index := by
  unfold rwidC
  rw [List.range_succ, List.countP_append]
  simp at h
  simp [h]
theorem rwidC_le (k : Nat) (index : Int) : rwidC k index ≤ k := by
  unfold rwidC
  have := List.countP_le_length (p := fun i : Nat => ((i / 4 : Nat) : Int) == index) (l := List.range k)
  simpa using this
set_option maxRecDepth 100000 in
set_option maxHeartbeats 1000000 in
theorem rwidth_any (n level index : Int) (w : World) : Calls Try.prog 16 #[.int .i64 n, .int .i64 level, .int .i64 index] w fun e w' => e = .returned (iv (rwidT n level index)) ∧ w' = w := by
  have HC := Lib.hid (fun W => rcount_any n level W)
  have hc := cnt_le n level
  rw [cnt_eq] at hc
  have HV := Lib.hid (show rwidT n level index = rwidC (rcntT n level) index from rfl)
  generalize rwidT n level index = V at *
  generalize rcntT n level = c at *
  go_enter Try.func16, Try.ntmps16
  go_wp2_with fail
  refine (HC.out _).mono ?_
  rintro e w1 ⟨rfl, rfl⟩
  clear HC
  go_wp2
  go_loop [8, 9] (fun v i => ∃ k x : Nat, i = .int .i64 (k : Int) ∧ k ≤ c ∧ v = .int .i64 (x : Int) ∧ x = rwidC k index ∧ x ≤ k) (fun _ i => c - (intOf i).toNat)
  case atStart => exact ⟨0, 0, rfl, by omega, rfl, rfl, by omega⟩
  case round =>
    obtain ⟨k, x, rfl, hk, rfl, hx, hxk⟩ := hrel
    have HX := Lib.hid hx
    clear hx
    by_cases hlt : k < c
    · obtain ⟨b, hb⟩ : ∃ b, (((k / 4 : Nat) : Int) == index) = b := ⟨_, rfl⟩
      have hb2 : ((k : Int) / 4 == index) = b := hb
      cases b
      · have HN := Lib.hid (rwidC_no k index hb)
        clear hb
        go_wp2
        go_round
        case rel => exact ⟨k + 1, x, by go_num, by omega, rfl, by rw [HN.out, HX.out], by omega⟩
        case measure => simp [intOf]; omega
      · have HN := Lib.hid (rwidC_yes k index hb)
        clear hb
        go_wp2
        go_round
        case rel => exact ⟨k + 1, x + 1, by go_num, by omega, by go_num, by rw [HN.out, HX.out], by omega⟩
        case measure => simp [intOf]; omega
    · obtain hkc : k = c := by omega
      have HV2 := Lib.hid (show V = x by rw [HV.out, HX.out, hkc])
      clear hkc
      go_wp2
      go_ret
      exact ⟨by rw [HV2.out]; rfl, rfl⟩
theorem rrowT_yes (n : Nat) (edge : Bool) (l k : Nat) (h : keepP (rwidT n l k) edge = true) : rrowT n edge l (k + 1) = rrowT n edge l k ++ [(l, k)] := by
  unfold rrowT
  rw [List.range_succ, List.filter_append]
  simp [h]
theorem rrowT_no (n : Nat) (edge : Bool) (l k : Nat) (h : keepP (rwidT n l k) edge = false) : rrowT n edge l (k + 1) = rrowT n edge l k := by
  unfold rrowT
  rw [List.range_succ, List.filter_append]
  simp [h]
theorem rrowT_len (n : Nat) (edge : Bool) (l k : Nat) : (rrowT n edge l k).length ≤ k := by
  unfold rrowT
  rw [List.length_map]
  have := List.length_filter_le (fun i : Nat => keepP (rwidT n l (i : Int)) edge) (List.range k)
  simpa using this
theorem rplanT_len (n : Nat) (edge : Bool) (j : Nat) : (rplanT n edge j).length ≤ 17 * j := by
  induction j with
  | zero => simp [rplanT]
  | succ j ih =>
    rw [rplanT, List.length_append]
    have := rrowT_len n edge (3 - j) 17
    omega
set_option maxRecDepth 100000 in
set_option maxHeartbeats 4000000 in
theorem rplan_any (n : Nat) (edge : Bool) (w : World) : Calls Try.prog 19 #[.int .i64 (n : Int), .bool edge] w (RD (rplanT n edge 4) w) := by
  have HRD := Lib.hid (show ∀ e w', RD (rplanT n edge 4) w e w' = ∃ v, e = .returned v ∧ OwnD w' w.heap.size v (rplanT n edge 4) ∧ Below w.heap.size w w' from fun _ _ => rfl)
  generalize RD (rplanT n edge 4) w = PO at *
  go_enter Try.func19, Try.ntmps19
  go_wp2
  go_loopw [5, 6] (fun v l wr => ∃ j : Nat, j ≤ 4 ∧ l = .int .i64 (3 - (j : Int)) ∧ OwnD wr w.heap.size v (rplanT n edge j) ∧ Below w.heap.size w wr) (fun _ l _ => (intOf l + 1).toNat)
  case atStart => exact ⟨0, by omega, rfl, ownD_nil _ _, Below.refl _ _⟩
  case round =>
    obtain ⟨j, hj, rfl, hown, hB⟩ := hrel
    by_cases hlt : j < 4
    · have HP := Lib.hid (show rplanT n edge (j + 1) = rplanT n edge j ++ rrowT n edge (3 - j) 17 from rfl)
      have hpl := rplanT_len n edge j
      obtain ⟨l, hl⟩ : ∃ l, 3 - j = l := ⟨_, rfl⟩
      rw [hl] at HP
      rw [show (3 : Int) - (j : Int) = (l : Int) by omega]
      have hl3 : l ≤ 3 := by omega
      have HL := Lib.hid (show 3 - ((j + 1 : Nat) : Int) = (l : Int) - 1 by omega)
      generalize rplanT n edge j = PJ at *
      clear hl
      generalize wr = wo at *
      go_wp2

      go_loopw [5, 7] (fun v i wr => ∃ k : Nat, i = .int .i64 (k : Int) ∧ k ≤ 17 ∧ OwnD wr w.heap.size v (PJ ++ rrowT n edge l k) ∧ Below w.heap.size w wr) (fun _ i _ => 17 - (intOf i).toNat)
      case atStart => exact ⟨0, rfl, by omega, by rw [show rrowT n edge l 0 = [] from rfl, List.append_nil]; exact hown, hB⟩
      case round =>
        clear hown hB
        obtain ⟨k, rfl, hk, hown, hB⟩ := hrel
        by_cases hk17 : k < 17
        · have HW := Lib.hid (fun W => rwidth_any (n : Int) (l : Int) (k : Int) W)
          have hwl : rwidT (n : Int) (l : Int) (k : Int) ≤ 64 := by
            have h1 := rwidC_le (rcntT (n : Int) (l : Int)) (k : Int)
            have h2 := cnt_le (n : Int) (l : Int)
            rw [cnt_eq] at h2
            unfold rwidT
            omega
          have hrl := rrowT_len n edge l k
          have HRY := Lib.hid (rrowT_yes n edge l k)
          have HRN := Lib.hid (rrowT_no n edge l k)
          have hlen : (PJ ++ rrowT n edge l k).length ≤ 1073741824 := by rw [List.length_append]; omega
          generalize rwidT (n : Int) (l : Int) (k : Int) = W at *
          go_wp2_with fail
          refine (HW.out _).mono ?_
          rintro e w1 ⟨rfl, rfl⟩
          clear HW
          by_cases hW0 : W = 0
          · subst hW0
            have HR := Lib.hid (HRN.out rfl)
            rw [show iv 0 = .int .i64 0 from rfl]
            go_wp2
            go_roundw
            case rel => exact ⟨k + 1, by go_num, by omega, by rw [HR.out]; exact hown, hB⟩
            case measure => simp [intOf]; omega
          by_cases hW4 : W < 4
          · have HR := Lib.hid (HRY.out (by simp [keepP]; omega))
            have hp : (0 : Int) < (W : Int) := by omega
            have hq : (W : Int) < 4 := by omega
            go_wp2_with (at_builtin; refine wpList_append_id rfl _ _ rfl w.heap.size _ _ rfl hown (l, k) rfl (by omega) hB.size ?_; intro g cap w2 hown2 hgrow)
            go_wp2
            go_roundw
            case rel => exact ⟨k + 1, by go_num, by omega, by rw [HR.out, ← List.append_assoc]; rw [List.length_append] at hown2; exact hown2, hB.grown hgrow hB.size (fun j hj => (World.ownsRow.lt hown j hj).1)⟩
            case measure => simp [intOf]; omega
          have hp : (0 : Int) < (W : Int) := by omega
          have hq : ¬ (W : Int) < 4 := by omega
          cases edge
          · have HR := Lib.hid (HRY.out (by simp [keepP]; omega))
            go_wp2_with (at_builtin; refine wpList_append_id rfl _ _ rfl w.heap.size _ _ rfl hown (l, k) rfl (by omega) hB.size ?_; intro g cap w2 hown2 hgrow)
            go_wp2
            go_roundw
            case rel => exact ⟨k + 1, by go_num, by omega, by rw [HR.out, ← List.append_assoc]; rw [List.length_append] at hown2; exact hown2, hB.grown hgrow hB.size (fun j hj => (World.ownsRow.lt hown j hj).1)⟩
            case measure => simp [intOf]; omega
          · have HR := Lib.hid (HRN.out (by simp [keepP]; omega))
            go_wp2
            go_roundw
            case rel => exact ⟨k + 1, by go_num, by omega, by rw [HR.out]; exact hown, hB⟩
            case measure => simp [intOf]; omega
        · obtain hk2 : k = 17 := by omega
          rw [hk2, ← HP.out] at hown
          clear hk2
          go_wp2
          go_roundw
          case rel => exact ⟨j + 1, by omega, by rw [HL.out], hown, hB⟩
          case measure => simp [intOf]
    · obtain hj4 : j = 4 := by omega
      rw [hj4] at hown
      have hneg : ¬ (0 : Int) ≤ 3 - (j : Int) := by omega
      clear hlt hj
      go_wp2
      rw [HRD.out]
      exact ⟨_, rfl, hown, hB⟩
set_option maxRecDepth 100000 in
set_option maxHeartbeats 1000000 in
theorem rsame7_any (oa ob : Option Addr) (n c c' : Nat) (ps : List (Nat × Nat)) (hn : ps.length = n) (hn2 : n ≤ 1048576) (_hc : n ≤ c) (_hc' : n ≤ c') (w : World)
    (ha : ∀ i, i < ps.length → ∃ g o, oa = some ⟨g, o, none⟩ ∧ w.cell? ⟨g, o + i * 2, none⟩ = some (iv (ps.getD i (0, 0)).1) ∧ w.cell? ⟨g, o + i * 2 + 1, none⟩ = some (iv (ps.getD i (0, 0)).2))
    (hb : ∀ i, i < ps.length → ∃ g o, ob = some ⟨g, o, none⟩ ∧ w.cell? ⟨g, o + i * 2, none⟩ = some (iv (ps.getD i (0, 0)).1) ∧ w.cell? ⟨g, o + i * 2 + 1, none⟩ = some (iv (ps.getD i (0, 0)).2)) :
    Calls Try.prog 18 #[.slice oa n c, .slice ob n c'] w fun e w' => e = .returned (.bool true) ∧ Below w.heap.size w w' := by
  have HA := Lib.hid ha
  have HB := Lib.hid hb
  have HN := Lib.hid hn
  clear ha hb hn
  go_enter Try.func18, Try.ntmps18
  go_wp2
  go_loopw [5] (fun i wr => ∃ k q : Nat, i = .int .i64 (k : Int) ∧ k ≤ n ∧ wr = w.drewN q) (fun i _ => n - (intOf i).toNat)
  case atStart => exact ⟨0, 0, rfl, by omega, rfl⟩
  case round =>
    obtain ⟨k, q, rfl, hk, rfl⟩ := hrel
    by_cases hlt : k < n
    · obtain ⟨g, o, rfl, a0, a1⟩ := HA.out k (by rw [HN.out]; exact hlt)
      obtain ⟨g', o', rfl, b0, b1⟩ := HB.out k (by rw [HN.out]; exact hlt)
      generalize (ps.getD k (0, 0)).1 = x at *
      generalize (ps.getD k (0, 0)).2 = y at *
      go_wp2
      go_quiet (fail)
      go_wp2
      go_roundw
      case rel => exact ⟨k + 1, _, by go_num, by omega, rfl⟩
      case measure => simp [intOf]; omega
    · go_wp2
      go_ret
      exact ⟨rfl, below_drewN (Below.refl _ _) _⟩
end Go.Proofs.Ytpapmcdnaplmkaa

/-
  The public key, a leaf's path, and where a path leads to: the program's.
-/
import Derived.Test.YtbkmclgddknijaaOTree
namespace Go.Proofs.Ytbkmclgddknijaa
open Go.RowKit

theorem xor_one : ∀ x, x < 8 → x ^^^ 1 = othB x := by decide
theorem i64_xor1 (x : Nat) (hx : x < 8) : bits .xor .i64 (x : Int) 1 = (othB x : Nat) := by
  rw [show (1 : Int) = ((1 : Nat) : Int) from rfl, i64_xor_nat x 1 (by omega) (by decide), xor_one x hx]
theorem i64_and1 (x : Nat) (hx : x < 9223372036854775808) : bits .and .i64 (x : Int) 1 = (x % 2 : Nat) := by
  rw [show (1 : Int) = ((1 : Nat) : Int) from rfl, i64_and_nat x 1 hx (by decide), Nat.and_one_is_mod]
theorem div_pow_succ (q k : Nat) : q / 2 ^ k / 2 = q / 2 ^ (k + 1) := by rw [Nat.div_div_eq_div_mul, ← Nat.pow_succ]
def lenOf : Value → Nat
  | .slice _ n _ => n
  | _ => 0
section
attribute [-go_sem] loadVar
set_option maxRecDepth 100000 in
set_option maxHeartbeats 2000000 in
theorem climb_any (q g o n cap : Nat) (x : ByteArray) (os : List ByteArray) (hn : os.length = n) (hn2 : n ≤ 1000) (hq : q ≤ 1000000) (hx : x.size ≤ 1073741824) (hos : ∀ i, (os.getD i ByteArray.empty).size ≤ 1073741824) (w : World) (hc : Row w g o os) :
    Calls Try.prog 39 #[.agg tabV, .int .i64 q, .string x, .slice (some ⟨g, o, none⟩) n cap] w fun e w' => e = .returned (.string (climbB q (fun i => os.getD i ByteArray.empty) x n)) ∧ Below w.heap.size w w' := by
  have HC0 := Lib.hid (show climbB q (fun i => os.getD i ByteArray.empty) x 0 = x from rfl)
  have HCE := Lib.hid (show ∀ k, q / 2 ^ k % 2 = 0 → climbB q (fun i => os.getD i ByteArray.empty) x (k + 1) = joinB (climbB q (fun i => os.getD i ByteArray.empty) x k) (os.getD k ByteArray.empty) from fun k hk => if_pos hk)
  have HCO := Lib.hid (show ∀ k, ¬ q / 2 ^ k % 2 = 0 → climbB q (fun i => os.getD i ByteArray.empty) x (k + 1) = joinB (os.getD k ByteArray.empty) (climbB q (fun i => os.getD i ByteArray.empty) x k) from fun k hk => if_neg hk)
  have HCS : Hid (∀ k, (climbB q (fun i => os.getD i ByteArray.empty) x k).size ≤ 1073741824) := Lib.hid (by
    intro k
    cases k with
    | zero => exact hx
    | succ k => unfold climbB; split <;> (show (hB _).size ≤ _; rw [hB_size]; decide))
  generalize climbB q (fun i => os.getD i ByteArray.empty) x = C at *
  have HOS := Lib.hid hos
  have HN := Lib.hid hn
  have hgw := hc.1
  have HC := Lib.hid hc
  have hB0 := (Below.refl _ w).alloc (Nat.le_refl _) (.cells tabV 27)
  have hT : Blk (w.alloc (.cells tabV 27)) w.heap.size 27 tabV := Blk.new _ _ _
  clear hos hn hc hx
  go_enter Try.func39, Try.ntmps39
  go_wp2
  generalize w.alloc (.cells tabV 27) = w0 at *
  obtain ⟨B, hBB⟩ : ∃ B, w.heap.size = B := ⟨_, rfl⟩
  rw [hBB] at hB0 hT hgw ⊢
  have HBB := Lib.hid hBB
  clear hBB
  go_loopw [1, 2, 13] (fun a v i wr => ∃ k : Nat, k ≤ n ∧ i = .int .i64 k ∧ a = .int .i64 (q / 2 ^ k : Nat) ∧ v = .string (C k) ∧ Blk wr B 27 tabV ∧ Below B w wr) (fun _ _ i _ => n - (intOf i).toNat)
  case atStart => exact ⟨0, by omega, rfl, by rw [Nat.pow_zero, Nat.div_one], by rw [HC0.out], hT, hB0⟩
  case round =>
    clear hT hB0
    obtain ⟨k, hk, rfl, rfl, rfl, hT, hB⟩ := hrel
    by_cases hlt : k < n
    · have hlt' : (k : Int) < (n : Int) := by omega
      have hkl : k < os.length := by have := HN.out; omega
      have hl1 := txt_load ((HC.out.below hB hgw).2 k hkl)
      have hT1 := tab_run hT
      have hql : q / 2 ^ k ≤ 1000000 := Nat.le_trans (Nat.div_le_self _ _) hq
      have hand := i64_and1 (q / 2 ^ k) (by omega)
      have hsh : ((q / 2 ^ k : Nat) : Int) / 2 = (q / 2 ^ (k + 1) : Nat) := by rw [← div_pow_succ]; omega
      have hz1 := HCS.out k
      have hz2 := HOS.out k
      obtain ⟨q1, hq1⟩ : ∃ q1, q / 2 ^ (k + 1) = q1 := ⟨_, rfl⟩
      rw [hq1] at hsh
      have HQ1 := Lib.hid hq1
      clear hq1
      rcases Nat.mod_two_eq_zero_or_one (q / 2 ^ k) with hpar | hpar
      · rw [hpar] at hand
        have HJ := Lib.hid (fun W => join_any (C k) (os.getD k ByteArray.empty) hz1 hz2 W)
        rw [← HCE.out k hpar] at HJ
        have hand' : (bits .and .i64 ((q / 2 ^ k : Nat) : Int) 1 == 0) = true := by rw [hand]; rfl
        clear hand hpar
        generalize q / 2 ^ k = q0 at *
        generalize os.getD k ByteArray.empty = y at *
        generalize hX : C k = X at *
        obtain ⟨R, hR⟩ : ∃ R, C (k + 1) = R := ⟨_, rfl⟩
        rw [hR] at HJ
        have HR := Lib.hid hR
        clear hX hR
        go_wp2_with fail
        refine (HJ.out _).mono ?_
        rintro e w1 ⟨rfl, hb1⟩
        have hT2 := hT.below hb1 hT.lt
        have hB2 := hB.trans (hb1.mono (by have := hB.size; have := HBB.out; omega))
        clear hT hB hb1 hT1 hl1
        go_wp2
        go_roundw
        case rel => exact ⟨k + 1, by omega, by go_num, by rw [HQ1.out], by rw [HR.out], hT2, hB2⟩
        case measure => simp [intOf]; omega
      · rw [hpar] at hand
        have HJ := Lib.hid (fun W => join_any (os.getD k ByteArray.empty) (C k) hz2 hz1 W)
        rw [← HCO.out k (by omega)] at HJ
        have hand' : (bits .and .i64 ((q / 2 ^ k : Nat) : Int) 1 == 0) = false := by rw [hand]; rfl
        clear hand hpar
        generalize q / 2 ^ k = q0 at *
        generalize os.getD k ByteArray.empty = y at *
        generalize hX : C k = X at *
        obtain ⟨R, hR⟩ : ∃ R, C (k + 1) = R := ⟨_, rfl⟩
        rw [hR] at HJ
        have HR := Lib.hid hR
        clear hX hR
        go_wp2_with fail
        refine (HJ.out _).mono ?_
        rintro e w1 ⟨rfl, hb1⟩
        have hT2 := hT.below hb1 hT.lt
        have hB2 := hB.trans (hb1.mono (by have := hB.size; have := HBB.out; omega))
        clear hT hB hb1 hT1 hl1
        go_wp2
        go_roundw
        case rel => exact ⟨k + 1, by omega, by go_num, by rw [HQ1.out], by rw [HR.out], hT2, hB2⟩
        case measure => simp [intOf]; omega
    · obtain rfl : k = n := by omega
      clear hlt hk
      rw [← HBB.out] at hB
      go_wp2
      go_ret
      exact ⟨rfl, hB⟩

theorem levelB_get (seed : ByteArray) (h : Nat) {n i : Nat} (hi : i < n) : (levelB seed h n).getD i ByteArray.empty = nodeB seed h i := fstN_get _ hi
theorem levelB_length (seed : ByteArray) (h n : Nat) : (levelB seed h n).length = n := fstN_length _ n
theorem levelB_le (seed : ByteArray) (h n i : Nat) : ((levelB seed h n).getD i ByteArray.empty).size ≤ 1073741824 := by
  rcases Nat.lt_or_ge i n with hi | hi
  · rw [levelB_get seed h hi, nodeB_size]; decide
  · rw [List.getD_eq_getElem?_getD, List.getElem?_eq_none (by rw [levelB_length]; exact hi)]; decide
theorem othB_lt {x m : Nat} (h : x < 2 * m) : othB x < 2 * m := by unfold othB; split <;> omega
theorem together_level (seed : ByteArray) (h m g cap : Nat) (hm : 2 * m ≤ 1048576) (w : World) (hc : Row w g 0 (levelB seed h (2 * m))) :
    Calls Try.prog 26 #[.agg tabV, .slice (some ⟨g, 0, none⟩) (2 * m) cap] w (RT (levelB seed (h + 1) m) w) := by
  have := together_any g (2 * m) cap (levelB seed h (2 * m)) (levelB_length _ _ _) hm (levelB_le seed h (2 * m)) w hc
  rw [tog_level] at this
  exact this

set_option maxRecDepth 100000 in
set_option maxHeartbeats 2000000 in
theorem path_any (seed : ByteArray) (q g cap : Nat) (hq : q < 8) (w : World) (hc : Row w g 0 (levelB seed 0 8)) :
    Calls Try.prog 35 #[.agg tabV, .int .i64 q, .slice (some ⟨g, 0, none⟩) 8 cap] w (RT (fstN (fun h => nodeB seed h (othB (q / 2 ^ h))) 3) w) := by
  have HRT := Lib.hid (show ∀ e w', RT (fstN (fun h => nodeB seed h (othB (q / 2 ^ h))) 3) w e w' = ∃ v, e = .returned v ∧ Own w' w.heap.size v (fstN (fun h => nodeB seed h (othB (q / 2 ^ h))) 3) ∧ Below w.heap.size w w' from fun _ _ => rfl)
  have HF0 := Lib.hid (show fstN (fun h => nodeB seed h (othB (q / 2 ^ h))) 0 = [] from rfl)
  have HFS := Lib.hid (show ∀ k, fstN (fun h => nodeB seed h (othB (q / 2 ^ h))) (k + 1) = fstN (fun h => nodeB seed h (othB (q / 2 ^ h))) k ++ [nodeB seed k (othB (q / 2 ^ k))] from fun k => fstN_succ _ k)
  have HFL := Lib.hid (show ∀ k, (fstN (fun h => nodeB seed h (othB (q / 2 ^ h))) k).length = k from fun k => fstN_length _ k)
  generalize RT (fstN (fun h => nodeB seed h (othB (q / 2 ^ h))) 3) w = PO at *
  generalize fstN (fun h => nodeB seed h (othB (q / 2 ^ h))) = F at *
  have hB0 := (Below.refl _ w).alloc (Nat.le_refl _) (.cells tabV 27)
  have hT : Blk (w.alloc (.cells tabV 27)) w.heap.size 27 tabV := Blk.new _ _ _
  have hc0 := hc.below hB0 hc.1
  have hgw := hc.1
  clear hc
  go_enter Try.func35, Try.ntmps35
  go_wp2
  generalize w.alloc (.cells tabV 27) = w0 at *
  obtain ⟨B, hBB⟩ : ∃ B, w.heap.size = B := ⟨_, rfl⟩
  rw [hBB] at hB0 hT hgw ⊢
  have HBB := Lib.hid hBB
  clear hBB
  go_loopw [1, 2, 7, 8] (fun a v o i wr => ∃ k gg cc : Nat, k ≤ 3 ∧ i = .int .i64 k ∧ a = .int .i64 (q / 2 ^ k : Nat) ∧ v = .slice (some ⟨gg, 0, none⟩) (2 ^ (3 - k)) cc ∧ Row wr gg 0 (levelB seed k (2 ^ (3 - k))) ∧ o.ownBlock ≠ some gg ∧ gg ≠ B ∧ Own wr (B + 1) o (F k) ∧ Blk wr B 27 tabV ∧ Below B w wr) (fun _ _ _ i _ => 3 - (intOf i).toNat)
  case atStart => exact ⟨0, g, cap, by omega, rfl, by rw [Nat.pow_zero, Nat.div_one], rfl, hc0, by simp [Value.ownBlock], by omega, by rw [HF0.out]; exact own_nil _ _, hT, hB0⟩
  case round =>
    clear hT hB0 hc0 hgw
    obtain ⟨k, gg, cc, hk, rfl, rfl, rfl, hRow, hno, hgB, hown, hT, hB⟩ := hrel
    by_cases hlt : k < 3
    · have hlt' : (k : Int) < 3 := by omega
      obtain ⟨m, hm⟩ : ∃ m, 2 ^ (3 - (k + 1)) = m := ⟨_, rfl⟩
      have hm2 : 2 ^ (3 - k) = 2 * m := by rw [← hm, show 3 - k = 3 - (k + 1) + 1 by omega, Nat.pow_succ, Nat.mul_comm]
      have hm8 : 2 * m ≤ 8 := by rw [← hm2]; exact Nat.pow_le_pow_right (n := 2) (by decide) (show 3 - k ≤ 3 by omega)
      have hxl : q / 2 ^ k < 2 * m := by
        rw [← hm2, Nat.div_lt_iff_lt_mul (Nat.two_pow_pos k), ← Nat.pow_add, show 3 - k + k = 3 by omega]
        exact hq
      rw [hm2] at hRow ⊢
      have hol := othB_lt hxl
      have hxor := i64_xor1 (q / 2 ^ k) (by omega)
      have hl0 := hRow.2 (othB (q / 2 ^ k)) (by rw [levelB_length]; exact hol)
      rw [levelB_get seed k hol, Nat.zero_add] at hl0
      have hl1 := txt_load hl0
      have hsh : ((q / 2 ^ k : Nat) : Int) / 2 = (q / 2 ^ (k + 1) : Nat) := by rw [← div_pow_succ]; omega
      obtain ⟨q1, hq1⟩ : ∃ q1, q / 2 ^ (k + 1) = q1 := ⟨_, rfl⟩
      rw [hq1] at hsh
      have HQ1 := Lib.hid hq1
      clear hq1
      have HFK := Lib.hid (HFS.out k)
      have HFKL := Lib.hid (HFL.out k)
      have hlen : (F k).length ≤ 1073741824 := by rw [HFL.out]; omega
      have HTG := Lib.hid (fun c W hW => together_level seed k m gg c (by omega) W hW)
      have HM := Lib.hid hm
      have hq0 : q / 2 ^ k < 8 := by omega
      have hol' : ((othB (q / 2 ^ k) : Nat) : Int) < ((2 * m : Nat) : Int) := by omega
      have hn1 : ((othB (q / 2 ^ k) : Nat) : Int) < 2 * (m : Int) := by omega
      have hol0 : (0 : Int) ≤ ((othB (q / 2 ^ k) : Nat) : Int) := by omega
      generalize nodeB seed k (othB (q / 2 ^ k)) = X at *
      generalize othB (q / 2 ^ k) = y at *
      generalize q / 2 ^ k = q0 at *
      clear hm hm2 hl0 hxl hol
      obtain ⟨n2, hn2⟩ : ∃ n2, 2 * m = n2 := ⟨_, rfl⟩
      rw [hn2] at HTG hRow hol' ⊢
      have HN2 := Lib.hid hn2
      clear hn2 hn1 hm8
      go_wp2_with (at_builtin; refine wpList_append_txt rfl _ _ rfl (B + 1) u7 (F k) rfl hown X rfl hlen hT.lt ?_)
      intro g5 c5 w5 hown5 hg5
      rw [HFKL.out, ← HFK.out] at hown5
      have hT5 := hT.grown hg5 (fun h => by have := (World.ownsRow.lt hown B h.symm).1; omega)
      have hRow5 := hRow.grown hg5 (fun h => hno h.symm)
      have hB5 := hB.grown hg5 (by have := hB.size; have := HBB.out; omega) (fun z hz => by have := (World.ownsRow.lt hown z hz).1; omega)
      clear hown hT hB hg5 hRow hl1 hno
      rw [HFKL.out]
      have hT1 := tab_run hT5
      go_wp2_with fail
      refine (HTG.out _ _ hRow5).mono ?_
      rintro e w6 ⟨v6, rfl, hown6, hb6⟩
      have hmp : 0 < m := by rw [← HM.out]; exact Nat.two_pow_pos _
      obtain ⟨g6, c6, rfl, hg6, hc6, hRow6⟩ := hown6.row (by rw [levelB_length]; exact hmp)
      have hT6 := hT5.below hb6 hT5.lt
      have hB6 := hB5.trans (hb6.mono (by have := hB5.size; have := HBB.out; omega))
      have hown7 := hown5.below hb6
      have hg5l := (World.ownsRow.lt hown5 g5 rfl).2
      have hgB6 : g6 ≠ B := by have := hT5.lt; omega
      have hno6 : g5 ≠ g6 := by omega
      clear hown5 hown6 hT5 hB5 hb6 hRow5 hT1 hg6 hg5l hgB
      rw [levelB_length]
      go_wp2
      go_roundw
      case rel => exact ⟨k + 1, g6, c6, by omega, by go_num, by rw [HQ1.out], by rw [HM.out], by rw [HM.out]; exact hRow6, by simp [Value.ownBlock]; exact hno6, hgB6, hown7, hT6, hB6⟩
      case measure => simp [intOf]; omega
    · obtain rfl : k = 3 := by omega
      clear hlt hk
      go_wp2
      rw [HRT.out]
      exact ⟨_, rfl, by rw [HBB.out]; exact hown.mono (Nat.le_succ _), by rw [HBB.out]; exact hB⟩

set_option maxRecDepth 100000 in
set_option maxHeartbeats 2000000 in
theorem public_any (seed : ByteArray) (hs : seed.size ≤ 1073741824) (w : World) :
    Calls Try.prog 13 #[.agg tabV, .string seed] w fun e w' => e = .returned (.string (nodeB seed 3 0)) ∧ Below w.heap.size w w' := by
  have HLV := Lib.hid (fun W => leaves_any seed hs W)
  obtain ⟨R, hR⟩ : ∃ R, nodeB seed 3 0 = R := ⟨_, rfl⟩
  rw [hR]
  have HR := Lib.hid hR
  clear hR
  have hB0 := (Below.refl _ w).alloc (Nat.le_refl _) (.cells tabV 27)
  have hT : Blk (w.alloc (.cells tabV 27)) w.heap.size 27 tabV := Blk.new _ _ _
  have hT1 := tab_run hT
  clear hs
  go_enter Try.func13, Try.ntmps13
  go_wp2_with fail
  refine (HLV.out _).mono ?_
  rintro e w1 ⟨v1, rfl, hown1, hb1⟩
  have hB1 := hB0.trans (hb1.mono hB0.size)
  have hT2 := hT.below hb1 hT.lt
  obtain ⟨g, cap, rfl, hg, hcap, hRow⟩ := hown1.row (by rw [levelB_length]; decide)
  rw [levelB_length]
  obtain ⟨B, hBB⟩ : ∃ B, w.heap.size = B := ⟨_, rfl⟩
  rw [hBB] at hB1 hT2 ⊢
  have HBB := Lib.hid hBB
  clear hBB hB0 hT hT1 hb1 hown1 hg hcap HLV
  go_wp2
  go_loopw [5] (fun v wr => ∃ k gg cc : Nat, k ≤ 3 ∧ v = .slice (some ⟨gg, 0, none⟩) (2 ^ (3 - k)) cc ∧ Row wr gg 0 (levelB seed k (2 ^ (3 - k))) ∧ Blk wr B 27 tabV ∧ Below B w wr) (fun v _ => lenOf v)
  case atStart => exact ⟨0, g, cap, by omega, rfl, hRow, hT2, hB1⟩
  case round =>
    clear hRow hT2 hB1
    obtain ⟨k, gg, cc, hk, rfl, hRow, hT, hB⟩ := hrel
    by_cases hlt : k < 3
    · obtain ⟨m, hm⟩ : ∃ m, 2 ^ (3 - (k + 1)) = m := ⟨_, rfl⟩
      have hm2 : 2 ^ (3 - k) = 2 * m := by rw [← hm, show 3 - k = 3 - (k + 1) + 1 by omega, Nat.pow_succ, Nat.mul_comm]
      have hm8 : 2 * m ≤ 8 := by rw [← hm2]; exact Nat.pow_le_pow_right (n := 2) (by decide) (show 3 - k ≤ 3 by omega)
      have hmp : 0 < m := by rw [← hm]; exact Nat.two_pow_pos _
      rw [hm2] at hRow ⊢
      have HTG := Lib.hid (fun c W hW => together_level seed k m gg c (by omega) W hW)
      have HM := Lib.hid hm
      have HMP := Lib.hid hmp
      obtain ⟨n2, hn2⟩ : ∃ n2, 2 * m = n2 := ⟨_, rfl⟩
      rw [hn2] at HTG hRow ⊢
      have h1n : (1 : Int) < (n2 : Int) := by omega
      have HN2 := Lib.hid hn2
      have hT1 := tab_run hT
      clear hn2 hm8 hm hm2 hmp
      go_wp2_with fail
      refine (HTG.out _ _ hRow).mono ?_
      rintro e w6 ⟨v6, rfl, hown6, hb6⟩
      obtain ⟨g6, c6, rfl, hg6, hc6, hRow6⟩ := hown6.row (by rw [levelB_length]; exact HMP.out)
      have hT6 := hT.below hb6 hT.lt
      have hB6 := hB.trans (hb6.mono (by have := hB.size; have := HBB.out; omega))
      clear hown6 hT hB hb6 hRow hT1 hg6 hc6
      rw [levelB_length]
      go_wp2
      go_roundw
      case rel => exact ⟨k + 1, g6, c6, by omega, by rw [HM.out], by rw [HM.out]; exact hRow6, hT6, hB6⟩
      case measure => have := HN2.out; have := HMP.out; simp [lenOf]; omega
    · obtain rfl : k = 3 := by omega
      clear hlt hk
      have h0 := hRow.2 0 (by rw [levelB_length]; decide)
      rw [levelB_get seed 3 (by decide), HR.out] at h0
      have hl := txt_load h0
      rw [show 2 ^ (3 - 3) = 1 from rfl]
      rw [← HBB.out] at hB
      go_wp2
      go_ret
      exact ⟨rfl, hB⟩
end
end Go.Proofs.Ytbkmclgddknijaa

/-
  Signatures, and whether they hold: the reference's.
-/
import Derived.Test.YtdbfkkopolhpaaaORef
namespace Go.Proofs.Ytdbfkkopolhpaaa
open Go.RowKit

theorem odV_all (q : Nat) (m : ByteArray) : (odV q m).all (·.oneCell') = true := i64_one _
set_option maxRecDepth 100000 in
set_option maxHeartbeats 4000000 in
theorem rsign_any (seed m : ByteArray) (hs : seed.size ≤ 1073741824) (hm : m.size ≤ 1073741824) (q : Nat) (hq : q < 8) (w : World) :
    Calls Try.prog 14 #[.string seed, .int .i64 q, .string m] w fun e w' => e = .returned (.string (signB seed q m)) ∧ Below w.heap.size w w' := by
  have HN := Lib.hid (fun W => rnumber_any q W)
  have HDG := Lib.hid (fun W => rdigits_any q m hm W)
  have HDA := Lib.hid (fun (i : Nat) (hi : i < 67) => odV_at q m hi)
  have HDL := Lib.hid (digB_le q m)
  have HI := Lib.hid (show (Try.prog.info? 38).map (·.size) = some (odV q m).size by rw [odV_size]; exact info67)
  have HO := Lib.hid (show zero67.size = (odV q m).size by rw [odV_size]; rfl)
  have H1 := Lib.hid (odV_all q m)
  have HV0 := Lib.hid (show catB (fstN (fun i => valB seed q i (digB q m i)) 0) = ⟨#[]⟩ from rfl)
  have HVS := Lib.hid (show ∀ k, catB (fstN (fun i => valB seed q i (digB q m i)) (k + 1)) = catB (fstN (fun i => valB seed q i (digB q m i)) k) ++ valB seed q k (digB q m k) from fun k => fstN_cat_succ _ k)
  have HVZ := Lib.hid (show ∀ k, (catB (fstN (fun i => valB seed q i (digB q m i)) k)).size = 32 * k from fun k => fstN_size (fun i => valB_size _ _ _ _) k)
  have HP0 := Lib.hid (show catB (fstN (fun h => nodeB seed h (othB (q / 2 ^ h))) 0) = ⟨#[]⟩ from rfl)
  have HPS := Lib.hid (show ∀ k, catB (fstN (fun h => nodeB seed h (othB (q / 2 ^ h))) (k + 1)) = catB (fstN (fun h => nodeB seed h (othB (q / 2 ^ h))) k) ++ nodeB seed k (othB (q / 2 ^ k)) from fun k => fstN_cat_succ _ k)
  have HPZ := Lib.hid (show ∀ k, (catB (fstN (fun h => nodeB seed h (othB (q / 2 ^ h))) k)).size = 32 * k from fun k => fstN_size (fun i => nodeB_size _ _ _) k)
  have HSB := Lib.hid (show signB seed q m = num4 q ++ catB (fstN (fun i => valB seed q i (digB q m i)) 67) ++ catB (fstN (fun h => nodeB seed h (othB (q / 2 ^ h))) 3) from rfl)
  have HN4 := Lib.hid (num4_size q)
  have HS := Lib.hid hs
  generalize signB seed q m = SB at *
  generalize fstN (fun i => valB seed q i (digB q m i)) = V at *
  generalize fstN (fun h => nodeB seed h (othB (q / 2 ^ h))) = P at *
  generalize odV q m = D at *
  generalize num4 (q : Int) = N at *
  generalize digB q m = dig at *
  have hz := zero67_run
  clear hs hm
  go_enter Try.func14, Try.ntmps14
  go_wp2_with fail
  refine (HN.out _).mono ?_
  rintro e w1 ⟨rfl, hB1⟩
  go_wp2_with fail
  refine (HDG.out _).mono ?_
  rintro e w2 ⟨rfl, hB2⟩
  have hB2' := hB1.trans (hB2.mono hB1.size)
  clear hB1 hB2
  go_wp2_with (refine wpList_store_row rfl 38 _ _ rfl w2.heap.size D rfl rfl 38 zero67 (Blk.new _ _ _) HI.out HO.out H1.out ?_; rw [World.setRow_alloc_new])
  have hB3 := hB2'.alloc hB2'.size (.cells D 38)
  have hD3 : Blk (w2.alloc (.cells D 38)) w2.heap.size 38 D := Blk.new _ _ _
  generalize w2.alloc (.cells D 38) = w3 at *
  generalize w2.heap.size = gd at *
  clear hB2' hz HN HDG HI HO H1
  go_loopw [7, 9] (fun v i wr => ∃ k : Nat, k ≤ 67 ∧ i = .int .i64 k ∧ v = .string (N ++ catB (V k)) ∧ Blk wr gd 38 D ∧ Below w.heap.size w wr) (fun _ i _ => 67 - (intOf i).toNat)
  case atStart => exact ⟨0, by omega, rfl, by rw [HV0.out, append_empty], hD3, hB3⟩
  case round =>
    clear hB3 hD3
    obtain ⟨k, hk, rfl, rfl, hD, hB⟩ := hrel
    by_cases hlt : k < 67
    · have hlt' : (k : Int) < 67 := by omega
      have hc := (hD.cell k).trans (HDA.out k hlt)
      have hdl := HDL.out k
      have HVA := Lib.hid (fun W => rvalue_any seed HS.out q k (dig k) (by omega) W)
      have hzz : (N ++ catB (V k)).size ≤ 1000000 := by rw [ByteArray.size_append, HN4.out, HVZ.out]; omega
      have HVJ : Hid (N ++ catB (V k) ++ valB seed q k (dig k) = N ++ catB (V (k + 1))) := Lib.hid (by rw [HVS.out, ByteArray.append_assoc])
      have hvz := valB_size seed q k (dig k)
      generalize valB seed q k (dig k) = X at *
      generalize dig k = d at *
      generalize N ++ catB (V k) = Y at *
      have a1 : ¬ Y.size + X.size > 9223372036854775807 := by omega
      clear hzz hvz
      go_wp2_with fail
      refine (HVA.out _).mono ?_
      rintro e w4 ⟨rfl, hB4⟩
      have hD4 := hD.below hB4 hD.lt
      have hB4' := hB.trans (hB4.mono hB.size)
      clear hB hB4 hD hc
      go_wp2
      go_roundw
      case rel => exact ⟨k + 1, by omega, by go_num, by rw [HVJ.out], hD4, hB4'⟩
      case measure => simp [intOf]; omega
    · obtain rfl : k = 67 := by omega
      clear hlt hk hD
      rw [show ((67 : Nat) : Int) = 67 from rfl]
      have HYZ : Hid ((N ++ catB (V 67)).size = 2148) := Lib.hid (by rw [ByteArray.size_append, HN4.out, HVZ.out])
      generalize N ++ catB (V 67) = Y at *
      go_wp2
      go_loopw [7, 10, 11] (fun v a i wr => ∃ k : Nat, k ≤ 3 ∧ i = .int .i64 k ∧ a = .int .i64 (q / 2 ^ k : Nat) ∧ v = .string (Y ++ catB (P k)) ∧ Below w.heap.size w wr) (fun _ _ i _ => 3 - (intOf i).toNat)
      case atStart => exact ⟨0, by omega, rfl, by rw [Nat.pow_zero, Nat.div_one], by rw [HP0.out, append_empty], hB⟩
      case round =>
        clear hB
        obtain ⟨k, hk, rfl, rfl, rfl, hB⟩ := hrel
        by_cases hlt : k < 3
        · have hlt' : (k : Int) < 3 := by omega
          have hql : q / 2 ^ k < 8 := Nat.lt_of_le_of_lt (Nat.div_le_self _ _) hq
          have hp3 : 2 ^ k ≤ 8 := Nat.pow_le_pow_right (n := 2) (by decide) (show k ≤ 3 by omega)
          have hol : othB (q / 2 ^ k) < 9 := by unfold othB; split <;> omega
          have HND := Lib.hid (fun W => rnode_any seed HS.out k (othB (q / 2 ^ k)) (by omega) (Nat.le_trans (Nat.mul_le_mul (show othB (q / 2 ^ k) + 1 ≤ 9 by omega) hp3) (by decide)) W)
          have hsh : ((q / 2 ^ k : Nat) : Int) / 2 = (q / 2 ^ (k + 1) : Nat) := by rw [Nat.pow_succ, ← Nat.div_div_eq_div_mul]; omega
          obtain ⟨q1, hq1⟩ : ∃ q1, q / 2 ^ (k + 1) = q1 := ⟨_, rfl⟩
          rw [hq1] at hsh
          have HQ1 := Lib.hid hq1
          have hzz : (Y ++ catB (P k)).size ≤ 1000000 := by rw [ByteArray.size_append, HYZ.out, HPZ.out]; omega
          have HVJ : Hid (Y ++ catB (P k) ++ nodeB seed k (othB (q / 2 ^ k)) = Y ++ catB (P (k + 1))) := Lib.hid (by rw [HPS.out, ByteArray.append_assoc])
          have hvz := nodeB_size seed k (othB (q / 2 ^ k))
          generalize nodeB seed k (othB (q / 2 ^ k)) = X at *
          generalize Y ++ catB (P k) = Y2 at *
          have a1 : ¬ Y2.size + X.size > 9223372036854775807 := by omega
          have HOT := Lib.hid (show othB (q / 2 ^ k) = if q / 2 ^ k % 2 = 1 then q / 2 ^ k - 1 else q / 2 ^ k + 1 from rfl)
          clear hzz hvz hq1 hp3 hol
          generalize othB (q / 2 ^ k) = y at *
          generalize q / 2 ^ k = q0 at *
          rcases Nat.mod_two_eq_zero_or_one q0 with hpar | hpar
          · have e1 : (q0 : Int) % 2 = 0 := by omega
            have e2 : (q0 : Int) + 1 = (y : Int) := by have := HOT.out; rw [if_neg (by omega)] at this; omega
            clear hpar
            go_wp2_with fail
            refine (HND.out _).mono ?_
            rintro e w5 ⟨rfl, hB5⟩
            have hB5' := hB.trans (hB5.mono hB.size)
            clear hB hB5
            go_wp2
            go_roundw
            case rel => exact ⟨k + 1, by omega, by go_num, by rw [HQ1.out], by rw [HVJ.out], hB5'⟩
            case measure => simp [intOf]; omega
          · have e1 : (q0 : Int) % 2 = 1 := by omega
            have e2 : (q0 : Int) - 1 = (y : Int) := by have := HOT.out; rw [if_pos hpar] at this; omega
            clear hpar
            go_wp2_with fail
            refine (HND.out _).mono ?_
            rintro e w5 ⟨rfl, hB5⟩
            have hB5' := hB.trans (hB5.mono hB.size)
            clear hB hB5
            go_wp2
            go_roundw
            case rel => exact ⟨k + 1, by omega, by go_num, by rw [HQ1.out], by rw [HVJ.out], hB5'⟩
            case measure => simp [intOf]; omega
        · obtain rfl : k = 3 := by omega
          clear hlt hk
          rw [← HSB.out]
          go_wp2
          go_ret
          exact ⟨rfl, hB⟩
end Go.Proofs.Ytdbfkkopolhpaaa

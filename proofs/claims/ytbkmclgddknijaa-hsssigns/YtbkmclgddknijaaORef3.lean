/-
  Whether a signature holds: the reference's.
-/
import Derived.Test.YtbkmclgddknijaaOVer2
namespace Go.Proofs.Ytbkmclgddknijaa
open Go.RowKit

theorem nums_getD_lt (s : ByteArray) (i : Nat) : (nums s).getD i 0 < 256 := by
  rw [List.getD_eq_getElem?_getD]
  cases e : (nums s)[i]? with
  | none => simp
  | some x => simpa using nums_lt s x (List.mem_of_getElem? e)
theorem toList_dec (a b : ByteArray) : (a.toList == b.toList) = decide (a = b) := by
  rw [Bool.eq_iff_iff, beq_iff_eq, decide_eq_true_iff, ByteArray.toList_eq, ByteArray.toList_eq]
  constructor
  · intro h; cases a; cases b; simp_all
  · rintro rfl; rfl
theorem walkB_succ (q i d : Nat) (x : ByteArray) (j : Nat) : walkB q i d x (j + 1) = hB (⟨#[99]⟩ ++ num4 q ++ num4 i ++ num4 (d + j : Nat) ++ walkB q i d x j) := rfl
theorem climbB_le (q : Nat) (o : Nat → ByteArray) (x : ByteArray) (hx : x.size ≤ 1073741824) (k : Nat) : (climbB q o x k).size ≤ 1073741824 := by
  cases k with
  | zero => exact hx
  | succ k => unfold climbB; split <;> (show (hB _).size ≤ _; rw [hB_size]; decide)
theorem joinB_eq (l r : ByteArray) : joinB l r = hB (⟨#[116]⟩ ++ l ++ r) := rfl
set_option maxRecDepth 100000 in
set_option maxHeartbeats 1000000 in
theorem rverify_long (p m s : ByteArray) (hs : s.size ≠ 2244) (w : World) :
    Calls Try.prog 20 #[.string p, .string m, .string s] w fun e w' => e = .returned (.bool (verB p m s)) ∧ Below w.heap.size w w' := by
  have hv : verB p m s = false := decide_eq_false (fun h => hs h.1)
  rw [hv]
  have hne : ((s.size : Int) != 2244) = true := by rw [bne_iff_ne]; omega
  clear hs hv
  go_enter Try.func20, Try.ntmps20
  go_wp2
  go_ret
  exact ⟨rfl, Below.refl _ _⟩
set_option maxRecDepth 100000 in
set_option maxHeartbeats 1000000 in
theorem rverify_key (p m s : ByteArray) (hs : s.size = 2244) (hf : ¬ frontB s < 8) (w : World) :
    Calls Try.prog 20 #[.string p, .string m, .string s] w fun e w' => e = .returned (.bool (verB p m s)) ∧ Below w.heap.size w w' := by
  have hv : verB p m s = false := decide_eq_false (fun h => hf h.2.1)
  rw [hv]
  have hne : ((s.size : Int) != 2244) = false := by rw [bne_eq_false_iff_eq]; omega
  have h0 := str_index s 0 (by omega)
  have h1 := str_index s 1 (by omega)
  have h2 := str_index s 2 (by omega)
  have h3 := str_index s 3 (by omega)
  rw [show ((0 : Nat) : Int) = 0 from rfl] at h0
  rw [show ((1 : Nat) : Int) = 1 from rfl] at h1
  rw [show ((2 : Nat) : Int) = 2 from rfl] at h2
  rw [show ((3 : Nat) : Int) = 3 from rfl] at h3
  unfold frontB at hf
  have b0 := nums_getD_lt s 0; have b1 := nums_getD_lt s 1; have b2 := nums_getD_lt s 2; have b3 := nums_getD_lt s 3
  generalize (nums s).getD 0 0 = x0 at *
  generalize (nums s).getD 1 0 = x1 at *
  generalize (nums s).getD 2 0 = x2 at *
  generalize (nums s).getD 3 0 = x3 at *
  clear hs hv
  by_cases c0 : 0 < x0
  · have c0' : (0 : Int) < (x0 : Int) := by omega
    go_enter Try.func20, Try.ntmps20
    go_wp2
    go_ret
    exact ⟨rfl, Below.refl _ _⟩
  · have c0' : ¬ (0 : Int) < (x0 : Int) := by omega
    by_cases c1 : 0 < x1
    · have c1' : (0 : Int) < (x1 : Int) := by omega
      go_enter Try.func20, Try.ntmps20
      go_wp2
      go_ret
      exact ⟨rfl, Below.refl _ _⟩
    · have c1' : ¬ (0 : Int) < (x1 : Int) := by omega
      by_cases c2 : 0 < x2
      · have c2' : (0 : Int) < (x2 : Int) := by omega
        go_enter Try.func20, Try.ntmps20
        go_wp2
        go_ret
        exact ⟨rfl, Below.refl _ _⟩
      · have c2' : ¬ (0 : Int) < (x2 : Int) := by omega
        have c3' : (7 : Int) < (x3 : Int) := by omega
        go_enter Try.func20, Try.ntmps20
        go_wp2
        go_ret
        exact ⟨rfl, Below.refl _ _⟩
set_option maxRecDepth 100000 in
set_option maxHeartbeats 4000000 in
theorem rverify_full (p m s : ByteArray) (hm : m.size ≤ 1073741824) (hs : s.size = 2244) (hf : frontB s < 8) (w : World) :
    Calls Try.prog 20 #[.string p, .string m, .string s] w fun e w' => e = .returned (.bool (verB p m s)) ∧ Below w.heap.size w w' := by
  have hne : ((s.size : Int) != 2244) = false := by rw [bne_eq_false_iff_eq]; omega
  have h0 := str_index s 0 (by omega)
  have h1 := str_index s 1 (by omega)
  have h2 := str_index s 2 (by omega)
  have h3 := str_index s 3 (by omega)
  rw [show ((0 : Nat) : Int) = 0 from rfl] at h0
  rw [show ((1 : Nat) : Int) = 1 from rfl] at h1
  rw [show ((2 : Nat) : Int) = 2 from rfl] at h2
  rw [show ((3 : Nat) : Int) = 3 from rfl] at h3
  have HVB : Hid (verB p m s = decide (rootB (frontB s) m s = p)) := Lib.hid (by unfold verB; simp [hs, hf])
  have hfe : frontB s = (nums s).getD 0 0 * 16777216 + (nums s).getD 1 0 * 65536 + (nums s).getD 2 0 * 256 + (nums s).getD 3 0 := rfl
  generalize verB p m s = VB at *
  generalize (nums s).getD 0 0 = x0 at *
  generalize (nums s).getD 1 0 = x1 at *
  generalize (nums s).getD 2 0 = x2 at *
  generalize (nums s).getD 3 0 = q at *
  obtain rfl : x0 = 0 := by omega
  obtain rfl : x1 = 0 := by omega
  obtain rfl : x2 = 0 := by omega
  have hq : frontB s = q := by omega
  rw [hq] at HVB hf
  clear hq hfe
  have c3' : ¬ (7 : Int) < (q : Int) := by omega
  have HN := Lib.hid (fun W => rnumber_any q W)
  have HN4 := Lib.hid (num4_size q)
  have HDG := Lib.hid (fun W => rdigits_any q m hm W)
  have HDA := Lib.hid (fun (i : Nat) (hi : i < 67) => odV_at q m hi)
  have HDL := Lib.hid (digB_le q m)
  have HI := Lib.hid (show (Try.prog.info? 68).map (·.size) = some (odV q m).size by rw [odV_size]; exact info67)
  have HO := Lib.hid (show zero67.size = (odV q m).size by rw [odV_size]; rfl)
  have H1 := Lib.hid (odV_all q m)
  generalize odV q m = D at *
  have a1 : ¬ (⟨#[112]⟩ : ByteArray).size + (num4 (q : Int)).size > 9223372036854775807 := by rw [num4_size]; decide
  have HPZ := Lib.hid (show ((⟨#[112]⟩ : ByteArray) ++ num4 (q : Int)).size = 5 by rw [ByteArray.size_append, num4_size]; rfl)
  have hz := zero67_run
  have HS := Lib.hid hs
  clear hs hm
  go_enter Try.func20, Try.ntmps20
  go_wp2_with fail
  refine (HDG.out _).mono ?_
  rintro e w2 ⟨rfl, hB2⟩
  clear h0 h1 h2 h3 c3' hne
  go_wp2_with (refine wpList_store_row rfl 68 _ _ rfl w2.heap.size D rfl rfl 68 zero67 (Blk.new _ _ _) HI.out HO.out H1.out ?_; rw [World.setRow_alloc_new])
  have hB3 := hB2.alloc hB2.size (.cells D 68)
  have hD3 : Blk (w2.alloc (.cells D 68)) w2.heap.size 68 D := Blk.new _ _ _
  generalize w2.alloc (.cells D 68) = w3 at *
  generalize w2.heap.size = gd at *
  clear hB2 hz HDG HI HO H1
  refine (HN.out _).mono ?_
  rintro e w4 ⟨rfl, hb4⟩
  have hD4 := hD3.below hb4 hD3.lt
  have hB4 := hB3.trans (hb4.mono hB3.size)
  clear hD3 hB3 hb4
  have HE0 := Lib.hid (show catB (fstN (endB q m s) 0) = ⟨#[]⟩ from rfl)
  have HES := Lib.hid (show ∀ k, catB (fstN (endB q m s) (k + 1)) = catB (fstN (endB q m s) k) ++ endB q m s k from fun k => fstN_cat_succ _ k)
  have HEZ : Hid (∀ k, k ≤ 67 → (catB (fstN (endB q m s) k)).size = 32 * k) := Lib.hid (fun k hk => by
    rw [catB_size, fstN_length]
    intro x hx
    simp only [fstN, List.mem_map, List.mem_range] at hx
    obtain ⟨i, hi, rfl⟩ := hx
    exact endB_size q m s HS.out (by omega))
  have HRB := Lib.hid (show rootB q m s = climbB q (fun h => s.extract (2148 + 32 * h) (2180 + 32 * h)) (leafB q (fstN (endB q m s) 67)) 3 from rfl)
  have HLF := Lib.hid (show leafB q (fstN (endB q m s) 67) = hB (⟨#[112]⟩ ++ num4 q ++ catB (fstN (endB q m s) 67)) from rfl)
  go_wp2
  clear a1
  generalize (⟨#[112]⟩ : ByteArray) ++ num4 (q : Int) = P at *
  go_loopw [9, 10] (fun v i wr => ∃ k : Nat, k ≤ 67 ∧ i = .int .i64 k ∧ v = .string (P ++ catB (fstN (endB q m s) k)) ∧ Blk wr gd 68 D ∧ Below w.heap.size w wr) (fun _ i _ => 67 - (intOf i).toNat)
  case atStart => exact ⟨0, by omega, rfl, by rw [HE0.out, append_empty], hD4, hB4⟩
  case round =>
    clear hD4 hB4
    obtain ⟨k, hk, rfl, rfl, hD, hB⟩ := hrel
    by_cases hlt : k < 67
    · have hlt' : (k : Int) < 67 := by omega
      have hc := (hD.cell k).trans (HDA.out k hlt)
      have hdl := HDL.out k
      have hsz : (2244 : Int) ≤ (s.size : Int) := by rw [HS.out]; decide
      have hyz : (P ++ catB (fstN (endB q m s) k)).size ≤ 1000000 := by rw [ByteArray.size_append, HPZ.out, HEZ.out k hk]; omega
      have HYJ : Hid (P ++ catB (fstN (endB q m s) k) ++ endB q m s k = P ++ catB (fstN (endB q m s) (k + 1))) := Lib.hid (by rw [HES.out, ByteArray.append_assoc])
      have HEE := Lib.hid (show walkB q k (digB q m k) (sigH s k) (15 - digB q m k) = endB q m s k from rfl)
      have HEK := Lib.hid (endB_size q m s HS.out hlt)
      have HXZ := Lib.hid (sigH_size s HS.out (show k < 70 by omega))
      generalize P ++ catB (fstN (endB q m s) k) = Y at *
      generalize digB q m k = d at *
      go_wp2
      obtain ⟨X, hX⟩ : ∃ X, sigH s k = X := ⟨_, rfl⟩
      have hX' : s.extract (4 + 32 * k) (36 + 32 * k) = X := hX
      rw [hX] at HEE HXZ
      rw [hX']
      clear hX hX' hsz
      have HW0 := Lib.hid (show walkB q k d X 0 = X from rfl)
      have HWS := Lib.hid (walkB_succ q k d X)
      have HWZ := Lib.hid (walkB_size q k d X HXZ.out)
      have HNK := Lib.hid (fun W => rnumber_any k W)
      generalize walkB q k d X = WB at *
      go_loopw [11, 12] (fun v i wr => ∃ j : Nat, j ≤ 15 - d ∧ i = .int .i64 (d + j : Nat) ∧ v = .string (WB j) ∧ Blk wr gd 68 D ∧ Below w.heap.size w wr) (fun _ i _ => 15 - (intOf i).toNat)
      case atStart => exact ⟨0, by omega, rfl, by rw [HW0.out], hD, hB⟩
      case round =>
        clear hD hB hc
        obtain ⟨j, hj, rfl, rfl, hD, hB⟩ := hrel
        obtain ⟨i, hi⟩ : ∃ i, d + j = i := ⟨_, rfl⟩
        rw [hi]
        by_cases hlt2 : i < 15
        · have hlt2' : (i : Int) < 15 := by omega
          have HJ := Lib.hid (fun W => rnumber_any i W)
          have z1 := HN4.out; have z2 := num4_size k; have z3 := num4_size i
          have HR := Lib.hid (HWS.out j)
          rw [hi] at HR
          have z4 := HWZ.out j
          obtain ⟨Z, hZ⟩ : ∃ Z, WB j = Z := ⟨_, rfl⟩
          rw [hZ] at z4 HR ⊢
          obtain ⟨N1, hN1⟩ : ∃ N1, num4 (q : Int) = N1 := ⟨_, rfl⟩
          obtain ⟨N2, hN2⟩ : ∃ N2, num4 (k : Int) = N2 := ⟨_, rfl⟩
          obtain ⟨N3, hN3⟩ : ∃ N3, num4 (i : Int) = N3 := ⟨_, rfl⟩
          have HNa := Lib.hid HN.out
          have HNb := Lib.hid HNK.out
          rw [hN1] at HNa z1 HR ⊢
          rw [hN2] at HNb z2 HR
          rw [hN3] at HJ z3 HR
          have z0 : (⟨#[99]⟩ : ByteArray).size = 1 := rfl
          have a1 : ¬ (⟨#[99]⟩ : ByteArray).size + N1.size > 9223372036854775807 := by omega
          have a2 : ¬ ((⟨#[99]⟩ : ByteArray) ++ N1).size + N2.size > 9223372036854775807 := by simp only [ByteArray.size_append]; omega
          have a3 : ¬ ((⟨#[99]⟩ : ByteArray) ++ N1 ++ N2).size + N3.size > 9223372036854775807 := by simp only [ByteArray.size_append]; omega
          have a4 : ¬ ((⟨#[99]⟩ : ByteArray) ++ N1 ++ N2 ++ N3).size + Z.size > 9223372036854775807 := by simp only [ByteArray.size_append]; omega
          have HH := Lib.hid (fun W => rh_any (⟨#[99]⟩ ++ N1 ++ N2 ++ N3 ++ Z) (by simp only [ByteArray.size_append]; omega) W)
          rw [← HR.out] at HH
          obtain ⟨R, hR⟩ : ∃ R, WB (j + 1) = R := ⟨_, rfl⟩
          rw [hR] at HH
          have HRR := Lib.hid hR
          have HI1 := Lib.hid (show ((i : Int) + 1) = ((d + (j + 1) : Nat) : Int) by omega)
          have HIJ := Lib.hid hi
          clear z0 z1 z2 z3 z4 hZ hN1 hN2 hN3 hR HR hi
          go_wp2_with fail
          refine (HNa.out _).mono ?_
          rintro e w5 ⟨rfl, hb5⟩
          have hD5 := hD.below hb5 hD.lt
          have hB5 := hB.trans (hb5.mono hB.size)
          clear hD hB hb5
          go_wp2_with fail
          refine (HNb.out _).mono ?_
          rintro e w6 ⟨rfl, hb6⟩
          have hD6 := hD5.below hb6 hD5.lt
          have hB6 := hB5.trans (hb6.mono hB5.size)
          clear hD5 hB5 hb6
          go_wp2_with fail
          refine (HJ.out _).mono ?_
          rintro e w7 ⟨rfl, hb7⟩
          have hD7 := hD6.below hb7 hD6.lt
          have hB7 := hB6.trans (hb7.mono hB6.size)
          clear hD6 hB6 hb7
          go_wp2_with fail
          refine (HH.out _).mono ?_
          rintro e w8 ⟨rfl, hb8⟩
          have hD8 := hD7.below hb8 hD7.lt
          have hB8 := hB7.trans (hb8.mono hB7.size)
          clear hD7 hB7 hb8
          go_wp2
          go_roundw
          case rel => exact ⟨j + 1, by have := HIJ.out; omega, by rw [HI1.out], by rw [HRR.out], hD8, hB8⟩
          case measure => simp [intOf]; omega
        · obtain rfl : j = 15 - d := by omega
          have hlt2' : ¬ (i : Int) < 15 := by omega
          rw [HEE.out]
          have ez := HEK.out
          generalize endB q m s k = EK at *
          have a1 : ¬ Y.size + EK.size > 9223372036854775807 := by omega
          clear hi hlt2 hj ez
          go_wp2
          go_roundw
          case rel => exact ⟨k + 1, by omega, by go_num, by rw [HYJ.out], hD, hB⟩
          case measure => simp [intOf]; omega
    · obtain rfl : k = 67 := by omega
      clear hlt hk hD
      have HH := Lib.hid (fun W => rh_any (P ++ catB (fstN (endB q m s) 67)) (by rw [ByteArray.size_append, HPZ.out, HEZ.out 67 (by decide)]; decide) W)
      rw [← HLF.out] at HH
      rw [show ((67 : Nat) : Int) = 67 from rfl]
      have HLZ := Lib.hid (leafB_le q (fstN (endB q m s) 67))
      generalize leafB q (fstN (endB q m s) 67) = LF at *
      generalize P ++ catB (fstN (endB q m s) 67) = Y at *
      have HC0 := Lib.hid (show climbB q (fun h => s.extract (2148 + 32 * h) (2180 + 32 * h)) LF 0 = LF from rfl)
      have HCE := Lib.hid (show ∀ k, q / 2 ^ k % 2 = 0 → climbB q (fun h => s.extract (2148 + 32 * h) (2180 + 32 * h)) LF (k + 1) = joinB (climbB q (fun h => s.extract (2148 + 32 * h) (2180 + 32 * h)) LF k) (s.extract (2148 + 32 * k) (2180 + 32 * k)) from fun k hk => if_pos hk)
      have HCO := Lib.hid (show ∀ k, ¬ q / 2 ^ k % 2 = 0 → climbB q (fun h => s.extract (2148 + 32 * h) (2180 + 32 * h)) LF (k + 1) = joinB (s.extract (2148 + 32 * k) (2180 + 32 * k)) (climbB q (fun h => s.extract (2148 + 32 * h) (2180 + 32 * h)) LF k) from fun k hk => if_neg hk)
      have HCS : Hid (∀ k, (climbB q (fun h => s.extract (2148 + 32 * h) (2180 + 32 * h)) LF k).size ≤ 1073741824) := Lib.hid (climbB_le q _ LF HLZ.out)
      generalize climbB q (fun h => s.extract (2148 + 32 * h) (2180 + 32 * h)) LF = C at *
      go_wp2_with fail
      refine (HH.out _).mono ?_
      rintro e w5 ⟨rfl, hb5⟩
      have hB5 := hB.trans (hb5.mono hB.size)
      clear hB hb5 HH
      go_wp2
      go_loopw [13, 14, 15] (fun v a i wr => ∃ j : Nat, j ≤ 3 ∧ i = .int .i64 j ∧ a = .int .i64 (q / 2 ^ j : Nat) ∧ v = .string (C j) ∧ Below w.heap.size w wr) (fun _ _ i _ => 3 - (intOf i).toNat)
      case atStart => exact ⟨0, by omega, rfl, by rw [Nat.pow_zero, Nat.div_one], by rw [HC0.out], hB5⟩
      case round =>
        clear hB5
        obtain ⟨j, hj, rfl, rfl, rfl, hB⟩ := hrel
        by_cases hlt : j < 3
        · have hlt' : (j : Int) < 3 := by omega
          have hsz : (2244 : Int) ≤ (s.size : Int) := by rw [HS.out]; decide
          have hql : q / 2 ^ j < 8 := Nat.lt_of_le_of_lt (Nat.div_le_self _ _) hf
          have hsh : ((q / 2 ^ j : Nat) : Int) / 2 = (q / 2 ^ (j + 1) : Nat) := by rw [Nat.pow_succ, ← Nat.div_div_eq_div_mul]; omega
          obtain ⟨q1, hq1⟩ : ∃ q1, q / 2 ^ (j + 1) = q1 := ⟨_, rfl⟩
          rw [hq1] at hsh
          have HQ1 := Lib.hid hq1
          have HCEj := Lib.hid (HCE.out j)
          have HCOj := Lib.hid (HCO.out j)
          have HXZ : Hid ((s.extract (2148 + 32 * j) (2180 + 32 * j)).size = 32) := Lib.hid (by rw [ext_size _ _ _ (by rw [HS.out]; omega)]; omega)
          have HCZ := Lib.hid (HCS.out j)
          obtain ⟨X, hX⟩ : ∃ X, s.extract (2148 + 32 * j) (2180 + 32 * j) = X := ⟨_, rfl⟩
          rw [hX] at HCEj HCOj HXZ
          obtain ⟨Z, hZ⟩ : ∃ Z, C j = Z := ⟨_, rfl⟩
          rw [hZ] at HCEj HCOj HCZ ⊢
          obtain ⟨R, hR⟩ : ∃ R, C (j + 1) = R := ⟨_, rfl⟩
          rw [hR] at HCEj HCOj
          have HRR := Lib.hid hR
          have z1 := HXZ.out; have z2 := HCZ.out
          have z0 : (⟨#[116]⟩ : ByteArray).size = 1 := rfl
          clear hR hZ hq1
          generalize q / 2 ^ j = q0 at *
          rcases Nat.mod_two_eq_zero_or_one q0 with hpar | hpar
          · have e1 : (q0 : Int) % 2 = 0 := by omega
            have HH := Lib.hid (fun W => rh_any (⟨#[116]⟩ ++ Z ++ X) (by simp only [ByteArray.size_append]; omega) W)
            rw [← joinB_eq, ← HCEj.out hpar] at HH
            have a1 : ¬ (⟨#[116]⟩ : ByteArray).size + Z.size > 9223372036854775807 := by omega
            have a2 : ¬ ((⟨#[116]⟩ : ByteArray) ++ Z).size + X.size > 9223372036854775807 := by simp only [ByteArray.size_append]; omega
            clear hpar z0 z1 z2 HCEj HCOj
            go_wp2_with fail
            refine (HH.out _).mono ?_
            rintro e w5 ⟨rfl, hb5⟩
            have hB5 := hB.trans (hb5.mono hB.size)
            clear hB hb5
            go_wp2
            go_roundw
            case rel => exact ⟨j + 1, by omega, by go_num, by rw [HQ1.out], by rw [HRR.out], hB5⟩
            case measure => simp [intOf]; omega
          · have e1 : (q0 : Int) % 2 = 1 := by omega
            have HH := Lib.hid (fun W => rh_any (⟨#[116]⟩ ++ X ++ Z) (by simp only [ByteArray.size_append]; omega) W)
            rw [← joinB_eq, ← HCOj.out (by omega)] at HH
            have a1 : ¬ (⟨#[116]⟩ : ByteArray).size + X.size > 9223372036854775807 := by omega
            have a2 : ¬ ((⟨#[116]⟩ : ByteArray) ++ X).size + Z.size > 9223372036854775807 := by simp only [ByteArray.size_append]; omega
            clear hpar z0 z1 z2 HCEj HCOj
            go_wp2_with fail
            refine (HH.out _).mono ?_
            rintro e w5 ⟨rfl, hb5⟩
            have hB5 := hB.trans (hb5.mono hB.size)
            clear hB hb5
            go_wp2
            go_roundw
            case rel => exact ⟨j + 1, by omega, by go_num, by rw [HQ1.out], by rw [HRR.out], hB5⟩
            case measure => simp [intOf]; omega
        · obtain rfl : j = 3 := by omega
          clear hlt hj
          rw [← HRB.out]
          generalize rootB q m s = RO at *
          go_wp2
          go_ret
          exact ⟨boolEq (by rw [HVB.out]; exact toList_dec RO p), hB⟩
theorem rverify_any (p m s : ByteArray) (hm : m.size ≤ 1073741824) (w : World) :
    Calls Try.prog 20 #[.string p, .string m, .string s] w fun e w' => e = .returned (.bool (verB p m s)) ∧ Below w.heap.size w w' := by
  by_cases h1 : s.size = 2244
  · by_cases h2 : frontB s < 8
    · exact rverify_full p m s hm h1 h2 w
    · exact rverify_key p m s h1 h2 w
  · exact rverify_long p m s h1 w
end Go.Proofs.Ytbkmclgddknijaa

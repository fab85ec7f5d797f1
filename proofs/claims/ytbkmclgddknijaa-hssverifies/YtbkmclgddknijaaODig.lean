/-
  A message's digits: the program's and the reference's.
-/
import Derived.Test.YtbkmclgddknijaaOChain
namespace Go.Proofs.Ytbkmclgddknijaa
open Go.RowKit

theorem ofInt64_nat (a : Nat) (ha : a < 9223372036854775808) : (BitVec.ofInt 64 (a : Int)).toNat = a := by
  rw [BitVec.ofInt_natCast, BitVec.toNat_ofNat]; exact Nat.mod_eq_of_lt (by omega)
theorem i64_and_nat (a b : Nat) (ha : a < 9223372036854775808) (hb : b < 9223372036854775808) : bits .and .i64 (a : Int) (b : Int) = ((a &&& b : Nat) : Int) := by
  have hx : a &&& b < 2 ^ 63 := Nat.and_lt_two_pow _ (by omega)
  show IntKind.i64.wrap ((BitVec.ofInt 64 (a : Int) &&& BitVec.ofInt 64 (b : Int)).toNat : Int) = _
  rw [BitVec.toNat_and, ofInt64_nat a ha, ofInt64_nat b hb, IntKind.wrap_i64]
  omega
theorem i64_or_nat (a b : Nat) (ha : a < 9223372036854775808) (hb : b < 9223372036854775808) : bits .or .i64 (a : Int) (b : Int) = ((a ||| b : Nat) : Int) := by
  have hx : a ||| b < 2 ^ 63 := Nat.or_lt_two_pow (by omega) (by omega)
  show IntKind.i64.wrap ((BitVec.ofInt 64 (a : Int) ||| BitVec.ofInt 64 (b : Int)).toNat : Int) = _
  rw [BitVec.toNat_or, ofInt64_nat a ha, ofInt64_nat b hb, IntKind.wrap_i64]
  omega
theorem i64_xor_nat (a b : Nat) (ha : a < 9223372036854775808) (hb : b < 9223372036854775808) : bits .xor .i64 (a : Int) (b : Int) = ((a ^^^ b : Nat) : Int) := by
  have hx : a ^^^ b < 2 ^ 63 := Nat.xor_lt_two_pow (by omega) (by omega)
  show IntKind.i64.wrap ((BitVec.ofInt 64 (a : Int) ^^^ BitVec.ofInt 64 (b : Int)).toNat : Int) = _
  rw [BitVec.toNat_xor, ofInt64_nat a ha, ofInt64_nat b hb, IntKind.wrap_i64]
  omega
theorem i64_and15 (a : Nat) (ha : a < 9223372036854775808) : bits .and .i64 (a : Int) 15 = ((a % 16 : Nat) : Int) := by
  rw [show (15 : Int) = ((15 : Nat) : Int) from rfl, i64_and_nat a 15 ha (by decide), show (15 : Nat) = 2 ^ 4 - 1 from rfl, Nat.and_two_pow_sub_one_eq_mod]

theorem ret_i64 {a b : Int} (h : a = b) : Ending.returned (.int .i64 a) = .returned (.int .i64 b) := by rw [h]
set_option maxRecDepth 100000 in
set_option maxHeartbeats 400000 in
theorem digitOf_0 (n : Nat) (hn : n < 65536) (w : World) :
    Calls Try.prog 46 #[.int .i64 n, .int .i64 0] w fun e w' => e = .returned (.int .i64 (n % 16 : Nat)) ∧ w = w' := by
  go_enter Try.func46, Try.ntmps46
  go_wp2
  go_ret
  exact ⟨ret_i64 (i64_and15 n (by omega)), rfl⟩
set_option maxRecDepth 100000 in
set_option maxHeartbeats 400000 in
theorem digitOf_1 (n : Nat) (hn : n < 65536) (w : World) :
    Calls Try.prog 46 #[.int .i64 n, .int .i64 1] w fun e w' => e = .returned (.int .i64 (n / 16 % 16 : Nat)) ∧ w = w' := by
  go_enter Try.func46, Try.ntmps46
  go_wp2
  go_ret
  exact ⟨ret_i64 (i64_and15 (n / 16) (by omega)), rfl⟩
set_option maxRecDepth 100000 in
set_option maxHeartbeats 400000 in
theorem digitOf_2 (n : Nat) (hn : n < 65536) (w : World) :
    Calls Try.prog 46 #[.int .i64 n, .int .i64 2] w fun e w' => e = .returned (.int .i64 (n / 256 % 16 : Nat)) ∧ w = w' := by
  go_enter Try.func46, Try.ntmps46
  go_wp2
  go_ret
  exact ⟨ret_i64 (i64_and15 (n / 256) (by omega)), rfl⟩
theorem digitOf_any (n b : Nat) (hn : n < 65536) (hb : b < 3) (w : World) :
    Calls Try.prog 46 #[.int .i64 n, .int .i64 b] w fun e w' => e = .returned (.int .i64 (n / 16 ^ b % 16 : Nat)) ∧ w = w' := by
  rcases b with _ | _ | _ | b
  · have := digitOf_0 n hn w
    rw [show n % 16 = n / 16 ^ 0 % 16 by rw [Nat.pow_zero, Nat.div_one]] at this
    exact this
  · exact digitOf_1 n hn w
  · exact digitOf_2 n hn w
  · omega
set_option maxRecDepth 100000 in
set_option maxHeartbeats 400000 in
theorem isKey_any (q : Int) (w : World) :
    Calls Try.prog 30 #[.int .i64 q] w fun e w' => e = .returned (.bool (decide (0 ≤ q ∧ q < 8))) ∧ w = w' := by
  by_cases h : 0 ≤ q
  · by_cases h2 : q < 8
    · go_enter Try.func30, Try.ntmps30
      go_wp2
      go_ret
      exact ⟨boolEq (by simp [h, h2]), rfl⟩
    · go_enter Try.func30, Try.ntmps30
      go_wp2
      go_ret
      exact ⟨boolEq (by simp [h2]), rfl⟩
  · go_enter Try.func30, Try.ntmps30
    go_wp2
    go_ret
    exact ⟨boolEq (by simp; omega), rfl⟩

def I64 (n : Nat) : Value := .int .i64 (n : Int)
/-- the first k digits; all -/
def odL (h : List Nat) (k : Nat) : List Nat := (List.range k).map (digD h)
theorem odL_length (h : List Nat) (k : Nat) : (odL h k).length = k := by simp [odL]
theorem odL_succ (h : List Nat) (k : Nat) : odL h (k + 1) = odL h k ++ [digD h k] := by simp [odL, List.range_succ]
theorem odL_get (h : List Nat) {k i : Nat} (hi : i < k) : (odL h k).getD i 0 = digD h i := by simp [odL, List.getD_eq_getElem?_getD, hi]
def odV (q : Nat) (m : ByteArray) : Array Value := ((odL (nums (msgB q m)) 67).map I64).toArray
def zero67 : Array Value := Array.replicate 67 (I64 0)
theorem zero67_run (w : World) : (zeroValue 68).run Try.prog w = .ok (.agg zero67) w := by kernel_rfl
theorem info67 : (Try.prog.info? 68).map (·.size) = some 67 := by kernel_rfl
theorem odV_size (q : Nat) (m : ByteArray) : (odV q m).size = 67 := by simp [odV, odL_length]
theorem i64_one (l : List Nat) : ((l.map I64).toArray).all (·.oneCell') = true := by
  rw [Array.all_eq_true]
  intro i hi
  simp [I64]
  rfl
theorem odV_all (q : Nat) (m : ByteArray) : (odV q m).all (·.oneCell') = true := i64_one _
theorem odV_at (q : Nat) (m : ByteArray) {i : Nat} (hi : i < 67) : (odV q m)[i]? = some (.int .i64 (digB q m i : Nat)) := by
  unfold odV
  rw [List.getElem?_toArray, List.getElem?_map, odL, List.getElem?_map, List.getElem?_range hi]
  rfl
theorem odV_index (q : Nat) (m : ByteArray) {i : Nat} (hi : i < 67) (W : World) : (Instr.index 68 (.agg (odV q m)) (.int .i64 (i : Int))).run Try.prog W = .ok (.int .i64 (digB q m i : Nat)) W := by
  have h := odV_at q m hi
  have hs := odV_size q m
  generalize odV q m = D at *
  generalize digB q m i = d at *
  simp [Instr.index, run_underlying Try.underlying68, asIntOf, hi, go_sem, Try.sizeOf3, h]
theorem str_index (s : ByteArray) (j : Nat) (hj : j < s.size) (W : World) : (Instr.index 9 (.string s) (.int .i64 (j : Int))).run Try.prog W = .ok (.int .u8 ((nums s).getD j 0 : Nat)) W := by
  rw [run_index_string W 9 s .i64 (j : Int) Try.underlying9, dif_pos (by omega)]
  simp [nums, List.getD_eq_getElem?_getD, hj]
  rfl
theorem int_load {w : World} {p : Addr} {x : Int} (h : w.cell? p = some (.int .i64 x)) : (loadVar 3 p).run Try.prog w = .ok (.int .i64 x) w := by
  go_simp
section
attribute [-go_sem] loadVar
set_option maxRecDepth 100000 in
set_option maxHeartbeats 2000000 in
theorem digits_any (q : Nat) (m : ByteArray) (hm : m.size ≤ 1073741824) (w : World) :
    Calls Try.prog 32 #[.agg tabV, .int .i64 q, .string m] w fun e w' => e = .returned (.agg (odV q m)) ∧ Below w.heap.size w w' := by
  have HV := Lib.hid (show odV q m = ((odL (nums (msgB q m)) 67).map I64).toArray from rfl)
  have HM := Lib.hid (show msgB q m = hB (⟨#[109]⟩ ++ num4 q ++ txt m) from rfl)
  have HT := Lib.hid (fun W => text_any m (by omega) W)
  have HQ := Lib.hid (fun W => number_any q W)
  have z1 := txt_size m; have z2 := num4_size q
  generalize txt m = N2 at *; generalize num4 (q : Int) = N1 at *
  have z0 : (⟨#[109]⟩ : ByteArray).size = 1 := rfl
  have r1 := addRun (a := ⟨#[109]⟩) (b := N1) (by omega)
  have r2 := addRun (a := ⟨#[109]⟩ ++ N1) (b := N2) (by simp only [ByteArray.size_append]; omega)
  have HS := Lib.hid (fun W => hsum_any (⟨#[109]⟩ ++ N1 ++ N2) (by simp only [ByteArray.size_append]; omega) W)
  rw [← HM.out] at HS
  have hR32 : (msgB q m).size = 32 := hB_size _
  generalize msgB q m = R at *
  generalize odV q m = OV at *
  clear z0 z1 z2 hm HM
  have hB0 := (((Below.refl _ w).alloc (Nat.le_refl _) (.cells tabV 27)).alloc (by simp) (.cells zero67 68)).alloc (by simp; omega) (.cells zero67 68)
  have hT : Blk (((w.alloc (.cells tabV 27)).alloc (.cells zero67 68)).alloc (.cells zero67 68)) w.heap.size 27 tabV := ((Blk.new _ _ _).alloc _).alloc _
  have hO : Blk (((w.alloc (.cells tabV 27)).alloc (.cells zero67 68)).alloc (.cells zero67 68)) (w.heap.size + 1) 68 zero67 := (Blk.new_at (by simp)).alloc _
  have hD : Blk (((w.alloc (.cells tabV 27)).alloc (.cells zero67 68)).alloc (.cells zero67 68)) (w.heap.size + 1 + 1) 68 zero67 := Blk.new_at (by simp)
  have h1 := zero67_run
  go_enter Try.func32, Try.ntmps32
  go_wp2
  generalize ((w.alloc (.cells tabV 27)).alloc (.cells zero67 68)).alloc (.cells zero67 68) = w0 at *
  obtain ⟨B, hBB⟩ : ∃ B, w.heap.size = B := ⟨_, rfl⟩
  rw [hBB] at hB0 hT hO hD ⊢
  have HBB := Lib.hid hBB
  clear hBB h1
  have HKP : Hid (∀ W, Below w0.heap.size w0 W → (loadVar 27 ⟨B, 0, none⟩).run Try.prog W = .ok (.agg tabV) W ∧ Below w0.heap.size w0 W) := Lib.hid fun W hW => ⟨tab_run (hT.below hW hT.lt), hW⟩
  have HO := Lib.hid hO
  have HD := Lib.hid hD
  clear hT hO hD
  go_region_held3 (fun w' => (loadVar 27 ⟨B, 0, none⟩).run Try.prog w' = .ok (.agg tabV) w' ∧ Below w0.heap.size w0 w')
    ((refine HKP.out _ ?_; first | exact hB3' | exact hB2' | exact hB1' | exact (Below.refl _ _).drew | exact Below.refl _ _))
    (first
      | (have := hB2'; go_at_call 45; refine (HS.out _).mono ?_; rintro e w3 ⟨rfl, hb3⟩; have hB3' : Below w0.heap.size w0 w3 := hB2'.trans (hb3.mono hB2'.size))
      | (have := hB1'; go_at_call 21; refine (HT.out _).mono ?_; rintro e w2 ⟨rfl, hb2⟩; have hB2' : Below w0.heap.size w0 w2 := hB1'.trans (hb2.mono hB1'.size))
      | (go_at_call 22; refine (HQ.out _).mono ?_; rintro e w1 ⟨rfl, hb1⟩; have hB1' : Below w0.heap.size w0 w1 := (Below.refl _ _).drew.trans hb1))
  have hB6 := hB0.trans (hB3'.mono (by have := hB0.size; have := HBB.out; omega))
  have hO6 := HO.out.below hB3' HO.out.lt
  have hD6 := HD.out.below hB3' HD.out.lt
  clear hB0 hB3' hB2' hB1' hb1 hb2 hb3 HKP HO HD HQ HT HS r1 r2
  rename_i hHeld
  clear hHeld
  have hB7 : Below B w w3 := hB6
  clear hB6
  go_wp2
  go_loopw [9, 20] (fun r i wr => ∃ k : Nat, k ≤ 64 ∧ i = .int .i64 k ∧ r = .int .i64 (shortD (nums R) k : Nat) ∧ Blk wr (B + 1 + 1) 68 (padded I64 67 (odL (nums R) k)) ∧ Blk wr (B + 1) 68 zero67 ∧ Below B w wr) (fun _ i _ => 64 - (intOf i).toNat)
  case atStart => exact ⟨0, by omega, rfl, rfl, by rw [show odL (nums R) 0 = [] from rfl, padded_nil]; exact hD6, hO6, hB7⟩
  case round =>
    clear hO6 hD6 hB7
    obtain ⟨k, hk, rfl, rfl, hD, hO, hB⟩ := hrel
    by_cases hlt : k < 64
    · have hlt' : (k : Int) < 64 := by omega
      have hlen := odL_length (nums R) k
      have hsl := shortD_le (h := nums R) k
      have HX : Hid (hexd (nums R) k ≤ 15) := Lib.hid (hexd_le (nums_lt R) k)
      have HSS := Lib.hid (show shortD (nums R) (k + 1) = shortD (nums R) k + (15 - hexd (nums R) k) from rfl)
      have HLS : Hid (odL (nums R) (k + 1) = odL (nums R) k ++ [hexd (nums R) k]) := Lib.hid (by rw [odL_succ]; congr 2; exact if_pos hlt)
      have hP := padded_set I64 (m := 67) (l := odL (nums R) k) (by omega) (hexd (nums R) k)
      rw [hlen, ← HLS.out] at hP
      obtain ⟨PV, hPV⟩ : ∃ PV, padded I64 67 (odL (nums R) k) = PV := ⟨_, rfl⟩
      rw [hPV] at hD hP
      have HP := Lib.hid hP
      have hD1 := hD.set_ k (I64 (hexd (nums R) k))
      have hB1 := hB.setCell (p := ⟨B + 1 + 1, k, none⟩) (by show B ≤ B + 1 + 1; omega) (I64 (hexd (nums R) k))
      have hO1 := hO.far (p := ⟨B + 1 + 1, k, none⟩) (by show B + 1 ≠ B + 1 + 1; omega) (I64 (hexd (nums R) k))
      have hpz : PV.size = 67 := by rw [← hPV]; exact padded_size I64 (by rw [hlen]; omega)
      have hc1 : (wr.setCell ⟨B + 1 + 1, k, none⟩ (.int .i64 (hexd (nums R) k : Nat))).cell? ⟨B + 1 + 1, k, none⟩ = some (.int .i64 (hexd (nums R) k : Nat)) := by
        have := hD1.cell k
        rw [Array.getElem?_setIfInBounds_self_of_lt (by rw [hpz]; omega)] at this
        exact this
      have hl1 := int_load hc1
      obtain ⟨v0, hv0⟩ : ∃ v0, PV[k]? = some v0 := ⟨_, Array.getElem?_eq_getElem (by rw [hpz]; omega)⟩
      have hc0 : wr.cell? ⟨B + 1 + 1, k, none⟩ = some v0 := (hD.cell k).trans hv0
      have hf0 := hD.frozen k
      have HD1 := Lib.hid hD1; have HB1 := Lib.hid hB1; have HO1 := Lib.hid hO1
      clear hPV hlen hP hD hB hO hD1 hB1 hO1 hc1 hpz hv0
      obtain ⟨j, hj⟩ : ∃ j, k / 2 = j := ⟨_, rfl⟩
      have e1 : (k : Int) / 2 = (j : Int) := by omega
      have hx := str_index R j (by omega)
      have hx256 : (nums R).getD j 0 < 256 := by
        rw [List.getD_eq_getElem?_getD, List.getElem?_eq_getElem (by rw [nums_length]; omega)]
        exact nums_lt R _ (List.getElem_mem _)
      rcases Nat.mod_two_eq_zero_or_one k with hpar | hpar
      · have e2 : (k : Int) % 2 = 0 := by omega
        have HDG := Lib.hid (fun W => digitOf_1 ((nums R).getD j 0) (by omega) W)
        have hdd : (nums R).getD j 0 / 16 % 16 = hexd (nums R) k := by unfold hexd; rw [if_pos hpar, hj]; omega
        rw [hdd] at HDG
        generalize hexd (nums R) k = d at *
        generalize shortD (nums R) k = sh at *
        generalize (nums R).getD j 0 = x at *
        have hdle := HX.out
        go_wp2_with fail
        refine (HDG.out _).mono ?_
        rintro e w' ⟨rfl, rfl⟩
        go_wp2
        go_roundw
        case rel => exact ⟨k + 1, by omega, by go_num, by rw [HSS.out]; go_num, by rw [← HP.out]; exact HD1.out, HO1.out, HB1.out⟩
        case measure => simp [intOf]; omega
      · have e2 : (k : Int) % 2 = 1 := by omega
        have HDG := Lib.hid (fun W => digitOf_0 ((nums R).getD j 0) (by omega) W)
        have hdd : (nums R).getD j 0 % 16 = hexd (nums R) k := by unfold hexd; rw [if_neg (by omega), hj]
        rw [hdd] at HDG
        generalize hexd (nums R) k = d at *
        generalize shortD (nums R) k = sh at *
        generalize (nums R).getD j 0 = x at *
        have hdle := HX.out
        go_wp2_with fail
        refine (HDG.out _).mono ?_
        rintro e w' ⟨rfl, rfl⟩
        go_wp2
        go_roundw
        case rel => exact ⟨k + 1, by omega, by go_num, by rw [HSS.out]; go_num, by rw [← HP.out]; exact HD1.out, HO1.out, HB1.out⟩
        case measure => simp [intOf]; omega
    · obtain rfl : k = 64 := by omega
      clear hlt hk
      rw [show ((64 : Nat) : Int) = 64 from rfl]
      have hsl := shortD_le (h := nums R) 64
      have HDD := Lib.hid (show ∀ k, 64 ≤ k → digD (nums R) k = shortD (nums R) 64 / 16 ^ (66 - k) % 16 from fun k hk => if_neg (by omega))
      generalize shortD (nums R) 64 = sh at *
      go_wp2
      go_loopw [11] (fun i wr => ∃ k : Nat, 64 ≤ k ∧ k ≤ 67 ∧ i = .int .i64 k ∧ Blk wr (B + 1 + 1) 68 (padded I64 67 (odL (nums R) k)) ∧ Blk wr (B + 1) 68 zero67 ∧ Below B w wr) (fun i _ => 67 - (intOf i).toNat)
      case atStart => exact ⟨64, by omega, by omega, rfl, hD, hO, hB⟩
      case round =>
        clear hD hO hB
        obtain ⟨k, hk64, hk, rfl, hD, hO, hB⟩ := hrel
        by_cases hlt : k < 67
        · have hlt' : (k : Int) < 67 := by omega
          have hlen := odL_length (nums R) k
          have HLS : Hid (odL (nums R) (k + 1) = odL (nums R) k ++ [digD (nums R) k]) := Lib.hid (odL_succ _ _)
          have hP := padded_set I64 (m := 67) (l := odL (nums R) k) (by omega) (digD (nums R) k)
          rw [hlen, ← HLS.out] at hP
          obtain ⟨PV, hPV⟩ : ∃ PV, padded I64 67 (odL (nums R) k) = PV := ⟨_, rfl⟩
          rw [hPV] at hD hP
          have HP := Lib.hid hP
          have hD1 := hD.set_ k (I64 (digD (nums R) k))
          have hB1 := hB.setCell (p := ⟨B + 1 + 1, k, none⟩) (by show B ≤ B + 1 + 1; omega) (I64 (digD (nums R) k))
          have hO1 := hO.far (p := ⟨B + 1 + 1, k, none⟩) (by show B + 1 ≠ B + 1 + 1; omega) (I64 (digD (nums R) k))
          have hpz : PV.size = 67 := by rw [← hPV]; exact padded_size I64 (by rw [hlen]; omega)
          obtain ⟨v0, hv0⟩ : ∃ v0, PV[k]? = some v0 := ⟨_, Array.getElem?_eq_getElem (by rw [hpz]; omega)⟩
          have hc0 : wr.cell? ⟨B + 1 + 1, k, none⟩ = some v0 := (hD.cell k).trans hv0
          have hf0 := hD.frozen k
          have HD1 := Lib.hid hD1; have HB1 := Lib.hid hB1; have HO1 := Lib.hid hO1
          clear hPV hlen hP hD hB hO hD1 hB1 hO1 hpz hv0
          have HDG := Lib.hid (fun W => digitOf_any sh (66 - k) (by omega) (by omega) W)
          rw [← HDD.out k hk64] at HDG
          have e1 : (66 : Int) - (k : Int) = ((66 - k : Nat) : Int) := by omega
          generalize digD (nums R) k = d at *
          generalize 66 - k = bh at *
          go_wp2_with fail
          refine (HDG.out _).mono ?_
          rintro e w' ⟨rfl, rfl⟩
          go_wp2
          go_roundw
          case rel => exact ⟨k + 1, by omega, by omega, by go_num, by rw [← HP.out]; exact HD1.out, HO1.out, HB1.out⟩
          case measure => simp [intOf]; omega
        · obtain rfl : k = 67 := by omega
          clear hlt hk hk64
          rw [padded_full I64 (odL_length _ _), ← HV.out] at hD
          have HI : Hid ((Try.prog.info? 68).map (·.size) = some OV.size) := Lib.hid (by rw [HV.out, info67]; simp [odL_length])
          have HO : Hid (zero67.size = OV.size) := Lib.hid (by rw [HV.out]; simp [odL_length, zero67])
          have H1 : Hid (OV.all (·.oneCell') = true) := Lib.hid (by rw [HV.out]; exact i64_one _)
          go_wp2_with (first
            | (refine wpList_load_row rfl 68 _ rfl (B + 1 + 1) rfl 68 OV (0, 0) _ hD Try.underlying68 rfl HI.out ?_)
            | (refine wpList_store_row rfl 68 _ _ rfl (B + 1) OV rfl rfl 68 zero67 hO HI.out HO.out H1.out ?_))
          have hO2 := blk_setRow hO OV
          have hB2 := below_setRow hB (show B ≤ B + 1 by omega) OV
          exact bodyPost_ret (results_cell_row rfl _ _ (B + 1) 68 OV (0, 0) _ rfl hO2 Try.underlying68 rfl HI.out) rfl ⟨rfl, by rw [HBB.out]; exact hB2⟩
end
set_option maxRecDepth 100000 in
set_option maxHeartbeats 2000000 in
theorem rdigits_any (q : Nat) (m : ByteArray) (hm : m.size ≤ 1073741824) (w : World) :
    Calls Try.prog 41 #[.int .i64 q, .string m] w fun e w' => e = .returned (.agg (odV q m)) ∧ Below w.heap.size w w' := by
  have HV := Lib.hid (show odV q m = ((odL (nums (msgB q m)) 67).map I64).toArray from rfl)
  have HM := Lib.hid (show msgB q m = hB (⟨#[109]⟩ ++ num4 q ++ txt m) from rfl)
  have HT := Lib.hid (fun W => rtext_any m (by omega) W)
  have HQ := Lib.hid (fun W => rnumber_any q W)
  have z1 := txt_size m; have z2 := num4_size q
  generalize txt m = N2 at *; generalize num4 (q : Int) = N1 at *
  have z0 : (⟨#[109]⟩ : ByteArray).size = 1 := rfl
  have a1 : ¬ (⟨#[109]⟩ : ByteArray).size + N1.size > 9223372036854775807 := by omega
  have a2 : ¬ ((⟨#[109]⟩ : ByteArray) ++ N1).size + N2.size > 9223372036854775807 := by simp only [ByteArray.size_append]; omega
  have HS := Lib.hid (fun W => rh_any (⟨#[109]⟩ ++ N1 ++ N2) (by simp only [ByteArray.size_append]; omega) W)
  rw [← HM.out] at HS
  have hR32 : (msgB q m).size = 32 := hB_size _
  generalize msgB q m = R at *
  generalize odV q m = OV at *
  clear z0 z1 z2 hm HM
  have hB0 := ((Below.refl _ w).alloc (Nat.le_refl _) (.cells zero67 68)).alloc (by simp) (.cells zero67 68)
  have hO : Blk ((w.alloc (.cells zero67 68)).alloc (.cells zero67 68)) w.heap.size 68 zero67 := (Blk.new _ _ _).alloc _
  have hD : Blk ((w.alloc (.cells zero67 68)).alloc (.cells zero67 68)) (w.heap.size + 1) 68 zero67 := Blk.new_at (by simp)
  have h1 := zero67_run
  go_enter Try.func41, Try.ntmps41
  go_wp2_with fail
  generalize (w.alloc (.cells zero67 68)).alloc (.cells zero67 68) = w0 at *
  obtain ⟨B, hBB⟩ : ∃ B, w.heap.size = B := ⟨_, rfl⟩
  rw [hBB] at hB0 hO hD ⊢
  have HBB := Lib.hid hBB
  have HBw := Lib.hid (show B ≤ w.heap.size by omega)
  clear hBB h1
  refine (HQ.out _).mono ?_
  rintro e w1 ⟨rfl, hb1⟩
  have hO1 := hO.below hb1 hO.lt
  have hD1 := hD.below hb1 hD.lt
  have hB1 := hB0.trans (hb1.mono (by have := hB0.size; have := HBw.out; omega))
  clear hO hD hB0 hb1
  go_wp2_with fail
  refine (HT.out _).mono ?_
  rintro e w2 ⟨rfl, hb2⟩
  have hO2 := hO1.below hb2 hO1.lt
  have hD2 := hD1.below hb2 hD1.lt
  have hB2 := hB1.trans (hb2.mono (by have := hB1.size; have := HBw.out; omega))
  clear hO1 hD1 hB1 hb2
  go_wp2_with fail
  refine (HS.out _).mono ?_
  rintro e w3 ⟨rfl, hb3⟩
  have hO6 := hO2.below hb3 hO2.lt
  have hD6 := hD2.below hb3 hD2.lt
  have hB7 := hB2.trans (hb3.mono (by have := hB2.size; have := HBw.out; omega))
  clear hO2 hD2 hB2 hb3 HQ HT HS a1 a2
  go_wp2
  go_loopw [7, 8] (fun r i wr => ∃ k : Nat, k ≤ 64 ∧ i = .int .i64 k ∧ r = .int .i64 (shortD (nums R) k : Nat) ∧ Blk wr (B + 1) 68 (padded I64 67 (odL (nums R) k)) ∧ Blk wr B 68 zero67 ∧ Below B w wr) (fun _ i _ => 64 - (intOf i).toNat)
  case atStart => exact ⟨0, by omega, rfl, rfl, by rw [show odL (nums R) 0 = [] from rfl, padded_nil]; exact hD6, hO6, hB7⟩
  case round =>
    clear hO6 hD6 hB7
    obtain ⟨k, hk, rfl, rfl, hD, hO, hB⟩ := hrel
    by_cases hlt : k < 64
    · have hlt' : (k : Int) < 64 := by omega
      have hlen := odL_length (nums R) k
      have hsl := shortD_le (h := nums R) k
      have HX : Hid (hexd (nums R) k ≤ 15) := Lib.hid (hexd_le (nums_lt R) k)
      have HSS := Lib.hid (show shortD (nums R) (k + 1) = shortD (nums R) k + (15 - hexd (nums R) k) from rfl)
      have HLS : Hid (odL (nums R) (k + 1) = odL (nums R) k ++ [hexd (nums R) k]) := Lib.hid (by rw [odL_succ]; congr 2; exact if_pos hlt)
      have hP := padded_set I64 (m := 67) (l := odL (nums R) k) (by omega) (hexd (nums R) k)
      rw [hlen, ← HLS.out] at hP
      obtain ⟨PV, hPV⟩ : ∃ PV, padded I64 67 (odL (nums R) k) = PV := ⟨_, rfl⟩
      rw [hPV] at hD hP
      have HP := Lib.hid hP
      have hD1 := hD.set_ k (I64 (hexd (nums R) k))
      have hB1 := hB.setCell (p := ⟨B + 1, k, none⟩) (by show B ≤ B + 1; omega) (I64 (hexd (nums R) k))
      have hO1 := hO.far (p := ⟨B + 1, k, none⟩) (by show B ≠ B + 1; omega) (I64 (hexd (nums R) k))
      have hpz : PV.size = 67 := by rw [← hPV]; exact padded_size I64 (by rw [hlen]; omega)
      have hc1 : (wr.setCell ⟨B + 1, k, none⟩ (.int .i64 (hexd (nums R) k : Nat))).cell? ⟨B + 1, k, none⟩ = some (.int .i64 (hexd (nums R) k : Nat)) := by
        have := hD1.cell k
        rw [Array.getElem?_setIfInBounds_self_of_lt (by rw [hpz]; omega)] at this
        exact this
      obtain ⟨v0, hv0⟩ : ∃ v0, PV[k]? = some v0 := ⟨_, Array.getElem?_eq_getElem (by rw [hpz]; omega)⟩
      have hc0 : wr.cell? ⟨B + 1, k, none⟩ = some v0 := (hD.cell k).trans hv0
      have hf0 := hD.frozen k
      have HD1 := Lib.hid hD1; have HB1 := Lib.hid hB1; have HO1 := Lib.hid hO1
      clear hPV hlen hP hD hB hO hD1 hB1 hO1 hpz hv0
      obtain ⟨j, hj⟩ : ∃ j, k / 2 = j := ⟨_, rfl⟩
      have e1 : (k : Int) / 2 = (j : Int) := by omega
      have hx := str_index R j (by omega)
      have hx256 : (nums R).getD j 0 < 256 := by
        rw [List.getD_eq_getElem?_getD, List.getElem?_eq_getElem (by rw [nums_length]; omega)]
        exact nums_lt R _ (List.getElem_mem _)
      rcases Nat.mod_two_eq_zero_or_one k with hpar | hpar
      · have e2 : (k : Int) % 2 = 0 := by omega
        have e3 : (((nums R).getD j 0 : Nat) : Int) / 16 = (hexd (nums R) k : Nat) := by unfold hexd; rw [if_pos hpar, hj]; omega
        generalize hexd (nums R) k = d at *
        generalize shortD (nums R) k = sh at *
        generalize (nums R).getD j 0 = x at *
        have hdle := HX.out
        go_wp2
        go_roundw
        case rel => exact ⟨k + 1, by omega, by go_num, by rw [HSS.out]; go_num, by rw [← HP.out]; exact HD1.out, HO1.out, HB1.out⟩
        case measure => simp [intOf]; omega
      · have e2 : (k : Int) % 2 = 1 := by omega
        have e3 : (((nums R).getD j 0 : Nat) : Int) % 16 = (hexd (nums R) k : Nat) := by unfold hexd; rw [if_neg (by omega), hj]; omega
        generalize hexd (nums R) k = d at *
        generalize shortD (nums R) k = sh at *
        generalize (nums R).getD j 0 = x at *
        have hdle := HX.out
        go_wp2
        go_roundw
        case rel => exact ⟨k + 1, by omega, by go_num, by rw [HSS.out]; go_num, by rw [← HP.out]; exact HD1.out, HO1.out, HB1.out⟩
        case measure => simp [intOf]; omega
    · obtain rfl : k = 64 := by omega
      clear hlt hk
      rw [show ((64 : Nat) : Int) = 64 from rfl]
      have hsl := shortD_le (h := nums R) 64
      have hd0 : digD (nums R) 64 = shortD (nums R) 64 / 256 := by unfold digD; rw [if_neg (by decide)]; show _ / 256 % 16 = _; omega
      have hd1 : digD (nums R) 65 = shortD (nums R) 64 / 16 % 16 := by unfold digD; rw [if_neg (by decide)]
      have hd2 : digD (nums R) 66 = shortD (nums R) 64 % 16 := by unfold digD; rw [if_neg (by decide)]; show _ / 1 % 16 = _; rw [Nat.div_one]
      generalize shortD (nums R) 64 = sh at *
      obtain ⟨PV, hPV⟩ : ∃ PV, padded I64 67 (odL (nums R) 64) = PV := ⟨_, rfl⟩
      have hpz : PV.size = 67 := by rw [← hPV]; exact padded_size I64 (by rw [odL_length]; omega)
      have hP : ((PV.setIfInBounds 64 (I64 (sh / 256))).setIfInBounds 65 (I64 (sh / 16 % 16))).setIfInBounds 66 (I64 (sh % 16)) = OV := by
        have p0 := padded_set I64 (m := 67) (l := odL (nums R) 64) (by rw [odL_length]; omega) (digD (nums R) 64)
        have p1 := padded_set I64 (m := 67) (l := odL (nums R) 65) (by rw [odL_length]; omega) (digD (nums R) 65)
        have p2 := padded_set I64 (m := 67) (l := odL (nums R) 66) (by rw [odL_length]; omega) (digD (nums R) 66)
        rw [odL_length, ← odL_succ] at p0 p1 p2
        rw [← hd0, ← hd1, ← hd2, ← hPV, p0, p1, p2, HV.out, padded_full I64 (odL_length _ _)]
      rw [hPV] at hD
      have HP := Lib.hid hP
      have hDa := hD.set_ 64 (I64 (sh / 256))
      have hBa := hB.setCell (p := ⟨B + 1, 64, none⟩) (by show B ≤ B + 1; omega) (I64 (sh / 256))
      have hOa := hO.far (p := ⟨B + 1, 64, none⟩) (by show B ≠ B + 1; omega) (I64 (sh / 256))
      have hDb := hDa.set_ 65 (I64 (sh / 16 % 16))
      have hBb := hBa.setCell (p := ⟨B + 1, 65, none⟩) (by show B ≤ B + 1; omega) (I64 (sh / 16 % 16))
      have hOb := hOa.far (p := ⟨B + 1, 65, none⟩) (by show B ≠ B + 1; omega) (I64 (sh / 16 % 16))
      have hDc := hDb.set_ 66 (I64 (sh % 16))
      have hBc := hBb.setCell (p := ⟨B + 1, 66, none⟩) (by show B ≤ B + 1; omega) (I64 (sh % 16))
      have hOc := hOb.far (p := ⟨B + 1, 66, none⟩) (by show B ≠ B + 1; omega) (I64 (sh % 16))
      rw [HP.out] at hDc
      obtain ⟨v0, c0⟩ : ∃ v0, wr.cell? ⟨B + 1, 64, none⟩ = some v0 := ⟨_, (hD.cell 64).trans (Array.getElem?_eq_getElem (by omega))⟩
      obtain ⟨v1, c1⟩ : ∃ v1, (wr.setCell ⟨B + 1, 64, none⟩ (I64 (sh / 256))).cell? ⟨B + 1, 65, none⟩ = some v1 := ⟨_, (hDa.cell 65).trans (Array.getElem?_eq_getElem (by simp; omega))⟩
      obtain ⟨v2, c2⟩ : ∃ v2, ((wr.setCell ⟨B + 1, 64, none⟩ (I64 (sh / 256))).setCell ⟨B + 1, 65, none⟩ (I64 (sh / 16 % 16))).cell? ⟨B + 1, 66, none⟩ = some v2 := ⟨_, (hDb.cell 66).trans (Array.getElem?_eq_getElem (by simp; omega))⟩
      have f0 := hD.frozen 64
      have f1 := hDa.frozen 65
      have f2 := hDb.frozen 66
      have HI : Hid ((Try.prog.info? 68).map (·.size) = some OV.size) := Lib.hid (by rw [HV.out, info67]; simp [odL_length])
      have HO : Hid (zero67.size = OV.size) := Lib.hid (by rw [HV.out]; simp [odL_length, zero67])
      have H1 : Hid (OV.all (·.oneCell') = true) := Lib.hid (by rw [HV.out]; exact i64_one _)
      have e0 : (sh : Int) / 256 = ((sh / 256 : Nat) : Int) := by omega
      have e1 : (sh : Int) / 16 % 16 = ((sh / 16 % 16 : Nat) : Int) := by omega
      have e2 : (sh : Int) % 16 = ((sh % 16 : Nat) : Int) := by omega
      clear hD hDa hDb hO hOa hOb hB hBa hBb hP hPV hpz hd0 hd1 hd2
      unfold I64 at hDc hBc hOc c1 c2 f1 f2
      clear HP
      generalize sh / 256 = s0 at *
      generalize sh / 16 % 16 = s1 at *
      generalize sh % 16 = s2 at *
      go_wp2_with (first
        | (show wpList _ _ _ (⟨some 53, _, _, _, _, _⟩ :: _) _ _; refine wpList_load_row rfl 68 _ rfl (B + 1) rfl 68 OV (0, 0) _ hDc Try.underlying68 rfl HI.out ?_)
        | (show wpList _ _ _ (⟨none, .store 68 _ _, _, _, _, _⟩ :: _) _ _; refine wpList_store_row rfl 68 _ _ rfl B OV rfl rfl 68 zero67 hOc HI.out HO.out H1.out ?_))
      have hO2 := blk_setRow hOc OV
      have hB2 := below_setRow hBc (Nat.le_refl B) OV
      exact bodyPost_ret (results_cell_row rfl _ _ B 68 OV (0, 0) _ rfl hO2 Try.underlying68 rfl HI.out) rfl ⟨rfl, by rw [HBB.out]; exact hB2⟩
end Go.Proofs.Ytbkmclgddknijaa

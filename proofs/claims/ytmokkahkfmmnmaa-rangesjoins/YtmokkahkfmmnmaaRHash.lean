/-
  Whether all hashes have thirty-two bytes: the program's, the reference's; and that the program is awake.
-/
import Derived.Test.YtmokkahkfmmnmaaRInt
import Derived.Test.YtmokkahkfmmnmaaRLen
import Derived.Test.YtmokkahkfmmnmaaHStep
namespace Go.Proofs.Ytmokkahkfmmnmaa
open Go.RowKit

def allH (ss : List ByteArray) : Bool := decide (∀ i, i < ss.length → (ss.getD i ByteArray.empty).size = 32)
theorem allH_false {ss : List ByteArray} {i : Nat} (hi : i < ss.length) (h : (ss.getD i ByteArray.empty).size ≠ 32) : allH ss = false := decide_eq_false fun k => h (k i hi)
theorem allH_true {ss : List ByteArray} (h : ∀ i, i < ss.length → (ss.getD i ByteArray.empty).size = 32) : allH ss = true := decide_eq_true h
theorem ss_size {ss : List ByteArray} (hsz : ∀ s ∈ ss, s.size ≤ 9223372036854775807) (i : Nat) : (ss.getD i ByteArray.empty).size ≤ 9223372036854775807 := by
  rw [List.getD_eq_getElem?_getD]
  cases e : ss[i]? with
  | none => exact Nat.zero_le _
  | some x => exact hsz x (List.mem_of_getElem? e)
set_option maxRecDepth 100000 in
set_option maxHeartbeats 1000000 in
theorem hashes_any (oa : Option Addr) (n cap : Nat) (ss : List ByteArray) (hn : ss.length = n) (hm : n ≤ 9223372036854775807) (hsz : ∀ s ∈ ss, s.size ≤ 9223372036854775807) (w : World) (hc : Strs w oa ss) :
    Calls Try.prog 23 #[.slice oa n cap] w fun e w' => e = .returned (.bool (allH ss)) ∧ w' = w := by
  have HN := Lib.hid hn
  have HC := Lib.hid hc
  have HSZ := Lib.hid (ss_size hsz)
  obtain ⟨A, hA⟩ : ∃ A, allH ss = A := ⟨_, rfl⟩
  rw [hA]
  have HA := Lib.hid hA
  clear hn hc hsz hA
  go_enter Try.func23, Try.ntmps23
  go_wp2
  go_loop [3] (fun i => ∃ j : Nat, j ≤ n ∧ i = .int .i64 j ∧ ∀ q, q < j → (ss.getD q ByteArray.empty).size = 32) (fun i => n - (intOf i).toNat)
  case atStart => exact ⟨0, by omega, rfl, fun q hq => absurd hq (by omega)⟩
  case round =>
    obtain ⟨j, hj, rfl, hall⟩ := hrel
    have HL := Lib.hid hall
    clear hall
    by_cases hlt : j < n
    · have hlt1 : (j : Int) < (n : Int) := by omega
      obtain ⟨a, rfl, hab, hcell⟩ := HC.out j (by have := HN.out; omega)
      have hxz := HSZ.out j
      by_cases hz : (ss.getD j ByteArray.empty).size = 32
      · have HZ := Lib.hid hz
        obtain ⟨x, hx⟩ : ∃ x, ss.getD j ByteArray.empty = x := ⟨_, rfl⟩
        rw [hx] at hcell HZ hxz hz
        have hz' : ((x.size : Int) != 32) = false := by rw [hz]; rfl
        have HX := Lib.hid hx
        clear hx hz
        go_wp2
        go_round
        case rel =>
          refine ⟨j + 1, by omega, by go_num, fun q hq => ?_⟩
          rcases Nat.lt_or_ge q j with h | h
          · exact HL.out q h
          · obtain rfl : q = j := by omega
            rw [HX.out]; exact HZ.out
        case measure => simp [intOf]; omega
      · have HF := Lib.hid (allH_false (by have := HN.out; omega) hz)
        obtain ⟨x, hx⟩ : ∃ x, ss.getD j ByteArray.empty = x := ⟨_, rfl⟩
        rw [hx] at hcell hxz hz
        have hz' : ((x.size : Int) != 32) = true := by rw [bne_iff_ne]; omega
        clear hx hz
        go_wp2
        go_ret
        exact ⟨boolEq (HF.out.symm.trans HA.out), rfl⟩
    · have hlt1 : ¬ (j : Int) < (n : Int) := by omega
      have HF := Lib.hid (allH_true (ss := ss) (fun i hi => HL.out i (by have := HN.out; omega)))
      go_wp2
      go_ret
      exact ⟨boolEq (HF.out.symm.trans HA.out), rfl⟩
set_option maxRecDepth 100000 in
theorem right1_any (x : ByteArray) (_hx : x.size ≤ 9223372036854775807) (b : Bool) (hb : ((x.size : Int) != 32) = b) (w : World) : Calls Try.prog 31 #[.string x] w fun e w' => e = .returned (.bool b) ∧ w' = w := by
  go_enter Try.func31, Try.ntmps31
  go_wp2
  go_ret
  exact ⟨rfl, rfl⟩
set_option maxRecDepth 100000 in
set_option maxHeartbeats 1000000 in
theorem indexFunc_any (oa : Option Addr) (n cap : Nat) (ss : List ByteArray) (hn : ss.length = n) (hm : n ≤ 9223372036854775807) (hsz : ∀ s ∈ ss, s.size ≤ 9223372036854775807) (w : World) (hc : Strs w oa ss) :
    Calls Try.prog 48 #[.slice oa n cap, .func (.func 31) #[] #[]] w fun e w' => ∃ y : Int, e = .returned (.int .i64 y) ∧ Hid (decide (0 ≤ y) = !allH ss) ∧ w' = w := by
  have HN := Lib.hid hn
  have HC := Lib.hid hc
  have HSZ := Lib.hid (ss_size hsz)
  obtain ⟨A, hA⟩ : ∃ A, allH ss = A := ⟨_, rfl⟩
  rw [hA]
  have HA := Lib.hid hA
  clear hn hc hsz hA
  go_enter Try.func48, Try.ntmps48
  go_wp2
  go_loop [8] (fun i => ∃ j : Nat, j ≤ n ∧ i = .int .i64 j ∧ ∀ q, q < j → (ss.getD q ByteArray.empty).size = 32) (fun i => n - (intOf i).toNat)
  case atStart => exact ⟨0, by omega, rfl, fun q hq => absurd hq (by omega)⟩
  case round =>
    obtain ⟨j, hj, rfl, hall⟩ := hrel
    have HL := Lib.hid hall
    clear hall
    by_cases hlt : j < n
    · have hlt1 : (j : Int) < (n : Int) := by omega
      obtain ⟨a, rfl, hab, hcell⟩ := HC.out j (by have := HN.out; omega)
      have hxz := HSZ.out j
      by_cases hz : (ss.getD j ByteArray.empty).size = 32
      · have HZ := Lib.hid hz
        obtain ⟨x, hx⟩ : ∃ x, ss.getD j ByteArray.empty = x := ⟨_, rfl⟩
        rw [hx] at hcell HZ hxz hz
        have HR := Lib.hid (fun W => right1_any x hxz false (by rw [hz]; rfl) W)
        have HX := Lib.hid hx
        clear hx hz
        go_wp2_with (go_at_call 31; refine (HR.out _).mono ?_; rintro e w' ⟨rfl, rfl⟩)
        go_round
        case rel =>
          refine ⟨j + 1, by omega, by go_num, fun q hq => ?_⟩
          rcases Nat.lt_or_ge q j with h | h
          · exact HL.out q h
          · obtain rfl : q = j := by omega
            rw [HX.out]; exact HZ.out
        case measure => simp [intOf]; omega
      · have HF := Lib.hid (allH_false (by have := HN.out; omega) hz)
        obtain ⟨x, hx⟩ : ∃ x, ss.getD j ByteArray.empty = x := ⟨_, rfl⟩
        rw [hx] at hcell hxz hz
        have HR := Lib.hid (fun W => right1_any x hxz true (by rw [bne_iff_ne]; omega) W)
        clear hx hz
        go_wp2_with (go_at_call 31; refine (HR.out _).mono ?_; rintro e w' ⟨rfl, rfl⟩)
        go_ret
        exact ⟨_, rfl, Lib.hid (by rw [← HA.out, HF.out]; simp), rfl⟩
    · have hlt1 : ¬ (j : Int) < (n : Int) := by omega
      have HF := Lib.hid (allH_true (ss := ss) (fun i hi => HL.out i (by have := HN.out; omega)))
      go_wp2
      go_ret
      exact ⟨_, rfl, Lib.hid (by rw [← HA.out, HF.out]; rfl), rfl⟩
set_option maxRecDepth 100000 in
theorem containsFunc_any (oa : Option Addr) (n cap : Nat) (ss : List ByteArray) (hn : ss.length = n) (hm : n ≤ 9223372036854775807) (hsz : ∀ s ∈ ss, s.size ≤ 9223372036854775807) (w : World) (hc : Strs w oa ss) :
    Calls Try.prog 30 #[.slice oa n cap, .func (.func 31) #[] #[]] w fun e w' => e = .returned (.bool (!allH ss)) ∧ w' = w := by
  have H := Lib.hid (indexFunc_any oa n cap ss hn hm hsz w hc)
  clear hn hsz hc
  generalize (!allH ss) = A at *
  go_enter Try.func30, Try.ntmps30
  go_wp2_with fail
  refine H.out.mono ?_
  rintro e w' ⟨y, rfl, HY, rfl⟩
  go_wp2
  go_ret
  exact ⟨boolEq HY.out, rfl⟩
theorem strL_five : strL 5 = [4, 1] := by
  rw [strL_at (k := 2) (by decide) (by decide), strL_at (n := 5 - 2 ^ 2) (k := 0) (by decide) (by decide), show 5 - 2 ^ 2 - 2 ^ 0 = 0 from rfl, strL_zero]
set_option maxRecDepth 100000 in
theorem awake6_any (w : World) : Calls Try.prog 8 #[] w fun e w' => e = .returned (.bool true) ∧ Below w.heap.size w w' := by
  have H := Lib.hid (stretches_any (Lib.hid lenOf) 5 (by decide) w)
  rw [show (5 : Int).toNat = 5 from rfl, strL_five] at H
  go_enter Try.func8, Try.ntmps8
  go_wp2_with fail
  refine H.out.mono ?_
  rintro e w1 ⟨v, rfl, hv, hb⟩
  obtain ⟨g, cap, rfl, _, hcap, _, hI⟩ := hv.row (by decide)
  have h0 : w1.cell? ⟨g, 0, none⟩ = some (.int .i64 4) := hI 0 (by decide)
  have h1 : w1.cell? ⟨g, 1, none⟩ = some (.int .i64 1) := hI 1 (by decide)
  clear hI hv H
  go_wp2
  go_ret
  exact ⟨rfl, hb⟩
end Go.Proofs.Ytmokkahkfmmnmaa

/-
  Layer 9: whether texts are hashes.
-/
import Derived.Test.YtjdjndginacdnaaTxt
import Derived.OwnWalk
namespace Go.Proofs.Ytjdjndginacdnaa
open Go.RowKit

def allC (ss : List ByteArray) : Bool := decide (∀ i, i < ss.length → (ss.getD i ByteArray.empty).size = 32)
theorem allC_false {ss : List ByteArray} {i : Nat} (hi : i < ss.length) (h : (ss.getD i ByteArray.empty).size ≠ 32) : allC ss = false := decide_eq_false fun k => h (k i hi)
theorem allC_true {ss : List ByteArray} (h : ∀ i, i < ss.length → (ss.getD i ByteArray.empty).size = 32) : allC ss = true := decide_eq_true h
theorem ss_sizeC {ss : List ByteArray} (hsz : ∀ s ∈ ss, s.size ≤ 9223372036854775807) (i : Nat) : (ss.getD i ByteArray.empty).size ≤ 9223372036854775807 := by
  rw [List.getD_eq_getElem?_getD]
  cases e : ss[i]? with
  | none => exact Nat.zero_le _
  | some x => exact hsz x (List.mem_of_getElem? e)
theorem hash1_any (x : ByteArray) (_hx : x.size ≤ 9223372036854775807) (b : Bool) (hb : ((x.size : Int) != 32) = b) (w : World) : Calls Try.prog 73 #[.string x] w fun e w' => e = .returned (.bool b) ∧ w' = w := by
  go_enter Try.func73, Try.ntmps73
  go_wp2
  go_ret
  exact ⟨rfl, rfl⟩
set_option maxRecDepth 100000 in
set_option maxHeartbeats 1000000 in
theorem cindexFunc_any (oa : Option Addr) (n cap : Nat) (ss : List ByteArray) (hn : ss.length = n) (hm : n ≤ 9223372036854775807) (hsz : ∀ s ∈ ss, s.size ≤ 9223372036854775807) (w : World) (hc : Strs w oa ss) :
    Calls Try.prog 86 #[.slice oa n cap, .func (.func 73) #[] #[]] w fun e w' => ∃ y : Int, e = .returned (.int .i64 y) ∧ Hid (decide (0 ≤ y) = !allC ss) ∧ w' = w := by
  have HN := Lib.hid hn
  have HC := Lib.hid hc
  have HSZ := Lib.hid (ss_sizeC hsz)
  obtain ⟨A, hA⟩ : ∃ A, allC ss = A := ⟨_, rfl⟩
  rw [hA]
  have HA := Lib.hid hA
  clear hn hc hsz hA
  go_enter Try.func86, Try.ntmps86
  go_wp2
  go_loop [8] (fun i => ∃ j : Nat, j ≤ n ∧ i = .int .i64 j ∧ ∀ q, q < j → (ss.getD q ByteArray.empty).size = 32) (fun i => n - (intOf i).toNat)
  case atStart => exact ⟨0, by omega, rfl, fun q hq => absurd hq (by omega)⟩
  case round =>
    obtain ⟨j, hj, rfl, hall⟩ := hrel
    have HL := Lib.hid hall
    clear hall
    by_cases hlt : j < n
    · have hlt1 : (j : Int) < (n : Int) := by omega
      obtain ⟨a, rfl, hab, hcell⟩ := HC.out j (by have := HN.out; omega)
      have hxz := HSZ.out j
      by_cases hz : (ss.getD j ByteArray.empty).size = 32
      · have HZ := Lib.hid hz
        obtain ⟨x, hx⟩ : ∃ x, ss.getD j ByteArray.empty = x := ⟨_, rfl⟩
        rw [hx] at hcell HZ hxz hz
        have HR := Lib.hid (fun W => hash1_any x hxz false (by rw [hz]; rfl) W)
        have HX := Lib.hid hx
        clear hx hz
        go_wp2_with (go_at_call 73; refine (HR.out _).mono ?_; rintro e w' ⟨rfl, rfl⟩)
        go_round
        case rel =>
          refine ⟨j + 1, by omega, by go_num, fun q hq => ?_⟩
          rcases Nat.lt_or_ge q j with h | h
          · exact HL.out q h
          · obtain rfl : q = j := by omega
            rw [HX.out]; exact HZ.out
        case measure => simp [intOf]; omega
      · have HF := Lib.hid (allC_false (by have := HN.out; omega) hz)
        obtain ⟨x, hx⟩ : ∃ x, ss.getD j ByteArray.empty = x := ⟨_, rfl⟩
        rw [hx] at hcell hxz hz
        have HR := Lib.hid (fun W => hash1_any x hxz true (by rw [bne_iff_ne]; omega) W)
        clear hx hz
        go_wp2_with (go_at_call 73; refine (HR.out _).mono ?_; rintro e w' ⟨rfl, rfl⟩)
        go_ret
        exact ⟨_, rfl, Lib.hid (by rw [← HA.out, HF.out]; simp), rfl⟩
    · have hlt1 : ¬ (j : Int) < (n : Int) := by omega
      have HF := Lib.hid (allC_true (ss := ss) (fun i hi => HL.out i (by have := HN.out; omega)))
      go_wp2
      go_ret
      exact ⟨_, rfl, Lib.hid (by rw [← HA.out, HF.out]; rfl), rfl⟩
set_option maxRecDepth 100000 in
theorem ccontainsFunc_any (oa : Option Addr) (n cap : Nat) (ss : List ByteArray) (hn : ss.length = n) (hm : n ≤ 9223372036854775807) (hsz : ∀ s ∈ ss, s.size ≤ 9223372036854775807) (w : World) (hc : Strs w oa ss) :
    Calls Try.prog 72 #[.slice oa n cap, .func (.func 73) #[] #[]] w fun e w' => e = .returned (.bool (!allC ss)) ∧ w' = w := by
  have H := Lib.hid (cindexFunc_any oa n cap ss hn hm hsz w hc)
  clear hn hsz hc
  generalize (!allC ss) = A at *
  go_enter Try.func72, Try.ntmps72
  go_wp2_with fail
  refine H.out.mono ?_
  rintro e w' ⟨y, rfl, HY, rfl⟩
  go_wp2
  go_ret
  exact ⟨boolEq HY.out, rfl⟩
set_option maxRecDepth 100000 in
theorem are9_any (oa : Option Addr) (n cap : Nat) (ss : List ByteArray) (hn : ss.length = n) (hm : n ≤ 9223372036854775807) (hsz : ∀ s ∈ ss, s.size ≤ 9223372036854775807) (w : World) (hc : Strs w oa ss) :
    Calls Try.prog 50 #[.slice oa n cap] w fun e w' => e = .returned (.bool (allC ss)) ∧ w' = w := by
  have H := Lib.hid (ccontainsFunc_any oa n cap ss hn hm hsz w hc)
  clear hn hsz hc
  generalize allC ss = A at *
  go_enter Try.func50, Try.ntmps50
  go_wp2_with fail
  refine H.out.mono ?_
  rintro e w' ⟨rfl, rfl⟩
  go_wp2
  go_ret
  exact ⟨boolEq (by cases A <;> rfl), rfl⟩
end Go.Proofs.Ytjdjndginacdnaa

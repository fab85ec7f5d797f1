/-
  Layer 8: whether a proof has just as many hashes; whether a way goes right anywhere.
-/
import Derived.Test.YtfhfmfcmkiobdaaCWay
namespace Go.Proofs.Ytfhfmfcmkiobdaa
open Go.RowKit

def allC (ss : List ByteArray) : Bool := decide (∀ i, i < ss.length → (ss.getD i ByteArray.empty).size = 32)
theorem allC_false {ss : List ByteArray} {i : Nat} (hi : i < ss.length) (h : (ss.getD i ByteArray.empty).size ≠ 32) : allC ss = false := decide_eq_false fun k => h (k i hi)
theorem allC_true {ss : List ByteArray} (h : ∀ i, i < ss.length → (ss.getD i ByteArray.empty).size = 32) : allC ss = true := decide_eq_true h
theorem ss_sizeC {ss : List ByteArray} (hsz : ∀ s ∈ ss, s.size ≤ 9223372036854775807) (i : Nat) : (ss.getD i ByteArray.empty).size ≤ 9223372036854775807 := by
  rw [List.getD_eq_getElem?_getD]
  cases e : ss[i]? with
  | none => exact Nat.zero_le _
  | some x => exact hsz x (List.mem_of_getElem? e)
theorem hash1_any (x : ByteArray) (_hx : x.size ≤ 9223372036854775807) (b : Bool) (hb : ((x.size : Int) != 32) = b) (w : World) : Calls Try.prog 52 #[.string x] w fun e w' => e = .returned (.bool b) ∧ w' = w := by
  go_enter Try.func52, Try.ntmps52
  go_wp2
  go_ret
  exact ⟨rfl, rfl⟩
set_option maxRecDepth 100000 in
set_option maxHeartbeats 1000000 in
theorem cindexFunc_any (oa : Option Addr) (n cap : Nat) (ss : List ByteArray) (hn : ss.length = n) (hm : n ≤ 9223372036854775807) (hsz : ∀ s ∈ ss, s.size ≤ 9223372036854775807) (w : World) (hc : Strs w oa ss) :
    Calls Try.prog 55 #[.slice oa n cap, .func (.func 52) #[] #[]] w fun e w' => ∃ y : Int, e = .returned (.int .i64 y) ∧ Hid (decide (0 ≤ y) = !allC ss) ∧ w' = w := by
  have HN := Lib.hid hn
  have HC := Lib.hid hc
  have HSZ := Lib.hid (ss_sizeC hsz)
  obtain ⟨A, hA⟩ : ∃ A, allC ss = A := ⟨_, rfl⟩
  rw [hA]
  have HA := Lib.hid hA
  clear hn hc hsz hA
  go_enter Try.func55, Try.ntmps55
  go_wp2
  go_loop [8] (fun i => ∃ j : Nat, j ≤ n ∧ i = .int .i64 j ∧ ∀ q, q < j → (ss.getD q ByteArray.empty).size = 32) (fun i => n - (intOf i).toNat)
  case atStart => exact ⟨0, by omega, rfl, fun q hq => absurd hq (by omega)⟩
  case round =>
    obtain ⟨j, hj, rfl, hall⟩ := hrel
    have HL := Lib.hid hall
    clear hall
    by_cases hlt : j < n
    · have hlt1 : (j : Int) < (n : Int) := by omega
      obtain ⟨a, rfl, hab, hcell⟩ := HC.out j (by have := HN.out; omega)
      have hxz := HSZ.out j
      by_cases hz : (ss.getD j ByteArray.empty).size = 32
      · have HZ := Lib.hid hz
        obtain ⟨x, hx⟩ : ∃ x, ss.getD j ByteArray.empty = x := ⟨_, rfl⟩
        rw [hx] at hcell HZ hxz hz
        have HR := Lib.hid (fun W => hash1_any x hxz false (by rw [hz]; rfl) W)
        have HX := Lib.hid hx
        clear hx hz
        go_wp2_with (go_at_call 52; refine (HR.out _).mono ?_; rintro e w' ⟨rfl, rfl⟩)
        go_round
        case rel =>
          refine ⟨j + 1, by omega, by go_num, fun q hq => ?_⟩
          rcases Nat.lt_or_ge q j with h | h
          · exact HL.out q h
          · obtain rfl : q = j := by omega
            rw [HX.out]; exact HZ.out
        case measure => simp [intOf]; omega
      · have HF := Lib.hid (allC_false (by have := HN.out; omega) hz)
        obtain ⟨x, hx⟩ : ∃ x, ss.getD j ByteArray.empty = x := ⟨_, rfl⟩
        rw [hx] at hcell hxz hz
        have HR := Lib.hid (fun W => hash1_any x hxz true (by rw [bne_iff_ne]; omega) W)
        clear hx hz
        go_wp2_with (go_at_call 52; refine (HR.out _).mono ?_; rintro e w' ⟨rfl, rfl⟩)
        go_ret
        exact ⟨_, rfl, Lib.hid (by rw [← HA.out, HF.out]; simp), rfl⟩
    · have hlt1 : ¬ (j : Int) < (n : Int) := by omega
      have HF := Lib.hid (allC_true (ss := ss) (fun i hi => HL.out i (by have := HN.out; omega)))
      go_wp2
      go_ret
      exact ⟨_, rfl, Lib.hid (by rw [← HA.out, HF.out]; rfl), rfl⟩
set_option maxRecDepth 100000 in
theorem ccontainsFunc_any (oa : Option Addr) (n cap : Nat) (ss : List ByteArray) (hn : ss.length = n) (hm : n ≤ 9223372036854775807) (hsz : ∀ s ∈ ss, s.size ≤ 9223372036854775807) (w : World) (hc : Strs w oa ss) :
    Calls Try.prog 51 #[.slice oa n cap, .func (.func 52) #[] #[]] w fun e w' => e = .returned (.bool (!allC ss)) ∧ w' = w := by
  have H := Lib.hid (cindexFunc_any oa n cap ss hn hm hsz w hc)
  clear hn hsz hc
  generalize (!allC ss) = A at *
  go_enter Try.func51, Try.ntmps51
  go_wp2_with fail
  refine H.out.mono ?_
  rintro e w' ⟨y, rfl, HY, rfl⟩
  go_wp2
  go_ret
  exact ⟨boolEq HY.out, rfl⟩
set_option maxRecDepth 100000 in
theorem areHashes_any (oa : Option Addr) (n cap c : Nat) (hcc : c ≤ 1048578) (ss : List ByteArray) (hn : ss.length = n) (hm : n ≤ 9223372036854775807) (hsz : ∀ s ∈ ss, s.size ≤ 9223372036854775807) (w : World) (hc : Strs w oa ss) :
    Calls Try.prog 38 #[.slice oa n cap, .int .i64 c] w fun e w' => e = .returned (.bool (decide (n = c) && allC ss)) ∧ w' = w := by
  have H := Lib.hid (ccontainsFunc_any oa n cap ss hn hm hsz w hc)
  clear hn hsz hc
  generalize allC ss = A at *
  by_cases he : n = c
  · subst he
    rw [decide_eq_true rfl, Bool.true_and]
    have h1 : ((n : Int) != (n : Int)) = false := by simp
    go_enter Try.func38, Try.ntmps38
    go_wp2_with fail
    refine H.out.mono ?_
    rintro e w' ⟨rfl, rfl⟩
    go_wp2
    go_ret
    exact ⟨boolEq (by cases A <;> rfl), rfl⟩
  · rw [decide_eq_false he, Bool.false_and]
    have h1 : ((n : Int) != (c : Int)) = true := by rw [bne_iff_ne]; omega
    go_enter Try.func38, Try.ntmps38
    go_wp2
    go_ret
    exact ⟨rfl, rfl⟩
theorem getD_mem {bs : List Bool} {j : Nat} (h : j < bs.length) (hb : bs.getD j false = true) : bs.contains true = true := by
  rw [List.getD_eq_getElem?_getD, List.getElem?_eq_getElem h] at hb
  simp at hb ⊢
  exact hb ▸ List.getElem_mem h
theorem none_right {bs : List Bool} (h : ∀ q, q < bs.length → bs.getD q false = false) : bs.contains true = false := by
  rw [Bool.eq_false_iff]
  intro hc
  simp at hc
  obtain ⟨j, hj, e⟩ := List.getElem_of_mem hc
  have := h j hj
  rw [List.getD_eq_getElem?_getD, List.getElem?_eq_getElem hj] at this
  simp [e] at this
set_option maxRecDepth 100000 in
set_option maxHeartbeats 1000000 in
theorem bindex_any (oa : Option Addr) (n cap : Nat) (bs : List Bool) (hn : bs.length = n) (hm : n ≤ 9223372036854775807) (w : World) (hc : Bools w oa bs) :
    Calls Try.prog 49 #[.slice oa n cap, .bool true] w fun e w' => ∃ y : Int, e = .returned (.int .i64 y) ∧ Hid (decide (0 ≤ y) = bs.contains true) ∧ w' = w := by
  have HN := Lib.hid hn
  have HC := Lib.hid hc
  obtain ⟨A, hA⟩ : ∃ A, bs.contains true = A := ⟨_, rfl⟩
  rw [hA]
  have HA := Lib.hid hA
  clear hn hc hA
  go_enter Try.func49, Try.ntmps49
  go_wp2
  go_loop [8] (fun i => ∃ j : Nat, j ≤ n ∧ i = .int .i64 j ∧ ∀ q, q < j → bs.getD q false = false) (fun i => n - (intOf i).toNat)
  case atStart => exact ⟨0, by omega, rfl, fun q hq => absurd hq (by omega)⟩
  case round =>
    obtain ⟨j, hj, rfl, hall⟩ := hrel
    have HL := Lib.hid hall
    clear hall
    by_cases hlt : j < n
    · have hlt1 : (j : Int) < (n : Int) := by omega
      obtain ⟨a, rfl, hab, hcell⟩ := HC.out j (by have := HN.out; omega)
      obtain ⟨x, hx⟩ : ∃ x, bs.getD j false = x := ⟨_, rfl⟩
      rw [hx] at hcell
      have HX := Lib.hid hx
      clear hx
      cases x
      · go_wp2
        go_round
        case rel =>
          refine ⟨j + 1, by omega, by go_num, fun q hq => ?_⟩
          rcases Nat.lt_or_ge q j with h | h
          · exact HL.out q h
          · obtain rfl : q = j := by omega
            exact HX.out
        case measure => simp [intOf]; omega
      · have HF := Lib.hid (getD_mem (by have := HN.out; omega) HX.out)
        go_wp2
        go_ret
        exact ⟨_, rfl, Lib.hid (by rw [← HA.out, HF.out]; simp), rfl⟩
    · have hlt1 : ¬ (j : Int) < (n : Int) := by omega
      have HF := Lib.hid (none_right (bs := bs) (fun i hi => HL.out i (by have := HN.out; omega)))
      go_wp2
      go_ret
      exact ⟨_, rfl, Lib.hid (by rw [← HA.out, HF.out]; rfl), rfl⟩
set_option maxRecDepth 100000 in
theorem bcontains_any (oa : Option Addr) (n cap : Nat) (bs : List Bool) (hn : bs.length = n) (hm : n ≤ 9223372036854775807) (w : World) (hc : Bools w oa bs) :
    Calls Try.prog 36 #[.slice oa n cap, .bool true] w fun e w' => e = .returned (.bool (bs.contains true)) ∧ w' = w := by
  have H := Lib.hid (bindex_any oa n cap bs hn hm w hc)
  clear hn hc
  generalize bs.contains true = A at *
  go_enter Try.func36, Try.ntmps36
  go_wp2_with fail
  refine H.out.mono ?_
  rintro e w' ⟨y, rfl, HY, rfl⟩
  go_wp2
  go_ret
  exact ⟨boolEq HY.out, rfl⟩
end Go.Proofs.Ytfhfmfcmkiobdaa

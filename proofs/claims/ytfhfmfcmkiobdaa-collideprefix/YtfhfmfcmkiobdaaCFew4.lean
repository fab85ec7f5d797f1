/-
Layer 8: layer 4's Few (out of its texts).
-/
import Derived.Test.YtfhfmfcmkiobdaaCRef
namespace Go.Proofs.Ytfhfmfcmkiobdaa
open Go.RowKit
/-- texts of a size that is looked at -/
def few4M (ss : List ByteArray) (k sz : Nat) : Bool := decide (ss.length ≤ k ∧ ∀ i, i < ss.length → i < 300 → (ss.getD i ByteArray.empty).size ≤ sz)
theorem few4M_true {ss : List ByteArray} {k sz : Nat} (hk : k ≤ 300) (h : few4M ss k sz = true) : ss.length ≤ k ∧ ∀ x ∈ ss, x.size ≤ sz := by
  unfold few4M at h
  rw [decide_eq_true_iff] at h
  refine ⟨h.1, fun x hx => ?_⟩
  obtain ⟨i, hi, rfl⟩ := List.getElem_of_mem hx
  have := h.2 i hi (by omega)
  rwa [List.getD_eq_getElem?_getD, List.getElem?_eq_getElem hi] at this
set_option maxRecDepth 100000 in
set_option maxHeartbeats 1000000 in
theorem few4_any (oa : Option Addr) (n cap : Nat) (ss : List ByteArray) (hn : ss.length = n) (hm : n ≤ 9223372036854775807) (hsz : ∀ s ∈ ss, s.size ≤ 9223372036854775807) (k sz : Nat) (w : World) (hc : Strs w oa ss) :
    Calls Try.prog 13 #[.slice oa n cap, .int .i64 k, .int .i64 sz] w fun e w' => e = .returned (.bool (few4M ss k sz)) ∧ w' = w := by
  have HN := Lib.hid hn
  have HC := Lib.hid hc
  have HSZ := Lib.hid (show ∀ i, (ss.getD i ByteArray.empty).size ≤ 9223372036854775807 from fun i => by
    rw [List.getD_eq_getElem?_getD]
    cases e : ss[i]? with
    | none => exact Nat.zero_le _
    | some x => exact hsz x (List.mem_of_getElem? e))
  obtain ⟨FM, hFM⟩ : ∃ FM, few4M ss k sz = FM := ⟨_, rfl⟩
  rw [hFM]
  have HFM := Lib.hid hFM
  clear hn hc hsz hFM
  go_enter Try.func13, Try.ntmps13
  go_wp2
  go_loop [7] (fun i => ∃ j : Nat, j ≤ n ∧ j ≤ 300 ∧ i = .int .i64 j ∧ ∀ q, q < j → (ss.getD q ByteArray.empty).size ≤ sz) (fun i => 300 - (intOf i).toNat)
  case atStart => exact ⟨0, by omega, by omega, rfl, fun q hq => absurd hq (by omega)⟩
  case round =>
    obtain ⟨j, hj, hj3, rfl, hall⟩ := hrel
    have HA := Lib.hid hall
    clear hall
    by_cases hlt : j < n ∧ j < 300
    · have hlt1 : (j : Int) < (n : Int) := by omega
      have hlt2 : (j : Int) < 300 := by omega
      obtain ⟨a, rfl, hab, hcell⟩ := HC.out j (by have := HN.out; omega)
      have hxz := HSZ.out j
      by_cases hz : (ss.getD j ByteArray.empty).size ≤ sz
      · have hz' : ¬ (sz : Int) < ((ss.getD j ByteArray.empty).size : Int) := by omega
        have HZ := Lib.hid hz
        clear hz
        obtain ⟨x, hx⟩ : ∃ x, ss.getD j ByteArray.empty = x := ⟨_, rfl⟩
        rw [hx] at hcell hz' hxz HZ
        have HX := Lib.hid hx
        clear hx
        go_wp2
        go_round
        case rel =>
          refine ⟨j + 1, by omega, by omega, by go_num, fun q hq => ?_⟩
          rcases Nat.lt_or_ge q j with h | h
          · exact HA.out q h
          · obtain rfl : q = j := by omega
            rw [HX.out]; exact HZ.out
        case measure => simp [intOf]; omega
      · have hz' : (sz : Int) < ((ss.getD j ByteArray.empty).size : Int) := by omega
        have HF := Lib.hid (show few4M ss k sz = false by
          unfold few4M
          rw [decide_eq_false_iff_not]
          exact fun h => hz (h.2 j (by have := HN.out; omega) hlt.2))
        clear hz
        generalize ss.getD j ByteArray.empty = x at *
        go_wp2
        go_ret
        exact ⟨boolEq (HF.out.symm.trans HFM.out), rfl⟩
    · have HF := Lib.hid (show few4M ss k sz = decide (n ≤ k) by
        unfold few4M
        rw [HN.out]
        refine decide_eq_decide.2 ⟨fun h => by omega, fun h => ⟨by omega, fun i h1 h2 => HA.out i (by omega)⟩⟩)
      by_cases h1 : j < n
      · have h1' : (j : Int) < (n : Int) := by omega
        have h2' : ¬ (j : Int) < 300 := by omega
        go_wp2
        go_ret
        exact ⟨boolEq (HF.out.symm.trans HFM.out), rfl⟩
      · have h1' : ¬ (j : Int) < (n : Int) := by omega
        go_wp2
        go_ret
        exact ⟨boolEq (HF.out.symm.trans HFM.out), rfl⟩
end Go.Proofs.Ytfhfmfcmkiobdaa

/-
  The reference's Same of one list twice.
-/
import Derived.Test.YtjmjkcgldencoaaGreatBaseTxt
namespace Go.Proofs.YtjmjkcgldencoaaGreat
open Go.RowKit

set_option maxRecDepth 100000 in
set_option maxHeartbeats 1000000 in
theorem rsame_eq (oa ob : Option Addr) (n cap cap' : Nat) (ss : List ByteArray) (hn : ss.length = n) (hm : n ≤ 1099511627776) (w : World) (ha : Strs w oa ss) (hb : Strs w ob ss) :
    Calls Tryz.prog 17 #[.slice oa n cap, .slice ob n cap'] w fun e w' => e = .returned (.bool true) ∧ Below w.heap.size w w' := by
  have HA := Lib.hid ha
  have HB := Lib.hid hb
  have HN := Lib.hid hn
  clear ha hb hn
  go_enter Tryz.func17, Tryz.ntmps17
  go_wp2
  go_loopw [5] (fun i wr => ∃ k : Nat, k ≤ n ∧ i = .int .i64 k ∧ Below w.heap.size w wr) (fun i _ => n - (intOf i).toNat)
  case atStart => exact ⟨0, by omega, rfl, Below.refl _ _⟩
  case round =>
    obtain ⟨k, hk, rfl, hB⟩ := hrel
    by_cases hlt : k < n
    · have hlt' : (k : Int) < (n : Int) := by omega
      have hkl : k < ss.length := by have := HN.out; omega
      obtain ⟨a, rfl, hab, hc0⟩ := HA.out k hkl
      obtain ⟨b, rfl, hbb, hd0⟩ := HB.out k hkl
      have hc : wr.cell? (a.add k) = some (.string (ss.getD k ByteArray.empty)) := (hB.cell (by rw [add_block]; exact hab)).trans hc0
      have hd : wr.cell? (b.add k) = some (.string (ss.getD k ByteArray.empty)) := (hB.cell (by rw [add_block]; exact hbb)).trans hd0
      have HBD := Lib.hid (fun q => below_drewN hB q)
      generalize ss.getD k ByteArray.empty = x at *
      clear hc0 hd0 hkl hB
      go_wp2
      go_quiet (fail)
      go_wp2
      go_roundw
      case rel => exact ⟨k + 1, by omega, by go_num, HBD.out _⟩
      case measure => simp [intOf]; omega
    · go_wp2
      go_ret
      exact ⟨rfl, hB⟩
end Go.Proofs.YtjmjkcgldencoaaGreat

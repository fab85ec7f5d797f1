/-
  The walk of the law ShaSums.
-/
import Derived.Test.YtclmladcbhcphaaSumF
import Derived.Test.YtclmladcbhcphaaRefSum
namespace Go.Proofs.Ytclmladcbhcphaa
open Go.RowKit

set_option maxRecDepth 100000 in
set_option maxHeartbeats 400000 in
theorem law_sums (b : ByteArray) (hb : b.size ≤ 9223372036854775807) (w : World) : Calls Try.prog 6 #[.string b] w fun e w' => e = .returned (.bool true) ∧ Below w.heap.size w w' := by
  by_cases hlen : b.size ≤ 2000
  · have hlen' : ¬ (2000 : Int) < (b.size : Int) := by omega
    have HS := Lib.hid (fun W => sum_any b (by omega) W)
    have HR := Lib.hid (fun W => refsum_any b (by omega) W)
    obtain ⟨S, hS⟩ : ∃ S, SHA (nums b) = S := ⟨_, rfl⟩
    rw [hS] at HS HR
    clear hS
    go_enter Try.func6, Try.ntmps6
    go_wp2_with fail
    refine (awake_any _).mono ?_
    rintro e w1 ⟨rfl, hB1⟩
    go_wp2_with fail
    refine (make_std _).mono ?_
    rintro e w2 ⟨rfl, hB2⟩
    have hB2' := hB1.trans (hB2.mono hB1.size)
    go_wp2_with fail
    refine (HS.out _).mono ?_
    rintro e w3 ⟨rfl, hB3⟩
    have hB3' := hB2'.trans (hB3.mono hB2'.size)
    go_wp2_with fail
    refine (HR.out _).mono ?_
    rintro e w4 ⟨rfl, hB4⟩
    have hB4' := hB3'.trans (hB4.mono hB3'.size)
    go_wp2
    go_ret
    exact ⟨by simp, hB4'⟩
  · have hlen' : (2000 : Int) < (b.size : Int) := by omega
    go_enter Try.func6, Try.ntmps6
    go_wp2_with fail
    refine (awake_any _).mono ?_
    rintro e w1 ⟨rfl, hB1⟩
    go_wp2_with fail
    refine (awake_any _).mono ?_
    rintro e w2 ⟨rfl, hB2⟩
    have hB2' := hB1.trans (hB2.mono hB1.size)
    go_wp2
    go_ret
    exact ⟨rfl, hB2'⟩
end Go.Proofs.Ytclmladcbhcphaa

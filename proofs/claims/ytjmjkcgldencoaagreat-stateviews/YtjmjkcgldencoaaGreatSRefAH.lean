/-
  The reference's digest, layer 5.
-/
import Derived.Test.YtjmjkcgldencoaaGreatRefSumHSum
namespace Go.Proofs.YtjmjkcgldencoaaGreat
open Go.RowKit

set_option maxRecDepth 100000 in
set_option maxHeartbeats 400000 in
theorem rh5_any (b : ByteArray) (hn : b.size ≤ 1099511627776) (w : World) :
    Calls Tryz.prog 37 #[.string b] w fun e w' => e = .returned (.string (hB b)) ∧ Below w.heap.size w w' := by
  have HS := Lib.hid (fun W => refsum_any b hn W)
  change Hid (∀ W, Calls Tryz.prog 55 _ W fun e w' => e = .returned (.string (hB b)) ∧ Below W.heap.size W w') at HS
  generalize hB b = R at *
  go_enter Tryz.func37, Tryz.ntmps37
  go_wp2_with fail
  refine (HS.out _).mono ?_
  rintro e w' ⟨rfl, hB⟩
  go_wp2
  go_ret
  exact ⟨rfl, hB⟩
end Go.Proofs.YtjmjkcgldencoaaGreat

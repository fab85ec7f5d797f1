/-
  The digest of a string, by sha.Sum.
-/
import Derived.Test.YtbkmclgddknijaaSumF
import Derived.Test.YtbkmclgddknijaaRefSum
import Derived.Test.YtbkmclgddknijaaTxt
namespace Go.Proofs.Ytbkmclgddknijaa
open Go.RowKit

/-- the digest of a string -/
def hB (b : ByteArray) : ByteArray := SHA (nums b)
theorem hB_size (b : ByteArray) : (hB b).size = 32 := SHA_size _
theorem hsum_any (b : ByteArray) (hn : b.size ≤ 1099511627776) (w : World) :
    Calls Try.prog 45 #[.agg tabV, .string b] w fun e w' => e = .returned (.string (hB b)) ∧ Below w.heap.size w w' := sum_any b (by omega) w
end Go.Proofs.Ytbkmclgddknijaa

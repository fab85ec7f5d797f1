/-
  A text of one byte, made of a slice.
-/
import Derived.Test.YtjdjndginacdnaaTxt
namespace Go.Proofs.Ytjdjndginacdnaa
open Go.RowKit

theorem conv_one (w : World) (n : Nat) (_ : n < 256) : (convert 57 9 (.slice (some ⟨w.heap.size, 0, none⟩) 1 1)).run Try.prog (w.alloc (.cells #[.int .u8 (n : Int)] 5)) = .ok (.string (strN [n])) (w.alloc (.cells #[.int .u8 (n : Int)] 5)) := by
  refine conv_cells _ 57 5 9 Try.underlying57 Try.underlying5 Try.underlying9 w.heap.size 1 [n] (fun i hi => ?_)
  have hi0 : i = 0 := by simpa using hi
  subst hi0
  rw [(Blk.new w 5 #[.int .u8 (n : Int)]).cell]
  rfl
end Go.Proofs.Ytjdjndginacdnaa

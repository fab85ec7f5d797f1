/-
  A hasher that is handed in.
-/
import Derived.Test.YtjdjndginacdnaaTxt
import Derived.Shelf.Abstract
namespace Go.Proofs.Ytjdjndginacdnaa
open Go.RowKit

/-- the function number g tells of a text h of it -/
structure Hsh (g : Nat) (h : ByteArray → ByteArray) : Prop where
  enter : ∀ args w, (callFunc g args).run Try.prog w = .ok (.enter g args) w
  size : ∀ s, (h s).size = 32
  call : ∀ s W, s.size ≤ 1000 → Calls Try.prog g #[.string s] W fun e w' => e = .returned (.string (h s)) ∧ Below W.heap.size W w'
set_option maxRecDepth 100000 in
theorem func_nil (g : Nat) (W : World) : (binOp BinOp.eql 50 (.func (.func g) #[] #[]) .nilFunc ).run Try.prog W = .ok (.bool false) W := by rfl
end Go.Proofs.Ytjdjndginacdnaa

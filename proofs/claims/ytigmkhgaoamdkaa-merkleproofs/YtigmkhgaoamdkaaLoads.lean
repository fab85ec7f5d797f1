/-
  Loads of plain cells, as equations.
-/
import Derived.Test.YtigmkhgaoamdkaaBase
namespace Go.Proofs.Ytigmkhgaoamdkaa
open Go.RowKit

theorem byte_load {w : World} {p : Addr} {x : Int} (h : w.cell? p = some (.int .u8 x)) : (loadVar 5 p).run Try.prog w = .ok (.int .u8 x) w := by
  go_simp
end Go.Proofs.Ytigmkhgaoamdkaa

/-
  No cell of these rows narrows 'for every input' (looked for: loops, veiled, ifaces, maps, wideKeys, modest, calm, conditions, laid).
  DERIVED. THE GIVEN ROWS OF THIS SEAT. 5 by the template 'for every input the law returns true; each argument reads behind the call as it read before'; 0 by the template 'total and deterministic' (their statements: YtmokkahkfmmnmaaTotals.lean).
  GIVEN WITH THE SEED: the statements are not yours to turn. If you find one false, say at which input.
  Laid BY PROGRAM, IN A SANDBOX (cutbox-rows.mjs): the forced cells as the released guide's own fill.sh prints them over the translation 01ac6498cc7f4406… (all of the seat's roots in one cut). By AI agents, Wed Nov 11 2026. No macro, syntax, notation, axiom, sorry.
-/
import Derived.Test.YtmokkahkfmmnmaaChecked
import GoSem.Claim
import GoSem.ClaimJoined
import GoSem.ClaimMapViews
import Derived.JoinedTies
import Derived.KernelRfl
namespace Go.Proofs.Ytmokkahkfmmnmaa
/- THE CELL 'sum', in the pinned program and in every row, IS THE sha256 OF THE DUMP (.gsa) THAT YtmokkahkfmmnmaaProg.lean LOADS. Nothing in Lean hashes anything: it is a label: what it is worth is what the hold of that sum in a sandbox is worth. -/
noncomputable def Try.pinned : Pinned := { name := "ytmokkahkfmmnmaa", sum := "01ac6498cc7f440682b12a9ac0caf99cbb3145c164a6cdf1aa6928ba46b16fda", checked := Try.checked }
namespace Rows
def none {H : Type} : Left H := { results := [], args := [] }

/-- 'annalistlaw06.RangesOf': WHATEVER THE INPUT: true; the input reads as it did. -/
def rangesOfSpec : ChangeSpec := { name := "rangesOf", fn := fun _ => fun
  | [d] => { results := [.lit (.bool true)], args := [d] }
  | _ => none }
def rangesOfRow : OpenClaim := { program := "ytmokkahkfmmnmaa", sum := "01ac6498cc7f440682b12a9ac0caf99cbb3145c164a6cdf1aa6928ba46b16fda", func := "annalist/annalistlaw06.RangesOf", spec := "rangesOf", unfollowed := true, recurses := true, apart := false }
def RangesOfSaid : Prop := rangesOfRow.holds Try.pinned (OpenSpec.ofChange rangesOfSpec)

/-- ITS FALSE NEIGHBOUR: 'it returns false'. Refute it at one input. -/
def rangesOfWrong : ChangeSpec := { name := "rangesOf", fn := fun _ => fun
  | [d] => { results := [.lit (.bool false)], args := [d] }
  | _ => none }
def RangesOfWrongFalsely : Prop := rangesOfRow.holds Try.pinned (OpenSpec.ofChange rangesOfWrong)

/-- 'annalistlaw06.RangesAdds': WHATEVER THE INPUT: true; the input reads as it did. -/
def rangesAddsSpec : ChangeSpec := { name := "rangesAdds", fn := fun _ => fun
  | [d] => { results := [.lit (.bool true)], args := [d] }
  | _ => none }
def rangesAddsRow : OpenClaim := { program := "ytmokkahkfmmnmaa", sum := "01ac6498cc7f440682b12a9ac0caf99cbb3145c164a6cdf1aa6928ba46b16fda", func := "annalist/annalistlaw06.RangesAdds", spec := "rangesAdds", unfollowed := true, recurses := true, apart := false }
def RangesAddsSaid : Prop := rangesAddsRow.holds Try.pinned (OpenSpec.ofChange rangesAddsSpec)

/-- ITS FALSE NEIGHBOUR: 'it returns false'. Refute it at one input. -/
def rangesAddsWrong : ChangeSpec := { name := "rangesAdds", fn := fun _ => fun
  | [d] => { results := [.lit (.bool false)], args := [d] }
  | _ => none }
def RangesAddsWrongFalsely : Prop := rangesAddsRow.holds Try.pinned (OpenSpec.ofChange rangesAddsWrong)

/-- 'annalistlaw06.RangesJoins': WHATEVER THE INPUT: true; the input reads as it did. -/
def rangesJoinsSpec : ChangeSpec := { name := "rangesJoins", fn := fun _ => fun
  | [d1, d2] => { results := [.lit (.bool true)], args := [d1, d2] }
  | _ => none }
def rangesJoinsRow : OpenClaim := { program := "ytmokkahkfmmnmaa", sum := "01ac6498cc7f440682b12a9ac0caf99cbb3145c164a6cdf1aa6928ba46b16fda", func := "annalist/annalistlaw06.RangesJoins", spec := "rangesJoins", unfollowed := true, recurses := true, apart := false }
def RangesJoinsSaid : Prop := rangesJoinsRow.holds Try.pinned (OpenSpec.ofChange rangesJoinsSpec)

/-- ITS FALSE NEIGHBOUR: 'it returns false'. Refute it at one input. -/
def rangesJoinsWrong : ChangeSpec := { name := "rangesJoins", fn := fun _ => fun
  | [d1, d2] => { results := [.lit (.bool false)], args := [d1, d2] }
  | _ => none }
def RangesJoinsWrongFalsely : Prop := rangesJoinsRow.holds Try.pinned (OpenSpec.ofChange rangesJoinsWrong)

/-- 'annalistlaw06.RangesRight': WHATEVER THE INPUT: true; the input reads as it did. -/
def rangesRightSpec : ChangeSpec := { name := "rangesRight", fn := fun _ => fun
  | [d1, d2] => { results := [.lit (.bool true)], args := [d1, d2] }
  | _ => none }
def rangesRightRow : OpenClaim := { program := "ytmokkahkfmmnmaa", sum := "01ac6498cc7f440682b12a9ac0caf99cbb3145c164a6cdf1aa6928ba46b16fda", func := "annalist/annalistlaw06.RangesRight", spec := "rangesRight", unfollowed := true, recurses := true, apart := false }
def RangesRightSaid : Prop := rangesRightRow.holds Try.pinned (OpenSpec.ofChange rangesRightSpec)

/-- ITS FALSE NEIGHBOUR: 'it returns false'. Refute it at one input. -/
def rangesRightWrong : ChangeSpec := { name := "rangesRight", fn := fun _ => fun
  | [d1, d2] => { results := [.lit (.bool false)], args := [d1, d2] }
  | _ => none }
def RangesRightWrongFalsely : Prop := rangesRightRow.holds Try.pinned (OpenSpec.ofChange rangesRightWrong)

/-- 'annalistlaw06.RangesRoots': WHATEVER THE INPUT: true; the input reads as it did. -/
def rangesRootsSpec : ChangeSpec := { name := "rangesRoots", fn := fun _ => fun
  | [d1, d2] => { results := [.lit (.bool true)], args := [d1, d2] }
  | _ => none }
def rangesRootsRow : OpenClaim := { program := "ytmokkahkfmmnmaa", sum := "01ac6498cc7f440682b12a9ac0caf99cbb3145c164a6cdf1aa6928ba46b16fda", func := "annalist/annalistlaw06.RangesRoots", spec := "rangesRoots", unfollowed := true, recurses := true, apart := false }
def RangesRootsSaid : Prop := rangesRootsRow.holds Try.pinned (OpenSpec.ofChange rangesRootsSpec)

/-- ITS FALSE NEIGHBOUR: 'it returns false'. Refute it at one input. -/
def rangesRootsWrong : ChangeSpec := { name := "rangesRoots", fn := fun _ => fun
  | [d1, d2] => { results := [.lit (.bool false)], args := [d1, d2] }
  | _ => none }
def RangesRootsWrongFalsely : Prop := rangesRootsRow.holds Try.pinned (OpenSpec.ofChange rangesRootsWrong)

/- THE SECOND FORM. 'bulk': how many values and letters a reading holds, each counted each time it is reached (what is shared counts as often as it is met; a slice's spare places count too). A statement '..UptoSaid' is the law's where the arguments, and the package variables that the reading takes, are together of bulk at most 1048576: NARROWER than '..Said'. Prove '..Said' where nothing that the law and all that it calls make is longer than what came in: it says more and counts as full. Else prove '..UptoSaid'. A law counts once. -/
mutual
def uptoBulk {H : Type} : DataW H → Nat
  | .lit (.string bytes) => bytes.length + 1
  | .lit _ => 1
  | .nil => 1
  | .ptr d => uptoBulk d + 1
  | .slice elems spare => uptoBulkAll elems + uptoBulkAll spare + 1
  | .agg parts => uptoBulkAll parts + 1
  | .iface _ d => uptoBulk d + 1
  | .map entries => uptoBulkEntries entries + 1
  | .held _ => 1
def uptoBulkAll {H : Type} : List (DataW H) → Nat
  | [] => 0
  | d :: r => uptoBulk d + uptoBulkAll r
def uptoBulkEntries {H : Type} : List (Lit × DataW H) → Nat
  | [] => 0
  | x :: r => uptoBulkEntry x + uptoBulkEntries r
def uptoBulkEntry {H : Type} : Lit × DataW H → Nat
  | (.string bytes, d) => bytes.length + uptoBulk d + 1
  | (_, d) => uptoBulk d + 1
 end
def uptoSmall : (H : Type) → List (DataW H) → Bool := fun _ ds => decide (uptoBulkAll ds ≤ 1048576)
def OpenSpec.upto (s : _root_.Go.ChangeSpec) : _root_.Go.OpenSpec := { _root_.Go.OpenSpec.ofChange s with cond := some uptoSmall }

/-- 'annalistlaw06.RangesOf', WHERE WHAT IT READS IS OF BULK AT MOST 1048576: true; the input reads as it did. -/
def rangesOfUptoRow : OpenClaim := { program := "ytmokkahkfmmnmaa", sum := "01ac6498cc7f440682b12a9ac0caf99cbb3145c164a6cdf1aa6928ba46b16fda", func := "annalist/annalistlaw06.RangesOf", spec := "rangesOf", unfollowed := true, recurses := true, apart := false, narrowed := true }
def RangesOfUptoSaid : Prop := rangesOfUptoRow.holds Try.pinned (OpenSpec.upto rangesOfSpec)

/-- 'annalistlaw06.RangesAdds', WHERE WHAT IT READS IS OF BULK AT MOST 1048576: true; the input reads as it did. -/
def rangesAddsUptoRow : OpenClaim := { program := "ytmokkahkfmmnmaa", sum := "01ac6498cc7f440682b12a9ac0caf99cbb3145c164a6cdf1aa6928ba46b16fda", func := "annalist/annalistlaw06.RangesAdds", spec := "rangesAdds", unfollowed := true, recurses := true, apart := false, narrowed := true }
def RangesAddsUptoSaid : Prop := rangesAddsUptoRow.holds Try.pinned (OpenSpec.upto rangesAddsSpec)

/-- 'annalistlaw06.RangesJoins', WHERE WHAT IT READS IS OF BULK AT MOST 1048576: true; the input reads as it did. -/
def rangesJoinsUptoRow : OpenClaim := { program := "ytmokkahkfmmnmaa", sum := "01ac6498cc7f440682b12a9ac0caf99cbb3145c164a6cdf1aa6928ba46b16fda", func := "annalist/annalistlaw06.RangesJoins", spec := "rangesJoins", unfollowed := true, recurses := true, apart := false, narrowed := true }
def RangesJoinsUptoSaid : Prop := rangesJoinsUptoRow.holds Try.pinned (OpenSpec.upto rangesJoinsSpec)

/-- 'annalistlaw06.RangesRight', WHERE WHAT IT READS IS OF BULK AT MOST 1048576: true; the input reads as it did. -/
def rangesRightUptoRow : OpenClaim := { program := "ytmokkahkfmmnmaa", sum := "01ac6498cc7f440682b12a9ac0caf99cbb3145c164a6cdf1aa6928ba46b16fda", func := "annalist/annalistlaw06.RangesRight", spec := "rangesRight", unfollowed := true, recurses := true, apart := false, narrowed := true }
def RangesRightUptoSaid : Prop := rangesRightUptoRow.holds Try.pinned (OpenSpec.upto rangesRightSpec)

/-- 'annalistlaw06.RangesRoots', WHERE WHAT IT READS IS OF BULK AT MOST 1048576: true; the input reads as it did. -/
def rangesRootsUptoRow : OpenClaim := { program := "ytmokkahkfmmnmaa", sum := "01ac6498cc7f440682b12a9ac0caf99cbb3145c164a6cdf1aa6928ba46b16fda", func := "annalist/annalistlaw06.RangesRoots", spec := "rangesRoots", unfollowed := true, recurses := true, apart := false, narrowed := true }
def RangesRootsUptoSaid : Prop := rangesRootsUptoRow.holds Try.pinned (OpenSpec.upto rangesRootsSpec)

end Rows
end Go.Proofs.Ytmokkahkfmmnmaa

/-
  No cell of these rows narrows 'for every input' (looked for: loops, veiled, ifaces, maps, wideKeys, modest, calm, conditions, laid).
  DERIVED. THE GIVEN ROWS OF THIS SEAT. 4 by the template 'for every input the law returns true; each argument reads behind the call as it read before'; 0 by the template 'total and deterministic' (their statements: YtfhfmfcmkiobdaaTotals.lean).
  GIVEN WITH THE SEED: the statements are not yours to turn. If you find one false, say at which input.
  Laid BY PROGRAM, IN A SANDBOX (cutbox-rows.mjs): the forced cells as the released guide's own fill.sh prints them over the translation 93377d3ea2ad88d0… (all of the seat's roots in one cut). By AI agents, Wed Nov 11 2026. No macro, syntax, notation, axiom, sorry.
-/
import Derived.Test.YtfhfmfcmkiobdaaChecked
import GoSem.Claim
import GoSem.ClaimJoined
import GoSem.ClaimMapViews
import Derived.JoinedTies
import Derived.KernelRfl
namespace Go.Proofs.Ytfhfmfcmkiobdaa
/- THE CELL 'sum', in the pinned program and in every row, IS THE sha256 OF THE DUMP (.gsa) THAT YtfhfmfcmkiobdaaProg.lean LOADS. Nothing in Lean hashes anything: it is a label: what it is worth is what the hold of that sum in a sandbox is worth. -/
noncomputable def Try.pinned : Pinned := { name := "ytfhfmfcmkiobdaa", sum := "93377d3ea2ad88d0f36a4d8d58becc350679f661045db24c58e48ebb274bc722", checked := Try.checked }
namespace Rows
def none {H : Type} : Left H := { results := [], args := [] }

/-- 'annalistlaw08.CollideRoots': WHATEVER THE INPUT: true; the input reads as it did. -/
def collideRootsSpec : ChangeSpec := { name := "collideRoots", fn := fun _ => fun
  | [d1, d2] => { results := [.lit (.bool true)], args := [d1, d2] }
  | _ => none }
def collideRootsRow : OpenClaim := { program := "ytfhfmfcmkiobdaa", sum := "93377d3ea2ad88d0f36a4d8d58becc350679f661045db24c58e48ebb274bc722", func := "annalist/annalistlaw08.CollideRoots", spec := "collideRoots", unfollowed := true, recurses := true, apart := false }
def CollideRootsSaid : Prop := collideRootsRow.holds Try.pinned (OpenSpec.ofChange collideRootsSpec)

/-- ITS FALSE NEIGHBOUR: 'it returns false'. Refute it at one input. -/
def collideRootsWrong : ChangeSpec := { name := "collideRoots", fn := fun _ => fun
  | [d1, d2] => { results := [.lit (.bool false)], args := [d1, d2] }
  | _ => none }
def CollideRootsWrongFalsely : Prop := collideRootsRow.holds Try.pinned (OpenSpec.ofChange collideRootsWrong)

/-- 'annalistlaw08.CollideLeaves': WHATEVER THE INPUT: true; the input reads as it did. -/
def collideLeavesSpec : ChangeSpec := { name := "collideLeaves", fn := fun _ => fun
  | [d1, d2, d3] => { results := [.lit (.bool true)], args := [d1, d2, d3] }
  | _ => none }
def collideLeavesRow : OpenClaim := { program := "ytfhfmfcmkiobdaa", sum := "93377d3ea2ad88d0f36a4d8d58becc350679f661045db24c58e48ebb274bc722", func := "annalist/annalistlaw08.CollideLeaves", spec := "collideLeaves", unfollowed := true, recurses := true, apart := false }
def CollideLeavesSaid : Prop := collideLeavesRow.holds Try.pinned (OpenSpec.ofChange collideLeavesSpec)

/-- ITS FALSE NEIGHBOUR: 'it returns false'. Refute it at one input. -/
def collideLeavesWrong : ChangeSpec := { name := "collideLeaves", fn := fun _ => fun
  | [d1, d2, d3] => { results := [.lit (.bool false)], args := [d1, d2, d3] }
  | _ => none }
def CollideLeavesWrongFalsely : Prop := collideLeavesRow.holds Try.pinned (OpenSpec.ofChange collideLeavesWrong)

/-- 'annalistlaw08.CollidePrefix': WHATEVER THE INPUT: true; the input reads as it did. -/
def collidePrefixSpec : ChangeSpec := { name := "collidePrefix", fn := fun _ => fun
  | [d1, d2] => { results := [.lit (.bool true)], args := [d1, d2] }
  | _ => none }
def collidePrefixRow : OpenClaim := { program := "ytfhfmfcmkiobdaa", sum := "93377d3ea2ad88d0f36a4d8d58becc350679f661045db24c58e48ebb274bc722", func := "annalist/annalistlaw08.CollidePrefix", spec := "collidePrefix", unfollowed := true, recurses := true, apart := false }
def CollidePrefixSaid : Prop := collidePrefixRow.holds Try.pinned (OpenSpec.ofChange collidePrefixSpec)

/-- ITS FALSE NEIGHBOUR: 'it returns false'. Refute it at one input. -/
def collidePrefixWrong : ChangeSpec := { name := "collidePrefix", fn := fun _ => fun
  | [d1, d2] => { results := [.lit (.bool false)], args := [d1, d2] }
  | _ => none }
def CollidePrefixWrongFalsely : Prop := collidePrefixRow.holds Try.pinned (OpenSpec.ofChange collidePrefixWrong)

/-- 'annalistlaw08.CollideBoth': WHATEVER THE INPUT: true; the input reads as it did. -/
def collideBothSpec : ChangeSpec := { name := "collideBoth", fn := fun _ => fun
  | [d1, d2, d3] => { results := [.lit (.bool true)], args := [d1, d2, d3] }
  | _ => none }
def collideBothRow : OpenClaim := { program := "ytfhfmfcmkiobdaa", sum := "93377d3ea2ad88d0f36a4d8d58becc350679f661045db24c58e48ebb274bc722", func := "annalist/annalistlaw08.CollideBoth", spec := "collideBoth", unfollowed := true, recurses := true, apart := false }
def CollideBothSaid : Prop := collideBothRow.holds Try.pinned (OpenSpec.ofChange collideBothSpec)

/-- ITS FALSE NEIGHBOUR: 'it returns false'. Refute it at one input. -/
def collideBothWrong : ChangeSpec := { name := "collideBoth", fn := fun _ => fun
  | [d1, d2, d3] => { results := [.lit (.bool false)], args := [d1, d2, d3] }
  | _ => none }
def CollideBothWrongFalsely : Prop := collideBothRow.holds Try.pinned (OpenSpec.ofChange collideBothWrong)

/- THE SECOND FORM. 'bulk': how many values and letters a reading holds, each counted each time it is reached (what is shared counts as often as it is met; a slice's spare places count too). A statement '..UptoSaid' is the law's where the arguments, and the package variables that the reading takes, are together of bulk at most 1048576: NARROWER than '..Said'. Prove '..Said' where nothing that the law and all that it calls make is longer than what came in: it says more and counts as full. Else prove '..UptoSaid'. A law counts once. -/
mutual
def uptoBulk {H : Type} : DataW H → Nat
  | .lit (.string bytes) => bytes.length + 1
  | .lit _ => 1
  | .nil => 1
  | .ptr d => uptoBulk d + 1
  | .slice elems spare => uptoBulkAll elems + uptoBulkAll spare + 1
  | .agg parts => uptoBulkAll parts + 1
  | .iface _ d => uptoBulk d + 1
  | .map entries => uptoBulkEntries entries + 1
  | .held _ => 1
def uptoBulkAll {H : Type} : List (DataW H) → Nat
  | [] => 0
  | d :: r => uptoBulk d + uptoBulkAll r
def uptoBulkEntries {H : Type} : List (Lit × DataW H) → Nat
  | [] => 0
  | x :: r => uptoBulkEntry x + uptoBulkEntries r
def uptoBulkEntry {H : Type} : Lit × DataW H → Nat
  | (.string bytes, d) => bytes.length + uptoBulk d + 1
  | (_, d) => uptoBulk d + 1
 end
def uptoSmall : (H : Type) → List (DataW H) → Bool := fun _ ds => decide (uptoBulkAll ds ≤ 1048576)
def OpenSpec.upto (s : _root_.Go.ChangeSpec) : _root_.Go.OpenSpec := { _root_.Go.OpenSpec.ofChange s with cond := some uptoSmall }

/-- 'annalistlaw08.CollideRoots', WHERE WHAT IT READS IS OF BULK AT MOST 1048576: true; the input reads as it did. -/
def collideRootsUptoRow : OpenClaim := { program := "ytfhfmfcmkiobdaa", sum := "93377d3ea2ad88d0f36a4d8d58becc350679f661045db24c58e48ebb274bc722", func := "annalist/annalistlaw08.CollideRoots", spec := "collideRoots", unfollowed := true, recurses := true, apart := false, narrowed := true }
def CollideRootsUptoSaid : Prop := collideRootsUptoRow.holds Try.pinned (OpenSpec.upto collideRootsSpec)

/-- 'annalistlaw08.CollideLeaves', WHERE WHAT IT READS IS OF BULK AT MOST 1048576: true; the input reads as it did. -/
def collideLeavesUptoRow : OpenClaim := { program := "ytfhfmfcmkiobdaa", sum := "93377d3ea2ad88d0f36a4d8d58becc350679f661045db24c58e48ebb274bc722", func := "annalist/annalistlaw08.CollideLeaves", spec := "collideLeaves", unfollowed := true, recurses := true, apart := false, narrowed := true }
def CollideLeavesUptoSaid : Prop := collideLeavesUptoRow.holds Try.pinned (OpenSpec.upto collideLeavesSpec)

/-- 'annalistlaw08.CollidePrefix', WHERE WHAT IT READS IS OF BULK AT MOST 1048576: true; the input reads as it did. -/
def collidePrefixUptoRow : OpenClaim := { program := "ytfhfmfcmkiobdaa", sum := "93377d3ea2ad88d0f36a4d8d58becc350679f661045db24c58e48ebb274bc722", func := "annalist/annalistlaw08.CollidePrefix", spec := "collidePrefix", unfollowed := true, recurses := true, apart := false, narrowed := true }
def CollidePrefixUptoSaid : Prop := collidePrefixUptoRow.holds Try.pinned (OpenSpec.upto collidePrefixSpec)

/-- 'annalistlaw08.CollideBoth', WHERE WHAT IT READS IS OF BULK AT MOST 1048576: true; the input reads as it did. -/
def collideBothUptoRow : OpenClaim := { program := "ytfhfmfcmkiobdaa", sum := "93377d3ea2ad88d0f36a4d8d58becc350679f661045db24c58e48ebb274bc722", func := "annalist/annalistlaw08.CollideBoth", spec := "collideBoth", unfollowed := true, recurses := true, apart := false, narrowed := true }
def CollideBothUptoSaid : Prop := collideBothUptoRow.holds Try.pinned (OpenSpec.upto collideBothSpec)

end Rows
end Go.Proofs.Ytfhfmfcmkiobdaa

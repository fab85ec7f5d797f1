/-
  No cell of these rows narrows 'for every input' (looked for: loops, veiled, ifaces, maps, wideKeys, modest, calm, conditions, laid).
  DERIVED. THE GIVEN ROWS OF THIS SEAT. 3 by the template 'for every input the law returns true; each argument reads behind the call as it read before'; 0 by the template 'total and deterministic' (their statements: YtjdjndginacdnaaTotals.lean).
  GIVEN WITH THE SEED: the statements are not yours to turn. If you find one false, say at which input.
  Laid BY PROGRAM, IN A SANDBOX (cutbox-rows.mjs): the forced cells as the released guide's own fill.sh prints them over the translation fe5a03d51f720d91… (all of the seat's roots in one cut). By AI agents, Wed Nov 11 2026. No macro, syntax, notation, axiom, sorry.
-/
import Derived.Test.YtjdjndginacdnaaChecked
import GoSem.Claim
import GoSem.ClaimJoined
import GoSem.ClaimMapViews
import Derived.JoinedTies
import Derived.KernelRfl
namespace Go.Proofs.Ytjdjndginacdnaa
/- THE CELL 'sum', in the pinned program and in every row, IS THE sha256 OF THE DUMP (.gsa) THAT YtjdjndginacdnaaProg.lean LOADS. Nothing in Lean hashes anything: it is a label: what it is worth is what the hold of that sum in a sandbox is worth. -/
noncomputable def Try.pinned : Pinned := { name := "ytjdjndginacdnaa", sum := "fe5a03d51f720d91cf66a33322b1792f1e4ff80d0e24e85ac08e3a59345eb392", checked := Try.checked }
namespace Rows
def none {H : Type} : Left H := { results := [], args := [] }

/-- 'annalistlaw09.ClashRoots': WHATEVER THE INPUT: true; the input reads as it did. -/
def clashRootsSpec : ChangeSpec := { name := "clashRoots", fn := fun _ => fun
  | [d1, d2, d3] => { results := [.lit (.bool true)], args := [d1, d2, d3] }
  | _ => none }
def clashRootsRow : OpenClaim := { program := "ytjdjndginacdnaa", sum := "fe5a03d51f720d91cf66a33322b1792f1e4ff80d0e24e85ac08e3a59345eb392", func := "annalist/annalistlaw09.ClashRoots", spec := "clashRoots", unfollowed := true, recurses := true, apart := false }
def ClashRootsSaid : Prop := clashRootsRow.holds Try.pinned (OpenSpec.ofChange clashRootsSpec)

/-- ITS FALSE NEIGHBOUR: 'it returns false'. Refute it at one input. -/
def clashRootsWrong : ChangeSpec := { name := "clashRoots", fn := fun _ => fun
  | [d1, d2, d3] => { results := [.lit (.bool false)], args := [d1, d2, d3] }
  | _ => none }
def ClashRootsWrongFalsely : Prop := clashRootsRow.holds Try.pinned (OpenSpec.ofChange clashRootsWrong)

/-- 'annalistlaw09.ClashValues': WHATEVER THE INPUT: true; the input reads as it did. -/
def clashValuesSpec : ChangeSpec := { name := "clashValues", fn := fun _ => fun
  | [d1, d2, d3] => { results := [.lit (.bool true)], args := [d1, d2, d3] }
  | _ => none }
def clashValuesRow : OpenClaim := { program := "ytjdjndginacdnaa", sum := "fe5a03d51f720d91cf66a33322b1792f1e4ff80d0e24e85ac08e3a59345eb392", func := "annalist/annalistlaw09.ClashValues", spec := "clashValues", unfollowed := true, recurses := true, apart := false }
def ClashValuesSaid : Prop := clashValuesRow.holds Try.pinned (OpenSpec.ofChange clashValuesSpec)

/-- ITS FALSE NEIGHBOUR: 'it returns false'. Refute it at one input. -/
def clashValuesWrong : ChangeSpec := { name := "clashValues", fn := fun _ => fun
  | [d1, d2, d3] => { results := [.lit (.bool false)], args := [d1, d2, d3] }
  | _ => none }
def ClashValuesWrongFalsely : Prop := clashValuesRow.holds Try.pinned (OpenSpec.ofChange clashValuesWrong)

/-- 'annalistlaw09.ClashTrue': WHATEVER THE INPUT: true; the input reads as it did. -/
def clashTrueSpec : ChangeSpec := { name := "clashTrue", fn := fun _ => fun
  | [d1, d2] => { results := [.lit (.bool true)], args := [d1, d2] }
  | _ => none }
def clashTrueRow : OpenClaim := { program := "ytjdjndginacdnaa", sum := "fe5a03d51f720d91cf66a33322b1792f1e4ff80d0e24e85ac08e3a59345eb392", func := "annalist/annalistlaw09.ClashTrue", spec := "clashTrue", inPlace := ["internal/abi.NoEscape"], unfollowed := true, recurses := true, apart := false }
def ClashTrueSaid : Prop := clashTrueRow.holds Try.pinned (OpenSpec.ofChange clashTrueSpec)

/-- ITS FALSE NEIGHBOUR: 'it returns false'. Refute it at one input. -/
def clashTrueWrong : ChangeSpec := { name := "clashTrue", fn := fun _ => fun
  | [d1, d2] => { results := [.lit (.bool false)], args := [d1, d2] }
  | _ => none }
def ClashTrueWrongFalsely : Prop := clashTrueRow.holds Try.pinned (OpenSpec.ofChange clashTrueWrong)

/- THE SECOND FORM. 'bulk': how many values and letters a reading holds, each counted each time it is reached (what is shared counts as often as it is met; a slice's spare places count too). A statement '..UptoSaid' is the law's where the arguments, and the package variables that the reading takes, are together of bulk at most 1048576: NARROWER than '..Said'. Prove '..Said' where nothing that the law and all that it calls make is longer than what came in: it says more and counts as full. Else prove '..UptoSaid'. A law counts once. -/
mutual
def uptoBulk {H : Type} : DataW H → Nat
  | .lit (.string bytes) => bytes.length + 1
  | .lit _ => 1
  | .nil => 1
  | .ptr d => uptoBulk d + 1
  | .slice elems spare => uptoBulkAll elems + uptoBulkAll spare + 1
  | .agg parts => uptoBulkAll parts + 1
  | .iface _ d => uptoBulk d + 1
  | .map entries => uptoBulkEntries entries + 1
  | .held _ => 1
def uptoBulkAll {H : Type} : List (DataW H) → Nat
  | [] => 0
  | d :: r => uptoBulk d + uptoBulkAll r
def uptoBulkEntries {H : Type} : List (Lit × DataW H) → Nat
  | [] => 0
  | x :: r => uptoBulkEntry x + uptoBulkEntries r
def uptoBulkEntry {H : Type} : Lit × DataW H → Nat
  | (.string bytes, d) => bytes.length + uptoBulk d + 1
  | (_, d) => uptoBulk d + 1
 end
def uptoSmall : (H : Type) → List (DataW H) → Bool := fun _ ds => decide (uptoBulkAll ds ≤ 1048576)
def OpenSpec.upto (s : _root_.Go.ChangeSpec) : _root_.Go.OpenSpec := { _root_.Go.OpenSpec.ofChange s with cond := some uptoSmall }

/-- 'annalistlaw09.ClashRoots', WHERE WHAT IT READS IS OF BULK AT MOST 1048576: true; the input reads as it did. -/
def clashRootsUptoRow : OpenClaim := { program := "ytjdjndginacdnaa", sum := "fe5a03d51f720d91cf66a33322b1792f1e4ff80d0e24e85ac08e3a59345eb392", func := "annalist/annalistlaw09.ClashRoots", spec := "clashRoots", unfollowed := true, recurses := true, apart := false, narrowed := true }
def ClashRootsUptoSaid : Prop := clashRootsUptoRow.holds Try.pinned (OpenSpec.upto clashRootsSpec)

/-- 'annalistlaw09.ClashValues', WHERE WHAT IT READS IS OF BULK AT MOST 1048576: true; the input reads as it did. -/
def clashValuesUptoRow : OpenClaim := { program := "ytjdjndginacdnaa", sum := "fe5a03d51f720d91cf66a33322b1792f1e4ff80d0e24e85ac08e3a59345eb392", func := "annalist/annalistlaw09.ClashValues", spec := "clashValues", unfollowed := true, recurses := true, apart := false, narrowed := true }
def ClashValuesUptoSaid : Prop := clashValuesUptoRow.holds Try.pinned (OpenSpec.upto clashValuesSpec)

/-- 'annalistlaw09.ClashTrue', WHERE WHAT IT READS IS OF BULK AT MOST 1048576: true; the input reads as it did. -/
def clashTrueUptoRow : OpenClaim := { program := "ytjdjndginacdnaa", sum := "fe5a03d51f720d91cf66a33322b1792f1e4ff80d0e24e85ac08e3a59345eb392", func := "annalist/annalistlaw09.ClashTrue", spec := "clashTrue", inPlace := ["internal/abi.NoEscape"], unfollowed := true, recurses := true, apart := false, narrowed := true }
def ClashTrueUptoSaid : Prop := clashTrueUptoRow.holds Try.pinned (OpenSpec.upto clashTrueSpec)

end Rows
end Go.Proofs.Ytjdjndginacdnaa

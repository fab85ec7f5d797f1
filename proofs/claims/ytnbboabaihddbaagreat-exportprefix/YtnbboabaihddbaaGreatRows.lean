/-
  No cell of these rows narrows 'for every input' (looked for: loops, veiled, ifaces, maps, wideKeys, modest, calm, conditions, laid).
  DERIVED. THE GIVEN ROWS OF THIS SEAT. 5 by the template 'for every input the law returns true; each argument reads behind the call as it read before'; 0 by the template 'total and deterministic' (their statements: YtnbboabaihddbaaGreatTotals.lean).
  GIVEN WITH THE SEED: the statements are not yours to turn. If you find one false, say at which input.
  Laid BY PROGRAM, IN A SANDBOX (cutbox-rows.mjs): the forced cells as the released guide's own fill.sh prints them over the translation 132443986e1a552c… (all of the seat's roots in one cut). By AI agents, Wed Nov 11 2026. No macro, syntax, notation, axiom, sorry.
-/
import Derived.Test.YtnbboabaihddbaaGreatChecked
import GoSem.Claim
import GoSem.ClaimJoined
import GoSem.ClaimMapViews
import Derived.JoinedTies
import Derived.KernelRfl
namespace Go.Proofs.YtnbboabaihddbaaGreat
/- THE CELL 'sum', in the pinned program and in every row, IS THE sha256 OF THE DUMP (.gsa) THAT YtnbboabaihddbaaGreatProg.lean LOADS. Nothing in Lean hashes anything: it is a label: what it is worth is what the hold of that sum in a sandbox is worth. -/
noncomputable def Tryz.pinned : Pinned := { name := "ytnbboabaihddbaagreat", sum := "132443986e1a552c19d122e83cb5103774d0eeef5d44cf6ace24054e7ea82eeb", checked := Tryz.checked }
namespace Rows
def none {H : Type} : Left H := { results := [], args := [] }

/-- 'annalistlaw12.ExportBegins': WHATEVER THE INPUT: true; the input reads as it did. -/
def exportBeginsSpec : ChangeSpec := { name := "exportBegins", fn := fun _ => fun
  | [d1, d2] => { results := [.lit (.bool true)], args := [d1, d2] }
  | _ => none }
def exportBeginsRow : OpenClaim := { program := "ytnbboabaihddbaagreat", sum := "132443986e1a552c19d122e83cb5103774d0eeef5d44cf6ace24054e7ea82eeb", func := "annalist/annalistlaw12.ExportBegins", spec := "exportBegins", inPlace := ["internal/abi.NoEscape"], unfollowed := true, recurses := true, apart := false }
def ExportBeginsSaid : Prop := exportBeginsRow.holds Tryz.pinned (OpenSpec.ofChange exportBeginsSpec)

/-- ITS FALSE NEIGHBOUR: 'it returns false'. Refute it at one input. -/
def exportBeginsWrong : ChangeSpec := { name := "exportBegins", fn := fun _ => fun
  | [d1, d2] => { results := [.lit (.bool false)], args := [d1, d2] }
  | _ => none }
def ExportBeginsWrongFalsely : Prop := exportBeginsRow.holds Tryz.pinned (OpenSpec.ofChange exportBeginsWrong)

/-- 'annalistlaw12.ExportBack': WHATEVER THE INPUT: true; the input reads as it did. -/
def exportBackSpec : ChangeSpec := { name := "exportBack", fn := fun _ => fun
  | [d] => { results := [.lit (.bool true)], args := [d] }
  | _ => none }
def exportBackRow : OpenClaim := { program := "ytnbboabaihddbaagreat", sum := "132443986e1a552c19d122e83cb5103774d0eeef5d44cf6ace24054e7ea82eeb", func := "annalist/annalistlaw12.ExportBack", spec := "exportBack", inPlace := ["internal/abi.NoEscape"], unfollowed := true, recurses := true, apart := false }
def ExportBackSaid : Prop := exportBackRow.holds Tryz.pinned (OpenSpec.ofChange exportBackSpec)

/-- ITS FALSE NEIGHBOUR: 'it returns false'. Refute it at one input. -/
def exportBackWrong : ChangeSpec := { name := "exportBack", fn := fun _ => fun
  | [d] => { results := [.lit (.bool false)], args := [d] }
  | _ => none }
def ExportBackWrongFalsely : Prop := exportBackRow.holds Tryz.pinned (OpenSpec.ofChange exportBackWrong)

/-- 'annalistlaw12.ExportPrefix': WHATEVER THE INPUT: true; the input reads as it did. -/
def exportPrefixSpec : ChangeSpec := { name := "exportPrefix", fn := fun _ => fun
  | [d1, d2] => { results := [.lit (.bool true)], args := [d1, d2] }
  | _ => none }
def exportPrefixRow : OpenClaim := { program := "ytnbboabaihddbaagreat", sum := "132443986e1a552c19d122e83cb5103774d0eeef5d44cf6ace24054e7ea82eeb", func := "annalist/annalistlaw12.ExportPrefix", spec := "exportPrefix", inPlace := ["internal/abi.NoEscape"], unfollowed := true, recurses := true, apart := false }
def ExportPrefixSaid : Prop := exportPrefixRow.holds Tryz.pinned (OpenSpec.ofChange exportPrefixSpec)

/-- ITS FALSE NEIGHBOUR: 'it returns false'. Refute it at one input. -/
def exportPrefixWrong : ChangeSpec := { name := "exportPrefix", fn := fun _ => fun
  | [d1, d2] => { results := [.lit (.bool false)], args := [d1, d2] }
  | _ => none }
def ExportPrefixWrongFalsely : Prop := exportPrefixRow.holds Tryz.pinned (OpenSpec.ofChange exportPrefixWrong)

/-- 'annalistlaw12.ExportReads': WHATEVER THE INPUT: true; the input reads as it did. -/
def exportReadsSpec : ChangeSpec := { name := "exportReads", fn := fun _ => fun
  | [d1, d2, d3] => { results := [.lit (.bool true)], args := [d1, d2, d3] }
  | _ => none }
def exportReadsRow : OpenClaim := { program := "ytnbboabaihddbaagreat", sum := "132443986e1a552c19d122e83cb5103774d0eeef5d44cf6ace24054e7ea82eeb", func := "annalist/annalistlaw12.ExportReads", spec := "exportReads", inPlace := ["internal/abi.NoEscape"], unfollowed := true, recurses := true, apart := false }
def ExportReadsSaid : Prop := exportReadsRow.holds Tryz.pinned (OpenSpec.ofChange exportReadsSpec)

/-- ITS FALSE NEIGHBOUR: 'it returns false'. Refute it at one input. -/
def exportReadsWrong : ChangeSpec := { name := "exportReads", fn := fun _ => fun
  | [d1, d2, d3] => { results := [.lit (.bool false)], args := [d1, d2, d3] }
  | _ => none }
def ExportReadsWrongFalsely : Prop := exportReadsRow.holds Tryz.pinned (OpenSpec.ofChange exportReadsWrong)

/-- 'annalistlaw12.ExportSame': WHATEVER THE INPUT: true; the input reads as it did. -/
def exportSameSpec : ChangeSpec := { name := "exportSame", fn := fun _ => fun
  | [d1, d2] => { results := [.lit (.bool true)], args := [d1, d2] }
  | _ => none }
def exportSameRow : OpenClaim := { program := "ytnbboabaihddbaagreat", sum := "132443986e1a552c19d122e83cb5103774d0eeef5d44cf6ace24054e7ea82eeb", func := "annalist/annalistlaw12.ExportSame", spec := "exportSame", inPlace := ["internal/abi.NoEscape"], unfollowed := true, recurses := true, apart := false }
def ExportSameSaid : Prop := exportSameRow.holds Tryz.pinned (OpenSpec.ofChange exportSameSpec)

/-- ITS FALSE NEIGHBOUR: 'it returns false'. Refute it at one input. -/
def exportSameWrong : ChangeSpec := { name := "exportSame", fn := fun _ => fun
  | [d1, d2] => { results := [.lit (.bool false)], args := [d1, d2] }
  | _ => none }
def ExportSameWrongFalsely : Prop := exportSameRow.holds Tryz.pinned (OpenSpec.ofChange exportSameWrong)

/- THE SECOND FORM. 'bulk': how many values and letters a reading holds, each counted each time it is reached (what is shared counts as often as it is met; a slice's spare places count too). A statement '..UptoSaid' is the law's where the arguments, and the package variables that the reading takes, are together of bulk at most 1048576: NARROWER than '..Said'. Prove '..Said' where nothing that the law and all that it calls make is longer than what came in: it says more and counts as full. Else prove '..UptoSaid'. A law counts once. -/
mutual
def uptoBulk {H : Type} : DataW H → Nat
  | .lit (.string bytes) => bytes.length + 1
  | .lit _ => 1
  | .nil => 1
  | .ptr d => uptoBulk d + 1
  | .slice elems spare => uptoBulkAll elems + uptoBulkAll spare + 1
  | .agg parts => uptoBulkAll parts + 1
  | .iface _ d => uptoBulk d + 1
  | .map entries => uptoBulkEntries entries + 1
  | .held _ => 1
def uptoBulkAll {H : Type} : List (DataW H) → Nat
  | [] => 0
  | d :: r => uptoBulk d + uptoBulkAll r
def uptoBulkEntries {H : Type} : List (Lit × DataW H) → Nat
  | [] => 0
  | x :: r => uptoBulkEntry x + uptoBulkEntries r
def uptoBulkEntry {H : Type} : Lit × DataW H → Nat
  | (.string bytes, d) => bytes.length + uptoBulk d + 1
  | (_, d) => uptoBulk d + 1
 end
def uptoSmall : (H : Type) → List (DataW H) → Bool := fun _ ds => decide (uptoBulkAll ds ≤ 1048576)
def OpenSpec.upto (s : _root_.Go.ChangeSpec) : _root_.Go.OpenSpec := { _root_.Go.OpenSpec.ofChange s with cond := some uptoSmall }

/-- 'annalistlaw12.ExportBegins', WHERE WHAT IT READS IS OF BULK AT MOST 1048576: true; the input reads as it did. -/
def exportBeginsUptoRow : OpenClaim := { program := "ytnbboabaihddbaagreat", sum := "132443986e1a552c19d122e83cb5103774d0eeef5d44cf6ace24054e7ea82eeb", func := "annalist/annalistlaw12.ExportBegins", spec := "exportBegins", inPlace := ["internal/abi.NoEscape"], unfollowed := true, recurses := true, apart := false, narrowed := true }
def ExportBeginsUptoSaid : Prop := exportBeginsUptoRow.holds Tryz.pinned (OpenSpec.upto exportBeginsSpec)

/-- 'annalistlaw12.ExportBack', WHERE WHAT IT READS IS OF BULK AT MOST 1048576: true; the input reads as it did. -/
def exportBackUptoRow : OpenClaim := { program := "ytnbboabaihddbaagreat", sum := "132443986e1a552c19d122e83cb5103774d0eeef5d44cf6ace24054e7ea82eeb", func := "annalist/annalistlaw12.ExportBack", spec := "exportBack", inPlace := ["internal/abi.NoEscape"], unfollowed := true, recurses := true, apart := false, narrowed := true }
def ExportBackUptoSaid : Prop := exportBackUptoRow.holds Tryz.pinned (OpenSpec.upto exportBackSpec)

/-- 'annalistlaw12.ExportPrefix', WHERE WHAT IT READS IS OF BULK AT MOST 1048576: true; the input reads as it did. -/
def exportPrefixUptoRow : OpenClaim := { program := "ytnbboabaihddbaagreat", sum := "132443986e1a552c19d122e83cb5103774d0eeef5d44cf6ace24054e7ea82eeb", func := "annalist/annalistlaw12.ExportPrefix", spec := "exportPrefix", inPlace := ["internal/abi.NoEscape"], unfollowed := true, recurses := true, apart := false, narrowed := true }
def ExportPrefixUptoSaid : Prop := exportPrefixUptoRow.holds Tryz.pinned (OpenSpec.upto exportPrefixSpec)

/-- 'annalistlaw12.ExportReads', WHERE WHAT IT READS IS OF BULK AT MOST 1048576: true; the input reads as it did. -/
def exportReadsUptoRow : OpenClaim := { program := "ytnbboabaihddbaagreat", sum := "132443986e1a552c19d122e83cb5103774d0eeef5d44cf6ace24054e7ea82eeb", func := "annalist/annalistlaw12.ExportReads", spec := "exportReads", inPlace := ["internal/abi.NoEscape"], unfollowed := true, recurses := true, apart := false, narrowed := true }
def ExportReadsUptoSaid : Prop := exportReadsUptoRow.holds Tryz.pinned (OpenSpec.upto exportReadsSpec)

/-- 'annalistlaw12.ExportSame', WHERE WHAT IT READS IS OF BULK AT MOST 1048576: true; the input reads as it did. -/
def exportSameUptoRow : OpenClaim := { program := "ytnbboabaihddbaagreat", sum := "132443986e1a552c19d122e83cb5103774d0eeef5d44cf6ace24054e7ea82eeb", func := "annalist/annalistlaw12.ExportSame", spec := "exportSame", inPlace := ["internal/abi.NoEscape"], unfollowed := true, recurses := true, apart := false, narrowed := true }
def ExportSameUptoSaid : Prop := exportSameUptoRow.holds Tryz.pinned (OpenSpec.upto exportSameSpec)

end Rows
end Go.Proofs.YtnbboabaihddbaaGreat

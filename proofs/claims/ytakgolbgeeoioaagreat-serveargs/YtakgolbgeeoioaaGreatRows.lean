/-
  No cell of these rows narrows 'for every input' (looked for: loops, veiled, ifaces, maps, wideKeys, modest, calm, conditions, laid).
  DERIVED. THE GIVEN ROWS OF THIS SEAT. 4 by the template 'for every input the law returns true; each argument reads behind the call as it read before'; 0 by the template 'total and deterministic' (their statements: YtakgolbgeeoioaaGreatTotals.lean).
  GIVEN WITH THE SEED: the statements are not yours to turn. If you find one false, say at which input.
  Laid BY PROGRAM, IN A SANDBOX (cutbox-rows.mjs): the forced cells as the released guide's own fill.sh prints them over the translation b4ac9f5c2b29966e… (all of the seat's roots in one cut). By AI agents, Wed Nov 11 2026. No macro, syntax, notation, axiom, sorry.
-/
import Derived.Test.YtakgolbgeeoioaaGreatChecked
import GoSem.Claim
import GoSem.ClaimJoined
import GoSem.ClaimMapViews
import Derived.JoinedTies
import Derived.KernelRfl
namespace Go.Proofs.YtakgolbgeeoioaaGreat
/- THE CELL 'sum', in the pinned program and in every row, IS THE sha256 OF THE DUMP (.gsa) THAT YtakgolbgeeoioaaGreatProg.lean LOADS. Nothing in Lean hashes anything: it is a label: what it is worth is what the hold of that sum in a sandbox is worth. -/
noncomputable def Tryz.pinned : Pinned := { name := "ytakgolbgeeoioaagreat", sum := "b4ac9f5c2b29966ef621fcf863a95cfd90c9e51c10f3aebad410328de6fdad05", checked := Tryz.checked }
namespace Rows
def none {H : Type} : Left H := { results := [], args := [] }

/-- 'annalistlaw13.ServeHeads': WHATEVER THE INPUT: true; the input reads as it did. -/
def serveHeadsSpec : ChangeSpec := { name := "serveHeads", fn := fun _ => fun
  | [d1, d2] => { results := [.lit (.bool true)], args := [d1, d2] }
  | _ => none }
def serveHeadsRow : OpenClaim := { program := "ytakgolbgeeoioaagreat", sum := "b4ac9f5c2b29966ef621fcf863a95cfd90c9e51c10f3aebad410328de6fdad05", func := "annalist/annalistlaw13.ServeHeads", spec := "serveHeads", inPlace := ["internal/abi.NoEscape"], unfollowed := true, recurses := true, apart := false }
def ServeHeadsSaid : Prop := serveHeadsRow.holds Tryz.pinned (OpenSpec.ofChange serveHeadsSpec)

/-- ITS FALSE NEIGHBOUR: 'it returns false'. Refute it at one input. -/
def serveHeadsWrong : ChangeSpec := { name := "serveHeads", fn := fun _ => fun
  | [d1, d2] => { results := [.lit (.bool false)], args := [d1, d2] }
  | _ => none }
def ServeHeadsWrongFalsely : Prop := serveHeadsRow.holds Tryz.pinned (OpenSpec.ofChange serveHeadsWrong)

/-- 'annalistlaw13.ServeAnswers': WHATEVER THE INPUT: true; the input reads as it did. -/
def serveAnswersSpec : ChangeSpec := { name := "serveAnswers", fn := fun _ => fun
  | [d1, d2] => { results := [.lit (.bool true)], args := [d1, d2] }
  | _ => none }
def serveAnswersRow : OpenClaim := { program := "ytakgolbgeeoioaagreat", sum := "b4ac9f5c2b29966ef621fcf863a95cfd90c9e51c10f3aebad410328de6fdad05", func := "annalist/annalistlaw13.ServeAnswers", spec := "serveAnswers", inPlace := ["internal/abi.NoEscape"], unfollowed := true, recurses := true, apart := false }
def ServeAnswersSaid : Prop := serveAnswersRow.holds Tryz.pinned (OpenSpec.ofChange serveAnswersSpec)

/-- ITS FALSE NEIGHBOUR: 'it returns false'. Refute it at one input. -/
def serveAnswersWrong : ChangeSpec := { name := "serveAnswers", fn := fun _ => fun
  | [d1, d2] => { results := [.lit (.bool false)], args := [d1, d2] }
  | _ => none }
def ServeAnswersWrongFalsely : Prop := serveAnswersRow.holds Tryz.pinned (OpenSpec.ofChange serveAnswersWrong)

/-- 'annalistlaw13.ServeStays': WHATEVER THE INPUT: true; the input reads as it did. -/
def serveStaysSpec : ChangeSpec := { name := "serveStays", fn := fun _ => fun
  | [d1, d2, d3] => { results := [.lit (.bool true)], args := [d1, d2, d3] }
  | _ => none }
def serveStaysRow : OpenClaim := { program := "ytakgolbgeeoioaagreat", sum := "b4ac9f5c2b29966ef621fcf863a95cfd90c9e51c10f3aebad410328de6fdad05", func := "annalist/annalistlaw13.ServeStays", spec := "serveStays", inPlace := ["internal/abi.NoEscape"], unfollowed := true, recurses := true, apart := false }
def ServeStaysSaid : Prop := serveStaysRow.holds Tryz.pinned (OpenSpec.ofChange serveStaysSpec)

/-- ITS FALSE NEIGHBOUR: 'it returns false'. Refute it at one input. -/
def serveStaysWrong : ChangeSpec := { name := "serveStays", fn := fun _ => fun
  | [d1, d2, d3] => { results := [.lit (.bool false)], args := [d1, d2, d3] }
  | _ => none }
def ServeStaysWrongFalsely : Prop := serveStaysRow.holds Tryz.pinned (OpenSpec.ofChange serveStaysWrong)

/-- 'annalistlaw13.ServeArgs': WHATEVER THE INPUT: true; the input reads as it did. -/
def serveArgsSpec : ChangeSpec := { name := "serveArgs", fn := fun _ => fun
  | [d1, d2] => { results := [.lit (.bool true)], args := [d1, d2] }
  | _ => none }
def serveArgsRow : OpenClaim := { program := "ytakgolbgeeoioaagreat", sum := "b4ac9f5c2b29966ef621fcf863a95cfd90c9e51c10f3aebad410328de6fdad05", func := "annalist/annalistlaw13.ServeArgs", spec := "serveArgs", inPlace := ["internal/abi.NoEscape"], unfollowed := true, recurses := true, apart := false }
def ServeArgsSaid : Prop := serveArgsRow.holds Tryz.pinned (OpenSpec.ofChange serveArgsSpec)

/-- ITS FALSE NEIGHBOUR: 'it returns false'. Refute it at one input. -/
def serveArgsWrong : ChangeSpec := { name := "serveArgs", fn := fun _ => fun
  | [d1, d2] => { results := [.lit (.bool false)], args := [d1, d2] }
  | _ => none }
def ServeArgsWrongFalsely : Prop := serveArgsRow.holds Tryz.pinned (OpenSpec.ofChange serveArgsWrong)

/- THE SECOND FORM. 'bulk': how many values and letters a reading holds, each counted each time it is reached (what is shared counts as often as it is met; a slice's spare places count too). A statement '..UptoSaid' is the law's where the arguments, and the package variables that the reading takes, are together of bulk at most 1048576: NARROWER than '..Said'. Prove '..Said' where nothing that the law and all that it calls make is longer than what came in: it says more and counts as full. Else prove '..UptoSaid'. A law counts once. -/
mutual
def uptoBulk {H : Type} : DataW H → Nat
  | .lit (.string bytes) => bytes.length + 1
  | .lit _ => 1
  | .nil => 1
  | .ptr d => uptoBulk d + 1
  | .slice elems spare => uptoBulkAll elems + uptoBulkAll spare + 1
  | .agg parts => uptoBulkAll parts + 1
  | .iface _ d => uptoBulk d + 1
  | .map entries => uptoBulkEntries entries + 1
  | .held _ => 1
def uptoBulkAll {H : Type} : List (DataW H) → Nat
  | [] => 0
  | d :: r => uptoBulk d + uptoBulkAll r
def uptoBulkEntries {H : Type} : List (Lit × DataW H) → Nat
  | [] => 0
  | x :: r => uptoBulkEntry x + uptoBulkEntries r
def uptoBulkEntry {H : Type} : Lit × DataW H → Nat
  | (.string bytes, d) => bytes.length + uptoBulk d + 1
  | (_, d) => uptoBulk d + 1
 end
def uptoSmall : (H : Type) → List (DataW H) → Bool := fun _ ds => decide (uptoBulkAll ds ≤ 1048576)
def OpenSpec.upto (s : _root_.Go.ChangeSpec) : _root_.Go.OpenSpec := { _root_.Go.OpenSpec.ofChange s with cond := some uptoSmall }

/-- 'annalistlaw13.ServeHeads', WHERE WHAT IT READS IS OF BULK AT MOST 1048576: true; the input reads as it did. -/
def serveHeadsUptoRow : OpenClaim := { program := "ytakgolbgeeoioaagreat", sum := "b4ac9f5c2b29966ef621fcf863a95cfd90c9e51c10f3aebad410328de6fdad05", func := "annalist/annalistlaw13.ServeHeads", spec := "serveHeads", inPlace := ["internal/abi.NoEscape"], unfollowed := true, recurses := true, apart := false, narrowed := true }
def ServeHeadsUptoSaid : Prop := serveHeadsUptoRow.holds Tryz.pinned (OpenSpec.upto serveHeadsSpec)

/-- 'annalistlaw13.ServeAnswers', WHERE WHAT IT READS IS OF BULK AT MOST 1048576: true; the input reads as it did. -/
def serveAnswersUptoRow : OpenClaim := { program := "ytakgolbgeeoioaagreat", sum := "b4ac9f5c2b29966ef621fcf863a95cfd90c9e51c10f3aebad410328de6fdad05", func := "annalist/annalistlaw13.ServeAnswers", spec := "serveAnswers", inPlace := ["internal/abi.NoEscape"], unfollowed := true, recurses := true, apart := false, narrowed := true }
def ServeAnswersUptoSaid : Prop := serveAnswersUptoRow.holds Tryz.pinned (OpenSpec.upto serveAnswersSpec)

/-- 'annalistlaw13.ServeStays', WHERE WHAT IT READS IS OF BULK AT MOST 1048576: true; the input reads as it did. -/
def serveStaysUptoRow : OpenClaim := { program := "ytakgolbgeeoioaagreat", sum := "b4ac9f5c2b29966ef621fcf863a95cfd90c9e51c10f3aebad410328de6fdad05", func := "annalist/annalistlaw13.ServeStays", spec := "serveStays", inPlace := ["internal/abi.NoEscape"], unfollowed := true, recurses := true, apart := false, narrowed := true }
def ServeStaysUptoSaid : Prop := serveStaysUptoRow.holds Tryz.pinned (OpenSpec.upto serveStaysSpec)

/-- 'annalistlaw13.ServeArgs', WHERE WHAT IT READS IS OF BULK AT MOST 1048576: true; the input reads as it did. -/
def serveArgsUptoRow : OpenClaim := { program := "ytakgolbgeeoioaagreat", sum := "b4ac9f5c2b29966ef621fcf863a95cfd90c9e51c10f3aebad410328de6fdad05", func := "annalist/annalistlaw13.ServeArgs", spec := "serveArgs", inPlace := ["internal/abi.NoEscape"], unfollowed := true, recurses := true, apart := false, narrowed := true }
def ServeArgsUptoSaid : Prop := serveArgsUptoRow.holds Tryz.pinned (OpenSpec.upto serveArgsSpec)

end Rows
end Go.Proofs.YtakgolbgeeoioaaGreat

/-
  No cell of these rows narrows 'for every input' (looked for: loops, veiled, ifaces, maps, wideKeys, modest, calm, conditions, laid).
  DERIVED. THE GIVEN ROWS OF THIS SEAT. 4 by the template 'for every input the law returns true; each argument reads behind the call as it read before'; 0 by the template 'total and deterministic' (their statements: YtedkhcjbppknpaaTotals.lean).
  GIVEN WITH THE SEED: the statements are not yours to turn. If you find one false, say at which input.
  Laid BY PROGRAM, IN A SANDBOX (cutbox-rows.mjs): the forced cells as the released guide's own fill.sh prints them over the translation 9272c9f89398006e… (all of the seat's roots in one cut). By AI agents, Wed Nov 11 2026. No macro, syntax, notation, axiom, sorry.
-/
import Derived.Test.YtedkhcjbppknpaaChecked
import GoSem.Claim
import GoSem.ClaimJoined
import GoSem.ClaimMapViews
import Derived.JoinedTies
import Derived.KernelRfl
namespace Go.Proofs.Ytedkhcjbppknpaa
/- THE CELL 'sum', in the pinned program and in every row, IS THE sha256 OF THE DUMP (.gsa) THAT YtedkhcjbppknpaaProg.lean LOADS. Nothing in Lean hashes anything: it is a label: what it is worth is what the hold of that sum in a sandbox is worth. -/
noncomputable def Try.pinned : Pinned := { name := "ytedkhcjbppknpaa", sum := "9272c9f89398006eda1a9f980706c2a59c9b961e65f7ac109c72f941369f48e3", checked := Try.checked }
namespace Rows
def none {H : Type} : Left H := { results := [], args := [] }

/-- 'annalistlaw05.SmtOrder': WHATEVER THE INPUT: true; the input reads as it did. -/
def smtOrderSpec : ChangeSpec := { name := "smtOrder", fn := fun _ => fun
  | [d] => { results := [.lit (.bool true)], args := [d] }
  | _ => none }
def smtOrderRow : OpenClaim := { program := "ytedkhcjbppknpaa", sum := "9272c9f89398006eda1a9f980706c2a59c9b961e65f7ac109c72f941369f48e3", func := "annalist/annalistlaw05.SmtOrder", spec := "smtOrder", inPlace := ["internal/abi.NoEscape"], unfollowed := true, recurses := true, apart := false }
def SmtOrderSaid : Prop := smtOrderRow.holds Try.pinned (OpenSpec.ofChange smtOrderSpec)

/-- ITS FALSE NEIGHBOUR: 'it returns false'. Refute it at one input. -/
def smtOrderWrong : ChangeSpec := { name := "smtOrder", fn := fun _ => fun
  | [d] => { results := [.lit (.bool false)], args := [d] }
  | _ => none }
def SmtOrderWrongFalsely : Prop := smtOrderRow.holds Try.pinned (OpenSpec.ofChange smtOrderWrong)

/-- 'annalistlaw05.SmtEach': WHATEVER THE INPUT: true; the input reads as it did. -/
def smtEachSpec : ChangeSpec := { name := "smtEach", fn := fun _ => fun
  | [d1, d2] => { results := [.lit (.bool true)], args := [d1, d2] }
  | _ => none }
def smtEachRow : OpenClaim := { program := "ytedkhcjbppknpaa", sum := "9272c9f89398006eda1a9f980706c2a59c9b961e65f7ac109c72f941369f48e3", func := "annalist/annalistlaw05.SmtEach", spec := "smtEach", inPlace := ["internal/abi.NoEscape"], unfollowed := true, recurses := true, apart := false }
def SmtEachSaid : Prop := smtEachRow.holds Try.pinned (OpenSpec.ofChange smtEachSpec)

/-- ITS FALSE NEIGHBOUR: 'it returns false'. Refute it at one input. -/
def smtEachWrong : ChangeSpec := { name := "smtEach", fn := fun _ => fun
  | [d1, d2] => { results := [.lit (.bool false)], args := [d1, d2] }
  | _ => none }
def SmtEachWrongFalsely : Prop := smtEachRow.holds Try.pinned (OpenSpec.ofChange smtEachWrong)

/-- 'annalistlaw05.SmtProves': WHATEVER THE INPUT: true; the input reads as it did. -/
def smtProvesSpec : ChangeSpec := { name := "smtProves", fn := fun _ => fun
  | [d1, d2] => { results := [.lit (.bool true)], args := [d1, d2] }
  | _ => none }
def smtProvesRow : OpenClaim := { program := "ytedkhcjbppknpaa", sum := "9272c9f89398006eda1a9f980706c2a59c9b961e65f7ac109c72f941369f48e3", func := "annalist/annalistlaw05.SmtProves", spec := "smtProves", inPlace := ["internal/abi.NoEscape"], unfollowed := true, recurses := true, apart := false }
def SmtProvesSaid : Prop := smtProvesRow.holds Try.pinned (OpenSpec.ofChange smtProvesSpec)

/-- ITS FALSE NEIGHBOUR: 'it returns false'. Refute it at one input. -/
def smtProvesWrong : ChangeSpec := { name := "smtProves", fn := fun _ => fun
  | [d1, d2] => { results := [.lit (.bool false)], args := [d1, d2] }
  | _ => none }
def SmtProvesWrongFalsely : Prop := smtProvesRow.holds Try.pinned (OpenSpec.ofChange smtProvesWrong)

/-- 'annalistlaw05.SmtVerifies': WHATEVER THE INPUT: true; the input reads as it did. -/
def smtVerifiesSpec : ChangeSpec := { name := "smtVerifies", fn := fun _ => fun
  | [d1, d2, d3] => { results := [.lit (.bool true)], args := [d1, d2, d3] }
  | _ => none }
def smtVerifiesRow : OpenClaim := { program := "ytedkhcjbppknpaa", sum := "9272c9f89398006eda1a9f980706c2a59c9b961e65f7ac109c72f941369f48e3", func := "annalist/annalistlaw05.SmtVerifies", spec := "smtVerifies", inPlace := ["internal/abi.NoEscape"], unfollowed := true, recurses := true, apart := false }
def SmtVerifiesSaid : Prop := smtVerifiesRow.holds Try.pinned (OpenSpec.ofChange smtVerifiesSpec)

/-- ITS FALSE NEIGHBOUR: 'it returns false'. Refute it at one input. -/
def smtVerifiesWrong : ChangeSpec := { name := "smtVerifies", fn := fun _ => fun
  | [d1, d2, d3] => { results := [.lit (.bool false)], args := [d1, d2, d3] }
  | _ => none }
def SmtVerifiesWrongFalsely : Prop := smtVerifiesRow.holds Try.pinned (OpenSpec.ofChange smtVerifiesWrong)

/- THE SECOND FORM. 'bulk': how many values and letters a reading holds, each counted each time it is reached (what is shared counts as often as it is met; a slice's spare places count too). A statement '..UptoSaid' is the law's where the arguments, and the package variables that the reading takes, are together of bulk at most 1048576: NARROWER than '..Said'. Prove '..Said' where nothing that the law and all that it calls make is longer than what came in: it says more and counts as full. Else prove '..UptoSaid'. A law counts once. -/
mutual
def uptoBulk {H : Type} : DataW H → Nat
  | .lit (.string bytes) => bytes.length + 1
  | .lit _ => 1
  | .nil => 1
  | .ptr d => uptoBulk d + 1
  | .slice elems spare => uptoBulkAll elems + uptoBulkAll spare + 1
  | .agg parts => uptoBulkAll parts + 1
  | .iface _ d => uptoBulk d + 1
  | .map entries => uptoBulkEntries entries + 1
  | .held _ => 1
def uptoBulkAll {H : Type} : List (DataW H) → Nat
  | [] => 0
  | d :: r => uptoBulk d + uptoBulkAll r
def uptoBulkEntries {H : Type} : List (Lit × DataW H) → Nat
  | [] => 0
  | x :: r => uptoBulkEntry x + uptoBulkEntries r
def uptoBulkEntry {H : Type} : Lit × DataW H → Nat
  | (.string bytes, d) => bytes.length + uptoBulk d + 1
  | (_, d) => uptoBulk d + 1
 end
def uptoSmall : (H : Type) → List (DataW H) → Bool := fun _ ds => decide (uptoBulkAll ds ≤ 1048576)
def OpenSpec.upto (s : _root_.Go.ChangeSpec) : _root_.Go.OpenSpec := { _root_.Go.OpenSpec.ofChange s with cond := some uptoSmall }

/-- 'annalistlaw05.SmtOrder', WHERE WHAT IT READS IS OF BULK AT MOST 1048576: true; the input reads as it did. -/
def smtOrderUptoRow : OpenClaim := { program := "ytedkhcjbppknpaa", sum := "9272c9f89398006eda1a9f980706c2a59c9b961e65f7ac109c72f941369f48e3", func := "annalist/annalistlaw05.SmtOrder", spec := "smtOrder", inPlace := ["internal/abi.NoEscape"], unfollowed := true, recurses := true, apart := false, narrowed := true }
def SmtOrderUptoSaid : Prop := smtOrderUptoRow.holds Try.pinned (OpenSpec.upto smtOrderSpec)

/-- 'annalistlaw05.SmtEach', WHERE WHAT IT READS IS OF BULK AT MOST 1048576: true; the input reads as it did. -/
def smtEachUptoRow : OpenClaim := { program := "ytedkhcjbppknpaa", sum := "9272c9f89398006eda1a9f980706c2a59c9b961e65f7ac109c72f941369f48e3", func := "annalist/annalistlaw05.SmtEach", spec := "smtEach", inPlace := ["internal/abi.NoEscape"], unfollowed := true, recurses := true, apart := false, narrowed := true }
def SmtEachUptoSaid : Prop := smtEachUptoRow.holds Try.pinned (OpenSpec.upto smtEachSpec)

/-- 'annalistlaw05.SmtProves', WHERE WHAT IT READS IS OF BULK AT MOST 1048576: true; the input reads as it did. -/
def smtProvesUptoRow : OpenClaim := { program := "ytedkhcjbppknpaa", sum := "9272c9f89398006eda1a9f980706c2a59c9b961e65f7ac109c72f941369f48e3", func := "annalist/annalistlaw05.SmtProves", spec := "smtProves", inPlace := ["internal/abi.NoEscape"], unfollowed := true, recurses := true, apart := false, narrowed := true }
def SmtProvesUptoSaid : Prop := smtProvesUptoRow.holds Try.pinned (OpenSpec.upto smtProvesSpec)

/-- 'annalistlaw05.SmtVerifies', WHERE WHAT IT READS IS OF BULK AT MOST 1048576: true; the input reads as it did. -/
def smtVerifiesUptoRow : OpenClaim := { program := "ytedkhcjbppknpaa", sum := "9272c9f89398006eda1a9f980706c2a59c9b961e65f7ac109c72f941369f48e3", func := "annalist/annalistlaw05.SmtVerifies", spec := "smtVerifies", inPlace := ["internal/abi.NoEscape"], unfollowed := true, recurses := true, apart := false, narrowed := true }
def SmtVerifiesUptoSaid : Prop := smtVerifiesUptoRow.holds Try.pinned (OpenSpec.upto smtVerifiesSpec)

end Rows
end Go.Proofs.Ytedkhcjbppknpaa

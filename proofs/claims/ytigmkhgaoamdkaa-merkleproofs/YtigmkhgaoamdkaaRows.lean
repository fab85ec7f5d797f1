/-
  No cell of these rows narrows 'for every input' (looked for: loops, veiled, ifaces, maps, wideKeys, modest, calm, conditions, laid).
  DERIVED. THE GIVEN ROWS OF THIS SEAT. 5 by the template 'for every input the law returns true; each argument reads behind the call as it read before'; 0 by the template 'total and deterministic' (their statements: YtigmkhgaoamdkaaTotals.lean).
  GIVEN WITH THE SEED: the statements are not yours to turn. If you find one false, say at which input.
  Laid BY PROGRAM, IN A SANDBOX (cutbox-rows.mjs): the forced cells as the released guide's own fill.sh prints them over the translation b97215350df0bf81… (all of the seat's roots in one cut). By AI agents, Wed Nov 11 2026. No macro, syntax, notation, axiom, sorry.
-/
import Derived.Test.YtigmkhgaoamdkaaChecked
import GoSem.Claim
import GoSem.ClaimJoined
import GoSem.ClaimMapViews
import Derived.JoinedTies
import Derived.KernelRfl
namespace Go.Proofs.Ytigmkhgaoamdkaa
/- THE CELL 'sum', in the pinned program and in every row, IS THE sha256 OF THE DUMP (.gsa) THAT YtigmkhgaoamdkaaProg.lean LOADS. Nothing in Lean hashes anything: it is a label: what it is worth is what the hold of that sum in a sandbox is worth. -/
noncomputable def Try.pinned : Pinned := { name := "ytigmkhgaoamdkaa", sum := "b97215350df0bf81023039ea63f73af5b2294948c7aafa1853f1a07f144ee20a", checked := Try.checked }
namespace Rows
def none {H : Type} : Left H := { results := [], args := [] }

/-- 'annalistlaw04.MerkleChain': WHATEVER THE INPUT: true; the input reads as it did. -/
def merkleChainSpec : ChangeSpec := { name := "merkleChain", fn := fun _ => fun
  | [d1, d2] => { results := [.lit (.bool true)], args := [d1, d2] }
  | _ => none }
def merkleChainRow : OpenClaim := { program := "ytigmkhgaoamdkaa", sum := "b97215350df0bf81023039ea63f73af5b2294948c7aafa1853f1a07f144ee20a", func := "annalist/annalistlaw04.MerkleChain", spec := "merkleChain", unfollowed := true, recurses := true, apart := false }
def MerkleChainSaid : Prop := merkleChainRow.holds Try.pinned (OpenSpec.ofChange merkleChainSpec)

/-- ITS FALSE NEIGHBOUR: 'it returns false'. Refute it at one input. -/
def merkleChainWrong : ChangeSpec := { name := "merkleChain", fn := fun _ => fun
  | [d1, d2] => { results := [.lit (.bool false)], args := [d1, d2] }
  | _ => none }
def MerkleChainWrongFalsely : Prop := merkleChainRow.holds Try.pinned (OpenSpec.ofChange merkleChainWrong)

/-- 'annalistlaw04.MerkleEach': WHATEVER THE INPUT: true; the input reads as it did. -/
def merkleEachSpec : ChangeSpec := { name := "merkleEach", fn := fun _ => fun
  | [d] => { results := [.lit (.bool true)], args := [d] }
  | _ => none }
def merkleEachRow : OpenClaim := { program := "ytigmkhgaoamdkaa", sum := "b97215350df0bf81023039ea63f73af5b2294948c7aafa1853f1a07f144ee20a", func := "annalist/annalistlaw04.MerkleEach", spec := "merkleEach", unfollowed := true, recurses := true, apart := false }
def MerkleEachSaid : Prop := merkleEachRow.holds Try.pinned (OpenSpec.ofChange merkleEachSpec)

/-- ITS FALSE NEIGHBOUR: 'it returns false'. Refute it at one input. -/
def merkleEachWrong : ChangeSpec := { name := "merkleEach", fn := fun _ => fun
  | [d] => { results := [.lit (.bool false)], args := [d] }
  | _ => none }
def MerkleEachWrongFalsely : Prop := merkleEachRow.holds Try.pinned (OpenSpec.ofChange merkleEachWrong)

/-- 'annalistlaw04.MerkleProofs': WHATEVER THE INPUT: true; the input reads as it did. -/
def merkleProofsSpec : ChangeSpec := { name := "merkleProofs", fn := fun _ => fun
  | [d1, d2, d3] => { results := [.lit (.bool true)], args := [d1, d2, d3] }
  | _ => none }
def merkleProofsRow : OpenClaim := { program := "ytigmkhgaoamdkaa", sum := "b97215350df0bf81023039ea63f73af5b2294948c7aafa1853f1a07f144ee20a", func := "annalist/annalistlaw04.MerkleProofs", spec := "merkleProofs", unfollowed := true, recurses := true, apart := false }
def MerkleProofsSaid : Prop := merkleProofsRow.holds Try.pinned (OpenSpec.ofChange merkleProofsSpec)

/-- ITS FALSE NEIGHBOUR: 'it returns false'. Refute it at one input. -/
def merkleProofsWrong : ChangeSpec := { name := "merkleProofs", fn := fun _ => fun
  | [d1, d2, d3] => { results := [.lit (.bool false)], args := [d1, d2, d3] }
  | _ => none }
def MerkleProofsWrongFalsely : Prop := merkleProofsRow.holds Try.pinned (OpenSpec.ofChange merkleProofsWrong)

/-- 'annalistlaw04.MerkleIncluded': WHATEVER THE INPUT: true; the input reads as it did. -/
def merkleIncludedSpec : ChangeSpec := { name := "merkleIncluded", fn := fun _ => fun
  | [d1, d2, d3] => { results := [.lit (.bool true)], args := [d1, d2, d3] }
  | _ => none }
def merkleIncludedRow : OpenClaim := { program := "ytigmkhgaoamdkaa", sum := "b97215350df0bf81023039ea63f73af5b2294948c7aafa1853f1a07f144ee20a", func := "annalist/annalistlaw04.MerkleIncluded", spec := "merkleIncluded", unfollowed := true, recurses := true, apart := false }
def MerkleIncludedSaid : Prop := merkleIncludedRow.holds Try.pinned (OpenSpec.ofChange merkleIncludedSpec)

/-- ITS FALSE NEIGHBOUR: 'it returns false'. Refute it at one input. -/
def merkleIncludedWrong : ChangeSpec := { name := "merkleIncluded", fn := fun _ => fun
  | [d1, d2, d3] => { results := [.lit (.bool false)], args := [d1, d2, d3] }
  | _ => none }
def MerkleIncludedWrongFalsely : Prop := merkleIncludedRow.holds Try.pinned (OpenSpec.ofChange merkleIncludedWrong)

/-- 'annalistlaw04.MerkleConsistent': WHATEVER THE INPUT: true; the input reads as it did. -/
def merkleConsistentSpec : ChangeSpec := { name := "merkleConsistent", fn := fun _ => fun
  | [d1, d2, d3] => { results := [.lit (.bool true)], args := [d1, d2, d3] }
  | _ => none }
def merkleConsistentRow : OpenClaim := { program := "ytigmkhgaoamdkaa", sum := "b97215350df0bf81023039ea63f73af5b2294948c7aafa1853f1a07f144ee20a", func := "annalist/annalistlaw04.MerkleConsistent", spec := "merkleConsistent", unfollowed := true, recurses := true, apart := false }
def MerkleConsistentSaid : Prop := merkleConsistentRow.holds Try.pinned (OpenSpec.ofChange merkleConsistentSpec)

/-- ITS FALSE NEIGHBOUR: 'it returns false'. Refute it at one input. -/
def merkleConsistentWrong : ChangeSpec := { name := "merkleConsistent", fn := fun _ => fun
  | [d1, d2, d3] => { results := [.lit (.bool false)], args := [d1, d2, d3] }
  | _ => none }
def MerkleConsistentWrongFalsely : Prop := merkleConsistentRow.holds Try.pinned (OpenSpec.ofChange merkleConsistentWrong)

/- THE SECOND FORM. 'bulk': how many values and letters a reading holds, each counted each time it is reached (what is shared counts as often as it is met; a slice's spare places count too). A statement '..UptoSaid' is the law's where the arguments, and the package variables that the reading takes, are together of bulk at most 1048576: NARROWER than '..Said'. Prove '..Said' where nothing that the law and all that it calls make is longer than what came in: it says more and counts as full. Else prove '..UptoSaid'. A law counts once. -/
mutual
def uptoBulk {H : Type} : DataW H → Nat
  | .lit (.string bytes) => bytes.length + 1
  | .lit _ => 1
  | .nil => 1
  | .ptr d => uptoBulk d + 1
  | .slice elems spare => uptoBulkAll elems + uptoBulkAll spare + 1
  | .agg parts => uptoBulkAll parts + 1
  | .iface _ d => uptoBulk d + 1
  | .map entries => uptoBulkEntries entries + 1
  | .held _ => 1
def uptoBulkAll {H : Type} : List (DataW H) → Nat
  | [] => 0
  | d :: r => uptoBulk d + uptoBulkAll r
def uptoBulkEntries {H : Type} : List (Lit × DataW H) → Nat
  | [] => 0
  | x :: r => uptoBulkEntry x + uptoBulkEntries r
def uptoBulkEntry {H : Type} : Lit × DataW H → Nat
  | (.string bytes, d) => bytes.length + uptoBulk d + 1
  | (_, d) => uptoBulk d + 1
 end
def uptoSmall : (H : Type) → List (DataW H) → Bool := fun _ ds => decide (uptoBulkAll ds ≤ 1048576)
def OpenSpec.upto (s : _root_.Go.ChangeSpec) : _root_.Go.OpenSpec := { _root_.Go.OpenSpec.ofChange s with cond := some uptoSmall }

/-- 'annalistlaw04.MerkleChain', WHERE WHAT IT READS IS OF BULK AT MOST 1048576: true; the input reads as it did. -/
def merkleChainUptoRow : OpenClaim := { program := "ytigmkhgaoamdkaa", sum := "b97215350df0bf81023039ea63f73af5b2294948c7aafa1853f1a07f144ee20a", func := "annalist/annalistlaw04.MerkleChain", spec := "merkleChain", unfollowed := true, recurses := true, apart := false, narrowed := true }
def MerkleChainUptoSaid : Prop := merkleChainUptoRow.holds Try.pinned (OpenSpec.upto merkleChainSpec)

/-- 'annalistlaw04.MerkleEach', WHERE WHAT IT READS IS OF BULK AT MOST 1048576: true; the input reads as it did. -/
def merkleEachUptoRow : OpenClaim := { program := "ytigmkhgaoamdkaa", sum := "b97215350df0bf81023039ea63f73af5b2294948c7aafa1853f1a07f144ee20a", func := "annalist/annalistlaw04.MerkleEach", spec := "merkleEach", unfollowed := true, recurses := true, apart := false, narrowed := true }
def MerkleEachUptoSaid : Prop := merkleEachUptoRow.holds Try.pinned (OpenSpec.upto merkleEachSpec)

/-- 'annalistlaw04.MerkleProofs', WHERE WHAT IT READS IS OF BULK AT MOST 1048576: true; the input reads as it did. -/
def merkleProofsUptoRow : OpenClaim := { program := "ytigmkhgaoamdkaa", sum := "b97215350df0bf81023039ea63f73af5b2294948c7aafa1853f1a07f144ee20a", func := "annalist/annalistlaw04.MerkleProofs", spec := "merkleProofs", unfollowed := true, recurses := true, apart := false, narrowed := true }
def MerkleProofsUptoSaid : Prop := merkleProofsUptoRow.holds Try.pinned (OpenSpec.upto merkleProofsSpec)

/-- 'annalistlaw04.MerkleIncluded', WHERE WHAT IT READS IS OF BULK AT MOST 1048576: true; the input reads as it did. -/
def merkleIncludedUptoRow : OpenClaim := { program := "ytigmkhgaoamdkaa", sum := "b97215350df0bf81023039ea63f73af5b2294948c7aafa1853f1a07f144ee20a", func := "annalist/annalistlaw04.MerkleIncluded", spec := "merkleIncluded", unfollowed := true, recurses := true, apart := false, narrowed := true }
def MerkleIncludedUptoSaid : Prop := merkleIncludedUptoRow.holds Try.pinned (OpenSpec.upto merkleIncludedSpec)

/-- 'annalistlaw04.MerkleConsistent', WHERE WHAT IT READS IS OF BULK AT MOST 1048576: true; the input reads as it did. -/
def merkleConsistentUptoRow : OpenClaim := { program := "ytigmkhgaoamdkaa", sum := "b97215350df0bf81023039ea63f73af5b2294948c7aafa1853f1a07f144ee20a", func := "annalist/annalistlaw04.MerkleConsistent", spec := "merkleConsistent", unfollowed := true, recurses := true, apart := false, narrowed := true }
def MerkleConsistentUptoSaid : Prop := merkleConsistentUptoRow.holds Try.pinned (OpenSpec.upto merkleConsistentSpec)

end Rows
end Go.Proofs.Ytigmkhgaoamdkaa

/-
  No cell of these rows narrows 'for every input' (looked for: loops, veiled, ifaces, maps, wideKeys, modest, calm, conditions, laid).
  DERIVED. THE GIVEN ROWS OF THIS SEAT. 4 by the template 'for every input the law returns true; each argument reads behind the call as it read before'; 0 by the template 'total and deterministic' (their statements: YtpapmcdnaplmkaaTotals.lean).
  GIVEN WITH THE SEED: the statements are not yours to turn. If you find one false, say at which input.
  Laid BY PROGRAM, IN A SANDBOX (cutbox-rows.mjs): the forced cells as the released guide's own fill.sh prints them over the translation 7215e52c250d9e87… (all of the seat's roots in one cut). By AI agents, Wed Nov 11 2026. No macro, syntax, notation, axiom, sorry.
-/
import Derived.Test.YtpapmcdnaplmkaaChecked
import GoSem.Claim
import GoSem.ClaimJoined
import GoSem.ClaimMapViews
import Derived.JoinedTies
import Derived.KernelRfl
namespace Go.Proofs.Ytpapmcdnaplmkaa
/- THE CELL 'sum', in the pinned program and in every row, IS THE sha256 OF THE DUMP (.gsa) THAT YtpapmcdnaplmkaaProg.lean LOADS. Nothing in Lean hashes anything: it is a label: what it is worth is what the hold of that sum in a sandbox is worth. -/
noncomputable def Try.pinned : Pinned := { name := "ytpapmcdnaplmkaa", sum := "7215e52c250d9e87852ec2ab975926e71ee732342aa3b00607b4d1a1700fb33d", checked := Try.checked }
namespace Rows
def none {H : Type} : Left H := { results := [], args := [] }

/-- 'annalistlaw07.TileCovers': WHATEVER THE INPUT: true; the input reads as it did. -/
def tileCoversSpec : ChangeSpec := { name := "tileCovers", fn := fun _ => fun
  | [d] => { results := [.lit (.bool true)], args := [d] }
  | _ => none }
def tileCoversRow : OpenClaim := { program := "ytpapmcdnaplmkaa", sum := "7215e52c250d9e87852ec2ab975926e71ee732342aa3b00607b4d1a1700fb33d", func := "annalist/annalistlaw07.TileCovers", spec := "tileCovers", unfollowed := true, recurses := true, apart := false }
def TileCoversSaid : Prop := tileCoversRow.holds Try.pinned (OpenSpec.ofChange tileCoversSpec)

/-- ITS FALSE NEIGHBOUR: 'it returns false'. Refute it at one input. -/
def tileCoversWrong : ChangeSpec := { name := "tileCovers", fn := fun _ => fun
  | [d] => { results := [.lit (.bool false)], args := [d] }
  | _ => none }
def TileCoversWrongFalsely : Prop := tileCoversRow.holds Try.pinned (OpenSpec.ofChange tileCoversWrong)

/-- 'annalistlaw07.TileSame': WHATEVER THE INPUT: true; the input reads as it did. -/
def tileSameSpec : ChangeSpec := { name := "tileSame", fn := fun _ => fun
  | [d1, d2, d3] => { results := [.lit (.bool true)], args := [d1, d2, d3] }
  | _ => none }
def tileSameRow : OpenClaim := { program := "ytpapmcdnaplmkaa", sum := "7215e52c250d9e87852ec2ab975926e71ee732342aa3b00607b4d1a1700fb33d", func := "annalist/annalistlaw07.TileSame", spec := "tileSame", unfollowed := true, recurses := true, apart := false }
def TileSameSaid : Prop := tileSameRow.holds Try.pinned (OpenSpec.ofChange tileSameSpec)

/-- ITS FALSE NEIGHBOUR: 'it returns false'. Refute it at one input. -/
def tileSameWrong : ChangeSpec := { name := "tileSame", fn := fun _ => fun
  | [d1, d2, d3] => { results := [.lit (.bool false)], args := [d1, d2, d3] }
  | _ => none }
def TileSameWrongFalsely : Prop := tileSameRow.holds Try.pinned (OpenSpec.ofChange tileSameWrong)

/-- 'annalistlaw07.TileCounts': WHATEVER THE INPUT: true; the input reads as it did. -/
def tileCountsSpec : ChangeSpec := { name := "tileCounts", fn := fun _ => fun
  | [d1, d2, d3] => { results := [.lit (.bool true)], args := [d1, d2, d3] }
  | _ => none }
def tileCountsRow : OpenClaim := { program := "ytpapmcdnaplmkaa", sum := "7215e52c250d9e87852ec2ab975926e71ee732342aa3b00607b4d1a1700fb33d", func := "annalist/annalistlaw07.TileCounts", spec := "tileCounts", unfollowed := true, recurses := true, apart := false }
def TileCountsSaid : Prop := tileCountsRow.holds Try.pinned (OpenSpec.ofChange tileCountsSpec)

/-- ITS FALSE NEIGHBOUR: 'it returns false'. Refute it at one input. -/
def tileCountsWrong : ChangeSpec := { name := "tileCounts", fn := fun _ => fun
  | [d1, d2, d3] => { results := [.lit (.bool false)], args := [d1, d2, d3] }
  | _ => none }
def TileCountsWrongFalsely : Prop := tileCountsRow.holds Try.pinned (OpenSpec.ofChange tileCountsWrong)

/-- 'annalistlaw07.TileCuts': WHATEVER THE INPUT: true; the input reads as it did. -/
def tileCutsSpec : ChangeSpec := { name := "tileCuts", fn := fun _ => fun
  | [d1, d2, d3] => { results := [.lit (.bool true)], args := [d1, d2, d3] }
  | _ => none }
def tileCutsRow : OpenClaim := { program := "ytpapmcdnaplmkaa", sum := "7215e52c250d9e87852ec2ab975926e71ee732342aa3b00607b4d1a1700fb33d", func := "annalist/annalistlaw07.TileCuts", spec := "tileCuts", unfollowed := true, recurses := true, apart := false }
def TileCutsSaid : Prop := tileCutsRow.holds Try.pinned (OpenSpec.ofChange tileCutsSpec)

/-- ITS FALSE NEIGHBOUR: 'it returns false'. Refute it at one input. -/
def tileCutsWrong : ChangeSpec := { name := "tileCuts", fn := fun _ => fun
  | [d1, d2, d3] => { results := [.lit (.bool false)], args := [d1, d2, d3] }
  | _ => none }
def TileCutsWrongFalsely : Prop := tileCutsRow.holds Try.pinned (OpenSpec.ofChange tileCutsWrong)

/- THE SECOND FORM. 'bulk': how many values and letters a reading holds, each counted each time it is reached (what is shared counts as often as it is met; a slice's spare places count too). A statement '..UptoSaid' is the law's where the arguments, and the package variables that the reading takes, are together of bulk at most 1048576: NARROWER than '..Said'. Prove '..Said' where nothing that the law and all that it calls make is longer than what came in: it says more and counts as full. Else prove '..UptoSaid'. A law counts once. -/
mutual
def uptoBulk {H : Type} : DataW H → Nat
  | .lit (.string bytes) => bytes.length + 1
  | .lit _ => 1
  | .nil => 1
  | .ptr d => uptoBulk d + 1
  | .slice elems spare => uptoBulkAll elems + uptoBulkAll spare + 1
  | .agg parts => uptoBulkAll parts + 1
  | .iface _ d => uptoBulk d + 1
  | .map entries => uptoBulkEntries entries + 1
  | .held _ => 1
def uptoBulkAll {H : Type} : List (DataW H) → Nat
  | [] => 0
  | d :: r => uptoBulk d + uptoBulkAll r
def uptoBulkEntries {H : Type} : List (Lit × DataW H) → Nat
  | [] => 0
  | x :: r => uptoBulkEntry x + uptoBulkEntries r
def uptoBulkEntry {H : Type} : Lit × DataW H → Nat
  | (.string bytes, d) => bytes.length + uptoBulk d + 1
  | (_, d) => uptoBulk d + 1
 end
def uptoSmall : (H : Type) → List (DataW H) → Bool := fun _ ds => decide (uptoBulkAll ds ≤ 1048576)
def OpenSpec.upto (s : _root_.Go.ChangeSpec) : _root_.Go.OpenSpec := { _root_.Go.OpenSpec.ofChange s with cond := some uptoSmall }

/-- 'annalistlaw07.TileCovers', WHERE WHAT IT READS IS OF BULK AT MOST 1048576: true; the input reads as it did. -/
def tileCoversUptoRow : OpenClaim := { program := "ytpapmcdnaplmkaa", sum := "7215e52c250d9e87852ec2ab975926e71ee732342aa3b00607b4d1a1700fb33d", func := "annalist/annalistlaw07.TileCovers", spec := "tileCovers", unfollowed := true, recurses := true, apart := false, narrowed := true }
def TileCoversUptoSaid : Prop := tileCoversUptoRow.holds Try.pinned (OpenSpec.upto tileCoversSpec)

/-- 'annalistlaw07.TileSame', WHERE WHAT IT READS IS OF BULK AT MOST 1048576: true; the input reads as it did. -/
def tileSameUptoRow : OpenClaim := { program := "ytpapmcdnaplmkaa", sum := "7215e52c250d9e87852ec2ab975926e71ee732342aa3b00607b4d1a1700fb33d", func := "annalist/annalistlaw07.TileSame", spec := "tileSame", unfollowed := true, recurses := true, apart := false, narrowed := true }
def TileSameUptoSaid : Prop := tileSameUptoRow.holds Try.pinned (OpenSpec.upto tileSameSpec)

/-- 'annalistlaw07.TileCounts', WHERE WHAT IT READS IS OF BULK AT MOST 1048576: true; the input reads as it did. -/
def tileCountsUptoRow : OpenClaim := { program := "ytpapmcdnaplmkaa", sum := "7215e52c250d9e87852ec2ab975926e71ee732342aa3b00607b4d1a1700fb33d", func := "annalist/annalistlaw07.TileCounts", spec := "tileCounts", unfollowed := true, recurses := true, apart := false, narrowed := true }
def TileCountsUptoSaid : Prop := tileCountsUptoRow.holds Try.pinned (OpenSpec.upto tileCountsSpec)

/-- 'annalistlaw07.TileCuts', WHERE WHAT IT READS IS OF BULK AT MOST 1048576: true; the input reads as it did. -/
def tileCutsUptoRow : OpenClaim := { program := "ytpapmcdnaplmkaa", sum := "7215e52c250d9e87852ec2ab975926e71ee732342aa3b00607b4d1a1700fb33d", func := "annalist/annalistlaw07.TileCuts", spec := "tileCuts", unfollowed := true, recurses := true, apart := false, narrowed := true }
def TileCutsUptoSaid : Prop := tileCutsUptoRow.holds Try.pinned (OpenSpec.upto tileCutsSpec)

end Rows
end Go.Proofs.Ytpapmcdnaplmkaa

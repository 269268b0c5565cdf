/-
  No cell of these rows narrows 'for every input' (looked for: loops, veiled, ifaces, maps, wideKeys, modest, calm, conditions, laid).
  DERIVED. THE GIVEN ROWS OF THIS SEAT. 3 by the template 'for every input the law returns true; each argument reads behind the call as it read before'; 0 by the template 'total and deterministic' (their statements: YtbmdkibmfkmjoaaGreatTotals.lean).
  GIVEN WITH THE SEED: the statements are not yours to turn. If you find one false, say at which input.
  Laid BY PROGRAM, IN A SANDBOX (cutbox-rows.mjs): the forced cells as the released guide's own fill.sh prints them over the translation bddd6a6c99d2a40d… (all of the seat's roots in one cut). By AI agents, Wed Nov 11 2026. No macro, syntax, notation, axiom, sorry.
-/
import Derived.Test.YtbmdkibmfkmjoaaGreatChecked
import GoSem.Claim
import GoSem.ClaimJoined
import GoSem.ClaimMapViews
import Derived.JoinedTies
import Derived.KernelRfl
namespace Go.Proofs.YtbmdkibmfkmjoaaGreat
/- THE CELL 'sum', in the pinned program and in every row, IS THE sha256 OF THE DUMP (.gsa) THAT YtbmdkibmfkmjoaaGreatProg.lean LOADS. Nothing in Lean hashes anything: it is a label: what it is worth is what the hold of that sum in a sandbox is worth. -/
noncomputable def Tryz.pinned : Pinned := { name := "ytbmdkibmfkmjoaagreat", sum := "bddd6a6c99d2a40dd8ebd184394b4e87bfe703ab086a512244494c5f0b463d7d", checked := Tryz.checked }
namespace Rows
def none {H : Type} : Left H := { results := [], args := [] }

/-- 'towncrierlaw09.QueryTells': WHATEVER THE INPUT: true; the input reads as it did. -/
def queryTellsSpec : ChangeSpec := { name := "queryTells", fn := fun _ => fun
  | [d1, d2, d3, d4] => { results := [.lit (.bool true)], args := [d1, d2, d3, d4] }
  | _ => none }
def queryTellsRow : OpenClaim := { program := "ytbmdkibmfkmjoaagreat", sum := "bddd6a6c99d2a40dd8ebd184394b4e87bfe703ab086a512244494c5f0b463d7d", func := "towncrier/towncrierlaw09.QueryTells", spec := "queryTells", unfollowed := true, recurses := true, apart := false }
def QueryTellsSaid : Prop := queryTellsRow.holds Tryz.pinned (OpenSpec.ofChange queryTellsSpec)

/-- ITS FALSE NEIGHBOUR: 'it returns false'. Refute it at one input. -/
def queryTellsWrong : ChangeSpec := { name := "queryTells", fn := fun _ => fun
  | [d1, d2, d3, d4] => { results := [.lit (.bool false)], args := [d1, d2, d3, d4] }
  | _ => none }
def QueryTellsWrongFalsely : Prop := queryTellsRow.holds Tryz.pinned (OpenSpec.ofChange queryTellsWrong)

/-- 'towncrierlaw09.QueryGrows': WHATEVER THE INPUT: true; the input reads as it did. -/
def queryGrowsSpec : ChangeSpec := { name := "queryGrows", fn := fun _ => fun
  | [d1, d2, d3] => { results := [.lit (.bool true)], args := [d1, d2, d3] }
  | _ => none }
def queryGrowsRow : OpenClaim := { program := "ytbmdkibmfkmjoaagreat", sum := "bddd6a6c99d2a40dd8ebd184394b4e87bfe703ab086a512244494c5f0b463d7d", func := "towncrier/towncrierlaw09.QueryGrows", spec := "queryGrows", unfollowed := true, recurses := true, apart := false }
def QueryGrowsSaid : Prop := queryGrowsRow.holds Tryz.pinned (OpenSpec.ofChange queryGrowsSpec)

/-- ITS FALSE NEIGHBOUR: 'it returns false'. Refute it at one input. -/
def queryGrowsWrong : ChangeSpec := { name := "queryGrows", fn := fun _ => fun
  | [d1, d2, d3] => { results := [.lit (.bool false)], args := [d1, d2, d3] }
  | _ => none }
def QueryGrowsWrongFalsely : Prop := queryGrowsRow.holds Tryz.pinned (OpenSpec.ofChange queryGrowsWrong)

/-- 'towncrierlaw09.QueryMade': WHATEVER THE INPUT: true; the input reads as it did. -/
def queryMadeSpec : ChangeSpec := { name := "queryMade", fn := fun _ => fun
  | [d] => { results := [.lit (.bool true)], args := [d] }
  | _ => none }
def queryMadeRow : OpenClaim := { program := "ytbmdkibmfkmjoaagreat", sum := "bddd6a6c99d2a40dd8ebd184394b4e87bfe703ab086a512244494c5f0b463d7d", func := "towncrier/towncrierlaw09.QueryMade", spec := "queryMade", unfollowed := true, recurses := true, apart := false }
def QueryMadeSaid : Prop := queryMadeRow.holds Tryz.pinned (OpenSpec.ofChange queryMadeSpec)

/-- ITS FALSE NEIGHBOUR: 'it returns false'. Refute it at one input. -/
def queryMadeWrong : ChangeSpec := { name := "queryMade", fn := fun _ => fun
  | [d] => { results := [.lit (.bool false)], args := [d] }
  | _ => none }
def QueryMadeWrongFalsely : Prop := queryMadeRow.holds Tryz.pinned (OpenSpec.ofChange queryMadeWrong)

/- THE SECOND FORM. 'bulk': how many values and letters a reading holds, each counted each time it is reached (what is shared counts as often as it is met; a slice's spare places count too). A statement '..UptoSaid' is the law's where the arguments, and the package variables that the reading takes, are together of bulk at most 1048576: NARROWER than '..Said'. Prove '..Said' where nothing that the law and all that it calls make is longer than what came in: it says more and counts as full. Else prove '..UptoSaid'. A law counts once. -/
mutual
def uptoBulk {H : Type} : DataW H → Nat
  | .lit (.string bytes) => bytes.length + 1
  | .lit _ => 1
  | .nil => 1
  | .ptr d => uptoBulk d + 1
  | .slice elems spare => uptoBulkAll elems + uptoBulkAll spare + 1
  | .agg parts => uptoBulkAll parts + 1
  | .iface _ d => uptoBulk d + 1
  | .map entries => uptoBulkEntries entries + 1
  | .held _ => 1
def uptoBulkAll {H : Type} : List (DataW H) → Nat
  | [] => 0
  | d :: r => uptoBulk d + uptoBulkAll r
def uptoBulkEntries {H : Type} : List (Lit × DataW H) → Nat
  | [] => 0
  | x :: r => uptoBulkEntry x + uptoBulkEntries r
def uptoBulkEntry {H : Type} : Lit × DataW H → Nat
  | (.string bytes, d) => bytes.length + uptoBulk d + 1
  | (_, d) => uptoBulk d + 1
 end
def uptoSmall : (H : Type) → List (DataW H) → Bool := fun _ ds => decide (uptoBulkAll ds ≤ 1048576)
def OpenSpec.upto (s : _root_.Go.ChangeSpec) : _root_.Go.OpenSpec := { _root_.Go.OpenSpec.ofChange s with cond := some uptoSmall }

/-- 'towncrierlaw09.QueryTells', WHERE WHAT IT READS IS OF BULK AT MOST 1048576: true; the input reads as it did. -/
def queryTellsUptoRow : OpenClaim := { program := "ytbmdkibmfkmjoaagreat", sum := "bddd6a6c99d2a40dd8ebd184394b4e87bfe703ab086a512244494c5f0b463d7d", func := "towncrier/towncrierlaw09.QueryTells", spec := "queryTells", unfollowed := true, recurses := true, apart := false, narrowed := true }
def QueryTellsUptoSaid : Prop := queryTellsUptoRow.holds Tryz.pinned (OpenSpec.upto queryTellsSpec)

/-- 'towncrierlaw09.QueryGrows', WHERE WHAT IT READS IS OF BULK AT MOST 1048576: true; the input reads as it did. -/
def queryGrowsUptoRow : OpenClaim := { program := "ytbmdkibmfkmjoaagreat", sum := "bddd6a6c99d2a40dd8ebd184394b4e87bfe703ab086a512244494c5f0b463d7d", func := "towncrier/towncrierlaw09.QueryGrows", spec := "queryGrows", unfollowed := true, recurses := true, apart := false, narrowed := true }
def QueryGrowsUptoSaid : Prop := queryGrowsUptoRow.holds Tryz.pinned (OpenSpec.upto queryGrowsSpec)

/-- 'towncrierlaw09.QueryMade', WHERE WHAT IT READS IS OF BULK AT MOST 1048576: true; the input reads as it did. -/
def queryMadeUptoRow : OpenClaim := { program := "ytbmdkibmfkmjoaagreat", sum := "bddd6a6c99d2a40dd8ebd184394b4e87bfe703ab086a512244494c5f0b463d7d", func := "towncrier/towncrierlaw09.QueryMade", spec := "queryMade", unfollowed := true, recurses := true, apart := false, narrowed := true }
def QueryMadeUptoSaid : Prop := queryMadeUptoRow.holds Tryz.pinned (OpenSpec.upto queryMadeSpec)

end Rows
end Go.Proofs.YtbmdkibmfkmjoaaGreat

/-
  No cell of these rows narrows 'for every input' (looked for: loops, veiled, ifaces, maps, wideKeys, modest, calm, conditions, laid).
  DERIVED. THE GIVEN ROWS OF THIS SEAT. 6 by the template 'for every input the law returns true; each argument reads behind the call as it read before'; 0 by the template 'total and deterministic' (their statements: YtochpomddfjkoaaTotals.lean).
  GIVEN WITH THE SEED: the statements are not yours to turn. If you find one false, say at which input.
  Laid BY PROGRAM, IN A SANDBOX (cutbox-rows.mjs): the forced cells as the released guide's own fill.sh prints them over the translation 708616e7e40ae0ff… (all of the seat's roots in one cut). By AI agents, Wed Nov 11 2026. No macro, syntax, notation, axiom, sorry.
-/
import Derived.Test.YtochpomddfjkoaaChecked
import GoSem.Claim
import GoSem.ClaimJoined
import GoSem.ClaimMapViews
import Derived.JoinedTies
import Derived.KernelRfl
namespace Go.Proofs.Ytochpomddfjkoaa
/- THE CELL 'sum', in the pinned program and in every row, IS THE sha256 OF THE DUMP (.gsa) THAT YtochpomddfjkoaaProg.lean LOADS. Nothing in Lean hashes anything: it is a label: what it is worth is what the hold of that sum in a sandbox is worth. -/
noncomputable def Try.pinned : Pinned := { name := "ytochpomddfjkoaa", sum := "708616e7e40ae0ffe966588ae3f5ac0827f9e2f71a49d2d4dfaf9bef6cee5c68", checked := Try.checked }
namespace Rows
def none {H : Type} : Left H := { results := [], args := [] }

/-- 'towncrierlaw10.IndexTells': WHATEVER THE INPUT: true; the input reads as it did. -/
def indexTellsSpec : ChangeSpec := { name := "indexTells", fn := fun _ => fun
  | [d1, d2, d3, d4] => { results := [.lit (.bool true)], args := [d1, d2, d3, d4] }
  | _ => none }
def indexTellsRow : OpenClaim := { program := "ytochpomddfjkoaa", sum := "708616e7e40ae0ffe966588ae3f5ac0827f9e2f71a49d2d4dfaf9bef6cee5c68", func := "towncrier/towncrierlaw10.IndexTells", spec := "indexTells", unfollowed := true, recurses := true, apart := false }
def IndexTellsSaid : Prop := indexTellsRow.holds Try.pinned (OpenSpec.ofChange indexTellsSpec)

/-- ITS FALSE NEIGHBOUR: 'it returns false'. Refute it at one input. -/
def indexTellsWrong : ChangeSpec := { name := "indexTells", fn := fun _ => fun
  | [d1, d2, d3, d4] => { results := [.lit (.bool false)], args := [d1, d2, d3, d4] }
  | _ => none }
def IndexTellsWrongFalsely : Prop := indexTellsRow.holds Try.pinned (OpenSpec.ofChange indexTellsWrong)

/-- 'towncrierlaw10.IndexShares': WHATEVER THE INPUT: true; the input reads as it did. -/
def indexSharesSpec : ChangeSpec := { name := "indexShares", fn := fun _ => fun
  | [d1, d2, d3, d4] => { results := [.lit (.bool true)], args := [d1, d2, d3, d4] }
  | _ => none }
def indexSharesRow : OpenClaim := { program := "ytochpomddfjkoaa", sum := "708616e7e40ae0ffe966588ae3f5ac0827f9e2f71a49d2d4dfaf9bef6cee5c68", func := "towncrier/towncrierlaw10.IndexShares", spec := "indexShares", unfollowed := true, recurses := true, apart := false }
def IndexSharesSaid : Prop := indexSharesRow.holds Try.pinned (OpenSpec.ofChange indexSharesSpec)

/-- ITS FALSE NEIGHBOUR: 'it returns false'. Refute it at one input. -/
def indexSharesWrong : ChangeSpec := { name := "indexShares", fn := fun _ => fun
  | [d1, d2, d3, d4] => { results := [.lit (.bool false)], args := [d1, d2, d3, d4] }
  | _ => none }
def IndexSharesWrongFalsely : Prop := indexSharesRow.holds Try.pinned (OpenSpec.ofChange indexSharesWrong)

/-- 'towncrierlaw10.IndexMore': WHATEVER THE INPUT: true; the input reads as it did. -/
def indexMoreSpec : ChangeSpec := { name := "indexMore", fn := fun _ => fun
  | [d1, d2] => { results := [.lit (.bool true)], args := [d1, d2] }
  | _ => none }
def indexMoreRow : OpenClaim := { program := "ytochpomddfjkoaa", sum := "708616e7e40ae0ffe966588ae3f5ac0827f9e2f71a49d2d4dfaf9bef6cee5c68", func := "towncrier/towncrierlaw10.IndexMore", spec := "indexMore", unfollowed := true, recurses := true, apart := false }
def IndexMoreSaid : Prop := indexMoreRow.holds Try.pinned (OpenSpec.ofChange indexMoreSpec)

/-- ITS FALSE NEIGHBOUR: 'it returns false'. Refute it at one input. -/
def indexMoreWrong : ChangeSpec := { name := "indexMore", fn := fun _ => fun
  | [d1, d2] => { results := [.lit (.bool false)], args := [d1, d2] }
  | _ => none }
def IndexMoreWrongFalsely : Prop := indexMoreRow.holds Try.pinned (OpenSpec.ofChange indexMoreWrong)

/-- 'towncrierlaw10.IndexNames': WHATEVER THE INPUT: true; the input reads as it did. -/
def indexNamesSpec : ChangeSpec := { name := "indexNames", fn := fun _ => fun
  | [d1, d2] => { results := [.lit (.bool true)], args := [d1, d2] }
  | _ => none }
def indexNamesRow : OpenClaim := { program := "ytochpomddfjkoaa", sum := "708616e7e40ae0ffe966588ae3f5ac0827f9e2f71a49d2d4dfaf9bef6cee5c68", func := "towncrier/towncrierlaw10.IndexNames", spec := "indexNames", unfollowed := true, recurses := true, apart := false }
def IndexNamesSaid : Prop := indexNamesRow.holds Try.pinned (OpenSpec.ofChange indexNamesSpec)

/-- ITS FALSE NEIGHBOUR: 'it returns false'. Refute it at one input. -/
def indexNamesWrong : ChangeSpec := { name := "indexNames", fn := fun _ => fun
  | [d1, d2] => { results := [.lit (.bool false)], args := [d1, d2] }
  | _ => none }
def IndexNamesWrongFalsely : Prop := indexNamesRow.holds Try.pinned (OpenSpec.ofChange indexNamesWrong)

/-- 'towncrierlaw10.IndexOnce': WHATEVER THE INPUT: true; the input reads as it did. -/
def indexOnceSpec : ChangeSpec := { name := "indexOnce", fn := fun _ => fun
  | [d] => { results := [.lit (.bool true)], args := [d] }
  | _ => none }
def indexOnceRow : OpenClaim := { program := "ytochpomddfjkoaa", sum := "708616e7e40ae0ffe966588ae3f5ac0827f9e2f71a49d2d4dfaf9bef6cee5c68", func := "towncrier/towncrierlaw10.IndexOnce", spec := "indexOnce", unfollowed := true, recurses := true, apart := false }
def IndexOnceSaid : Prop := indexOnceRow.holds Try.pinned (OpenSpec.ofChange indexOnceSpec)

/-- ITS FALSE NEIGHBOUR: 'it returns false'. Refute it at one input. -/
def indexOnceWrong : ChangeSpec := { name := "indexOnce", fn := fun _ => fun
  | [d] => { results := [.lit (.bool false)], args := [d] }
  | _ => none }
def IndexOnceWrongFalsely : Prop := indexOnceRow.holds Try.pinned (OpenSpec.ofChange indexOnceWrong)

/-- 'towncrierlaw10.IndexTold': WHATEVER THE INPUT: true; the input reads as it did. -/
def indexToldSpec : ChangeSpec := { name := "indexTold", fn := fun _ => fun
  | [d1, d2] => { results := [.lit (.bool true)], args := [d1, d2] }
  | _ => none }
def indexToldRow : OpenClaim := { program := "ytochpomddfjkoaa", sum := "708616e7e40ae0ffe966588ae3f5ac0827f9e2f71a49d2d4dfaf9bef6cee5c68", func := "towncrier/towncrierlaw10.IndexTold", spec := "indexTold", unfollowed := true, recurses := true, apart := false }
def IndexToldSaid : Prop := indexToldRow.holds Try.pinned (OpenSpec.ofChange indexToldSpec)

/-- ITS FALSE NEIGHBOUR: 'it returns false'. Refute it at one input. -/
def indexToldWrong : ChangeSpec := { name := "indexTold", fn := fun _ => fun
  | [d1, d2] => { results := [.lit (.bool false)], args := [d1, d2] }
  | _ => none }
def IndexToldWrongFalsely : Prop := indexToldRow.holds Try.pinned (OpenSpec.ofChange indexToldWrong)

/- THE SECOND FORM. 'bulk': how many values and letters a reading holds, each counted each time it is reached (what is shared counts as often as it is met; a slice's spare places count too). A statement '..UptoSaid' is the law's where the arguments, and the package variables that the reading takes, are together of bulk at most 1048576: NARROWER than '..Said'. Prove '..Said' where nothing that the law and all that it calls make is longer than what came in: it says more and counts as full. Else prove '..UptoSaid'. A law counts once. -/
mutual
def uptoBulk {H : Type} : DataW H → Nat
  | .lit (.string bytes) => bytes.length + 1
  | .lit _ => 1
  | .nil => 1
  | .ptr d => uptoBulk d + 1
  | .slice elems spare => uptoBulkAll elems + uptoBulkAll spare + 1
  | .agg parts => uptoBulkAll parts + 1
  | .iface _ d => uptoBulk d + 1
  | .map entries => uptoBulkEntries entries + 1
  | .held _ => 1
def uptoBulkAll {H : Type} : List (DataW H) → Nat
  | [] => 0
  | d :: r => uptoBulk d + uptoBulkAll r
def uptoBulkEntries {H : Type} : List (Lit × DataW H) → Nat
  | [] => 0
  | x :: r => uptoBulkEntry x + uptoBulkEntries r
def uptoBulkEntry {H : Type} : Lit × DataW H → Nat
  | (.string bytes, d) => bytes.length + uptoBulk d + 1
  | (_, d) => uptoBulk d + 1
 end
def uptoSmall : (H : Type) → List (DataW H) → Bool := fun _ ds => decide (uptoBulkAll ds ≤ 1048576)
def OpenSpec.upto (s : _root_.Go.ChangeSpec) : _root_.Go.OpenSpec := { _root_.Go.OpenSpec.ofChange s with cond := some uptoSmall }

/-- 'towncrierlaw10.IndexTells', WHERE WHAT IT READS IS OF BULK AT MOST 1048576: true; the input reads as it did. -/
def indexTellsUptoRow : OpenClaim := { program := "ytochpomddfjkoaa", sum := "708616e7e40ae0ffe966588ae3f5ac0827f9e2f71a49d2d4dfaf9bef6cee5c68", func := "towncrier/towncrierlaw10.IndexTells", spec := "indexTells", unfollowed := true, recurses := true, apart := false, narrowed := true }
def IndexTellsUptoSaid : Prop := indexTellsUptoRow.holds Try.pinned (OpenSpec.upto indexTellsSpec)

/-- 'towncrierlaw10.IndexShares', WHERE WHAT IT READS IS OF BULK AT MOST 1048576: true; the input reads as it did. -/
def indexSharesUptoRow : OpenClaim := { program := "ytochpomddfjkoaa", sum := "708616e7e40ae0ffe966588ae3f5ac0827f9e2f71a49d2d4dfaf9bef6cee5c68", func := "towncrier/towncrierlaw10.IndexShares", spec := "indexShares", unfollowed := true, recurses := true, apart := false, narrowed := true }
def IndexSharesUptoSaid : Prop := indexSharesUptoRow.holds Try.pinned (OpenSpec.upto indexSharesSpec)

/-- 'towncrierlaw10.IndexMore', WHERE WHAT IT READS IS OF BULK AT MOST 1048576: true; the input reads as it did. -/
def indexMoreUptoRow : OpenClaim := { program := "ytochpomddfjkoaa", sum := "708616e7e40ae0ffe966588ae3f5ac0827f9e2f71a49d2d4dfaf9bef6cee5c68", func := "towncrier/towncrierlaw10.IndexMore", spec := "indexMore", unfollowed := true, recurses := true, apart := false, narrowed := true }
def IndexMoreUptoSaid : Prop := indexMoreUptoRow.holds Try.pinned (OpenSpec.upto indexMoreSpec)

/-- 'towncrierlaw10.IndexNames', WHERE WHAT IT READS IS OF BULK AT MOST 1048576: true; the input reads as it did. -/
def indexNamesUptoRow : OpenClaim := { program := "ytochpomddfjkoaa", sum := "708616e7e40ae0ffe966588ae3f5ac0827f9e2f71a49d2d4dfaf9bef6cee5c68", func := "towncrier/towncrierlaw10.IndexNames", spec := "indexNames", unfollowed := true, recurses := true, apart := false, narrowed := true }
def IndexNamesUptoSaid : Prop := indexNamesUptoRow.holds Try.pinned (OpenSpec.upto indexNamesSpec)

/-- 'towncrierlaw10.IndexOnce', WHERE WHAT IT READS IS OF BULK AT MOST 1048576: true; the input reads as it did. -/
def indexOnceUptoRow : OpenClaim := { program := "ytochpomddfjkoaa", sum := "708616e7e40ae0ffe966588ae3f5ac0827f9e2f71a49d2d4dfaf9bef6cee5c68", func := "towncrier/towncrierlaw10.IndexOnce", spec := "indexOnce", unfollowed := true, recurses := true, apart := false, narrowed := true }
def IndexOnceUptoSaid : Prop := indexOnceUptoRow.holds Try.pinned (OpenSpec.upto indexOnceSpec)

/-- 'towncrierlaw10.IndexTold', WHERE WHAT IT READS IS OF BULK AT MOST 1048576: true; the input reads as it did. -/
def indexToldUptoRow : OpenClaim := { program := "ytochpomddfjkoaa", sum := "708616e7e40ae0ffe966588ae3f5ac0827f9e2f71a49d2d4dfaf9bef6cee5c68", func := "towncrier/towncrierlaw10.IndexTold", spec := "indexTold", unfollowed := true, recurses := true, apart := false, narrowed := true }
def IndexToldUptoSaid : Prop := indexToldUptoRow.holds Try.pinned (OpenSpec.upto indexToldSpec)

end Rows
end Go.Proofs.Ytochpomddfjkoaa

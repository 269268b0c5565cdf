/-
  No cell of these rows narrows 'for every input' (looked for: loops, veiled, ifaces, maps, wideKeys, modest, calm, conditions, laid).
  DERIVED. THE GIVEN ROWS OF THIS SEAT. 5 by the template 'for every input the law returns true; each argument reads behind the call as it read before'; 0 by the template 'total and deterministic' (their statements: YtnkhnfkohnflcaaTotals.lean).
  GIVEN WITH THE SEED: the statements are not yours to turn. If you find one false, say at which input.
  Laid BY PROGRAM, IN A SANDBOX (cutbox-rows.mjs): the forced cells as the released guide's own fill.sh prints them over the translation 9ee4049ff8c686ca… (all of the seat's roots in one cut). By AI agents, Wed Nov 11 2026. No macro, syntax, notation, axiom, sorry.
-/
import Derived.Test.YtnkhnfkohnflcaaChecked
import GoSem.Claim
import GoSem.ClaimJoined
import GoSem.ClaimMapViews
import Derived.JoinedTies
import Derived.KernelRfl
namespace Go.Proofs.Ytnkhnfkohnflcaa
/- THE CELL 'sum', in the pinned program and in every row, IS THE sha256 OF THE DUMP (.gsa) THAT YtnkhnfkohnflcaaProg.lean LOADS. Nothing in Lean hashes anything: it is a label: what it is worth is what the hold of that sum in a sandbox is worth. -/
noncomputable def Try.pinned : Pinned := { name := "ytnkhnfkohnflcaa", sum := "9ee4049ff8c686ca528f9019a18ee3bfa1c8a429523e37b17191fcb1407c5d8b", checked := Try.checked }
namespace Rows
def none {H : Type} : Left H := { results := [], args := [] }

/-- 'towncrierlaw07.RegistryTells': WHATEVER THE INPUT: true; the input reads as it did. -/
def registryTellsSpec : ChangeSpec := { name := "registryTells", fn := fun _ => fun
  | [d1, d2, d3, d4] => { results := [.lit (.bool true)], args := [d1, d2, d3, d4] }
  | _ => none }
def registryTellsRow : OpenClaim := { program := "ytnkhnfkohnflcaa", sum := "9ee4049ff8c686ca528f9019a18ee3bfa1c8a429523e37b17191fcb1407c5d8b", func := "towncrier/towncrierlaw07.RegistryTells", spec := "registryTells", unfollowed := true, recurses := true, apart := false }
def RegistryTellsSaid : Prop := registryTellsRow.holds Try.pinned (OpenSpec.ofChange registryTellsSpec)

/-- ITS FALSE NEIGHBOUR: 'it returns false'. Refute it at one input. -/
def registryTellsWrong : ChangeSpec := { name := "registryTells", fn := fun _ => fun
  | [d1, d2, d3, d4] => { results := [.lit (.bool false)], args := [d1, d2, d3, d4] }
  | _ => none }
def RegistryTellsWrongFalsely : Prop := registryTellsRow.holds Try.pinned (OpenSpec.ofChange registryTellsWrong)

/-- 'towncrierlaw07.RegistryAdds': WHATEVER THE INPUT: true; the input reads as it did. -/
def registryAddsSpec : ChangeSpec := { name := "registryAdds", fn := fun _ => fun
  | [d1, d2] => { results := [.lit (.bool true)], args := [d1, d2] }
  | _ => none }
def registryAddsRow : OpenClaim := { program := "ytnkhnfkohnflcaa", sum := "9ee4049ff8c686ca528f9019a18ee3bfa1c8a429523e37b17191fcb1407c5d8b", func := "towncrier/towncrierlaw07.RegistryAdds", spec := "registryAdds", unfollowed := true, recurses := true, apart := false }
def RegistryAddsSaid : Prop := registryAddsRow.holds Try.pinned (OpenSpec.ofChange registryAddsSpec)

/-- ITS FALSE NEIGHBOUR: 'it returns false'. Refute it at one input. -/
def registryAddsWrong : ChangeSpec := { name := "registryAdds", fn := fun _ => fun
  | [d1, d2] => { results := [.lit (.bool false)], args := [d1, d2] }
  | _ => none }
def RegistryAddsWrongFalsely : Prop := registryAddsRow.holds Try.pinned (OpenSpec.ofChange registryAddsWrong)

/-- 'towncrierlaw07.RegistryGrows': WHATEVER THE INPUT: true; the input reads as it did. -/
def registryGrowsSpec : ChangeSpec := { name := "registryGrows", fn := fun _ => fun
  | [d1, d2, d3] => { results := [.lit (.bool true)], args := [d1, d2, d3] }
  | _ => none }
def registryGrowsRow : OpenClaim := { program := "ytnkhnfkohnflcaa", sum := "9ee4049ff8c686ca528f9019a18ee3bfa1c8a429523e37b17191fcb1407c5d8b", func := "towncrier/towncrierlaw07.RegistryGrows", spec := "registryGrows", unfollowed := true, recurses := true, apart := false }
def RegistryGrowsSaid : Prop := registryGrowsRow.holds Try.pinned (OpenSpec.ofChange registryGrowsSpec)

/-- ITS FALSE NEIGHBOUR: 'it returns false'. Refute it at one input. -/
def registryGrowsWrong : ChangeSpec := { name := "registryGrows", fn := fun _ => fun
  | [d1, d2, d3] => { results := [.lit (.bool false)], args := [d1, d2, d3] }
  | _ => none }
def RegistryGrowsWrongFalsely : Prop := registryGrowsRow.holds Try.pinned (OpenSpec.ofChange registryGrowsWrong)

/-- 'towncrierlaw07.RegistryFirst': WHATEVER THE INPUT: true; the input reads as it did. -/
def registryFirstSpec : ChangeSpec := { name := "registryFirst", fn := fun _ => fun
  | [d1, d2] => { results := [.lit (.bool true)], args := [d1, d2] }
  | _ => none }
def registryFirstRow : OpenClaim := { program := "ytnkhnfkohnflcaa", sum := "9ee4049ff8c686ca528f9019a18ee3bfa1c8a429523e37b17191fcb1407c5d8b", func := "towncrier/towncrierlaw07.RegistryFirst", spec := "registryFirst", unfollowed := true, recurses := true, apart := false }
def RegistryFirstSaid : Prop := registryFirstRow.holds Try.pinned (OpenSpec.ofChange registryFirstSpec)

/-- ITS FALSE NEIGHBOUR: 'it returns false'. Refute it at one input. -/
def registryFirstWrong : ChangeSpec := { name := "registryFirst", fn := fun _ => fun
  | [d1, d2] => { results := [.lit (.bool false)], args := [d1, d2] }
  | _ => none }
def RegistryFirstWrongFalsely : Prop := registryFirstRow.holds Try.pinned (OpenSpec.ofChange registryFirstWrong)

/-- 'towncrierlaw07.RegistryOne': WHATEVER THE INPUT: true; the input reads as it did. -/
def registryOneSpec : ChangeSpec := { name := "registryOne", fn := fun _ => fun
  | [d1, d2] => { results := [.lit (.bool true)], args := [d1, d2] }
  | _ => none }
def registryOneRow : OpenClaim := { program := "ytnkhnfkohnflcaa", sum := "9ee4049ff8c686ca528f9019a18ee3bfa1c8a429523e37b17191fcb1407c5d8b", func := "towncrier/towncrierlaw07.RegistryOne", spec := "registryOne", unfollowed := true, recurses := true, apart := false }
def RegistryOneSaid : Prop := registryOneRow.holds Try.pinned (OpenSpec.ofChange registryOneSpec)

/-- ITS FALSE NEIGHBOUR: 'it returns false'. Refute it at one input. -/
def registryOneWrong : ChangeSpec := { name := "registryOne", fn := fun _ => fun
  | [d1, d2] => { results := [.lit (.bool false)], args := [d1, d2] }
  | _ => none }
def RegistryOneWrongFalsely : Prop := registryOneRow.holds Try.pinned (OpenSpec.ofChange registryOneWrong)

/- THE SECOND FORM. 'bulk': how many values and letters a reading holds, each counted each time it is reached (what is shared counts as often as it is met; a slice's spare places count too). A statement '..UptoSaid' is the law's where the arguments, and the package variables that the reading takes, are together of bulk at most 1048576: NARROWER than '..Said'. Prove '..Said' where nothing that the law and all that it calls make is longer than what came in: it says more and counts as full. Else prove '..UptoSaid'. A law counts once. -/
mutual
def uptoBulk {H : Type} : DataW H → Nat
  | .lit (.string bytes) => bytes.length + 1
  | .lit _ => 1
  | .nil => 1
  | .ptr d => uptoBulk d + 1
  | .slice elems spare => uptoBulkAll elems + uptoBulkAll spare + 1
  | .agg parts => uptoBulkAll parts + 1
  | .iface _ d => uptoBulk d + 1
  | .map entries => uptoBulkEntries entries + 1
  | .held _ => 1
def uptoBulkAll {H : Type} : List (DataW H) → Nat
  | [] => 0
  | d :: r => uptoBulk d + uptoBulkAll r
def uptoBulkEntries {H : Type} : List (Lit × DataW H) → Nat
  | [] => 0
  | x :: r => uptoBulkEntry x + uptoBulkEntries r
def uptoBulkEntry {H : Type} : Lit × DataW H → Nat
  | (.string bytes, d) => bytes.length + uptoBulk d + 1
  | (_, d) => uptoBulk d + 1
 end
def uptoSmall : (H : Type) → List (DataW H) → Bool := fun _ ds => decide (uptoBulkAll ds ≤ 1048576)
def OpenSpec.upto (s : _root_.Go.ChangeSpec) : _root_.Go.OpenSpec := { _root_.Go.OpenSpec.ofChange s with cond := some uptoSmall }

/-- 'towncrierlaw07.RegistryTells', WHERE WHAT IT READS IS OF BULK AT MOST 1048576: true; the input reads as it did. -/
def registryTellsUptoRow : OpenClaim := { program := "ytnkhnfkohnflcaa", sum := "9ee4049ff8c686ca528f9019a18ee3bfa1c8a429523e37b17191fcb1407c5d8b", func := "towncrier/towncrierlaw07.RegistryTells", spec := "registryTells", unfollowed := true, recurses := true, apart := false, narrowed := true }
def RegistryTellsUptoSaid : Prop := registryTellsUptoRow.holds Try.pinned (OpenSpec.upto registryTellsSpec)

/-- 'towncrierlaw07.RegistryAdds', WHERE WHAT IT READS IS OF BULK AT MOST 1048576: true; the input reads as it did. -/
def registryAddsUptoRow : OpenClaim := { program := "ytnkhnfkohnflcaa", sum := "9ee4049ff8c686ca528f9019a18ee3bfa1c8a429523e37b17191fcb1407c5d8b", func := "towncrier/towncrierlaw07.RegistryAdds", spec := "registryAdds", unfollowed := true, recurses := true, apart := false, narrowed := true }
def RegistryAddsUptoSaid : Prop := registryAddsUptoRow.holds Try.pinned (OpenSpec.upto registryAddsSpec)

/-- 'towncrierlaw07.RegistryGrows', WHERE WHAT IT READS IS OF BULK AT MOST 1048576: true; the input reads as it did. -/
def registryGrowsUptoRow : OpenClaim := { program := "ytnkhnfkohnflcaa", sum := "9ee4049ff8c686ca528f9019a18ee3bfa1c8a429523e37b17191fcb1407c5d8b", func := "towncrier/towncrierlaw07.RegistryGrows", spec := "registryGrows", unfollowed := true, recurses := true, apart := false, narrowed := true }
def RegistryGrowsUptoSaid : Prop := registryGrowsUptoRow.holds Try.pinned (OpenSpec.upto registryGrowsSpec)

/-- 'towncrierlaw07.RegistryFirst', WHERE WHAT IT READS IS OF BULK AT MOST 1048576: true; the input reads as it did. -/
def registryFirstUptoRow : OpenClaim := { program := "ytnkhnfkohnflcaa", sum := "9ee4049ff8c686ca528f9019a18ee3bfa1c8a429523e37b17191fcb1407c5d8b", func := "towncrier/towncrierlaw07.RegistryFirst", spec := "registryFirst", unfollowed := true, recurses := true, apart := false, narrowed := true }
def RegistryFirstUptoSaid : Prop := registryFirstUptoRow.holds Try.pinned (OpenSpec.upto registryFirstSpec)

/-- 'towncrierlaw07.RegistryOne', WHERE WHAT IT READS IS OF BULK AT MOST 1048576: true; the input reads as it did. -/
def registryOneUptoRow : OpenClaim := { program := "ytnkhnfkohnflcaa", sum := "9ee4049ff8c686ca528f9019a18ee3bfa1c8a429523e37b17191fcb1407c5d8b", func := "towncrier/towncrierlaw07.RegistryOne", spec := "registryOne", unfollowed := true, recurses := true, apart := false, narrowed := true }
def RegistryOneUptoSaid : Prop := registryOneUptoRow.holds Try.pinned (OpenSpec.upto registryOneSpec)

end Rows
end Go.Proofs.Ytnkhnfkohnflcaa

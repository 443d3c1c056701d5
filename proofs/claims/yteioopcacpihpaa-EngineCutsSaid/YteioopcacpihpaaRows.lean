/-
  No cell of these rows narrows 'for every input' (looked for: loops, veiled, ifaces, maps, wideKeys, modest, calm, conditions, laid).
  DERIVED. THE GIVEN ROWS OF THIS SEAT. 7 by the template 'for every input the law returns true; each argument reads behind the call as it read before'; 0 by the template 'total and deterministic' (their statements: YteioopcacpihpaaTotals.lean).
  GIVEN WITH THE SEED: the statements are not yours to turn. If you find one false, say at which input.
  Laid BY PROGRAM, IN A SANDBOX (cutbox-rows.mjs): the forced cells as the released guide's own fill.sh prints them over the translation 553f1fa2310fc0d8… (all of the seat's roots in one cut). By AI agents, Wed Nov 11 2026. No macro, syntax, notation, axiom, sorry.
-/
import Derived.Test.YteioopcacpihpaaChecked
import GoSem.Claim
import GoSem.ClaimJoined
import GoSem.ClaimMapViews
import Derived.JoinedTies
import Derived.KernelRfl
namespace Go.Proofs.Yteioopcacpihpaa
/- THE CELL 'sum', in the pinned program and in every row, IS THE sha256 OF THE DUMP (.gsa) THAT YteioopcacpihpaaProg.lean LOADS. Nothing in Lean hashes anything: it is a label: what it is worth is what the hold of that sum in a sandbox is worth. -/
noncomputable def Try.pinned : Pinned := { name := "yteioopcacpihpaa", sum := "553f1fa2310fc0d80457dc446595dc1562eeb650269a5cc15ed886405a14c93b", checked := Try.checked }
namespace Rows
def none {H : Type} : Left H := { results := [], args := [] }

/-- 'shelfmarklaw09.RunMakes': WHATEVER THE INPUT: true; the input reads as it did. -/
def runMakesSpec : ChangeSpec := { name := "runMakes", fn := fun _ => fun
  | [d] => { results := [.lit (.bool true)], args := [d] }
  | _ => none }
def runMakesRow : OpenClaim := { program := "yteioopcacpihpaa", sum := "553f1fa2310fc0d80457dc446595dc1562eeb650269a5cc15ed886405a14c93b", func := "shelfmark/shelfmarklaw09.RunMakes", spec := "runMakes", inPlace := ["internal/bytealg.abigen_runtime_cmpstring"], unfollowed := true, recurses := true, apart := false }
def RunMakesSaid : Prop := runMakesRow.holds Try.pinned (OpenSpec.ofChange runMakesSpec)

/-- ITS FALSE NEIGHBOUR: 'it returns false'. Refute it at one input. -/
def runMakesWrong : ChangeSpec := { name := "runMakes", fn := fun _ => fun
  | [d] => { results := [.lit (.bool false)], args := [d] }
  | _ => none }
def RunMakesWrongFalsely : Prop := runMakesRow.holds Try.pinned (OpenSpec.ofChange runMakesWrong)

/-- 'shelfmarklaw09.RunGroups': WHATEVER THE INPUT: true; the input reads as it did. -/
def runGroupsSpec : ChangeSpec := { name := "runGroups", fn := fun _ => fun
  | [d1, d2, d3, d4] => { results := [.lit (.bool true)], args := [d1, d2, d3, d4] }
  | _ => none }
def runGroupsRow : OpenClaim := { program := "yteioopcacpihpaa", sum := "553f1fa2310fc0d80457dc446595dc1562eeb650269a5cc15ed886405a14c93b", func := "shelfmark/shelfmarklaw09.RunGroups", spec := "runGroups", inPlace := ["internal/bytealg.abigen_runtime_cmpstring"], unfollowed := true, recurses := true, apart := false }
def RunGroupsSaid : Prop := runGroupsRow.holds Try.pinned (OpenSpec.ofChange runGroupsSpec)

/-- ITS FALSE NEIGHBOUR: 'it returns false'. Refute it at one input. -/
def runGroupsWrong : ChangeSpec := { name := "runGroups", fn := fun _ => fun
  | [d1, d2, d3, d4] => { results := [.lit (.bool false)], args := [d1, d2, d3, d4] }
  | _ => none }
def RunGroupsWrongFalsely : Prop := runGroupsRow.holds Try.pinned (OpenSpec.ofChange runGroupsWrong)

/-- 'shelfmarklaw09.RunKeeps': WHATEVER THE INPUT: true; the input reads as it did. -/
def runKeepsSpec : ChangeSpec := { name := "runKeeps", fn := fun _ => fun
  | [d] => { results := [.lit (.bool true)], args := [d] }
  | _ => none }
def runKeepsRow : OpenClaim := { program := "yteioopcacpihpaa", sum := "553f1fa2310fc0d80457dc446595dc1562eeb650269a5cc15ed886405a14c93b", func := "shelfmark/shelfmarklaw09.RunKeeps", spec := "runKeeps", inPlace := ["internal/bytealg.abigen_runtime_cmpstring"], unfollowed := true, recurses := true, apart := false }
def RunKeepsSaid : Prop := runKeepsRow.holds Try.pinned (OpenSpec.ofChange runKeepsSpec)

/-- ITS FALSE NEIGHBOUR: 'it returns false'. Refute it at one input. -/
def runKeepsWrong : ChangeSpec := { name := "runKeeps", fn := fun _ => fun
  | [d] => { results := [.lit (.bool false)], args := [d] }
  | _ => none }
def RunKeepsWrongFalsely : Prop := runKeepsRow.holds Try.pinned (OpenSpec.ofChange runKeepsWrong)

/-- 'shelfmarklaw10.EnginePlays': WHATEVER THE INPUT: true; the input reads as it did. -/
def enginePlaysSpec : ChangeSpec := { name := "enginePlays", fn := fun _ => fun
  | [d1, d2, d3, d4, d5, d6] => { results := [.lit (.bool true)], args := [d1, d2, d3, d4, d5, d6] }
  | _ => none }
def enginePlaysRow : OpenClaim := { program := "yteioopcacpihpaa", sum := "553f1fa2310fc0d80457dc446595dc1562eeb650269a5cc15ed886405a14c93b", func := "shelfmark/shelfmarklaw10.EnginePlays", spec := "enginePlays", inPlace := ["internal/bytealg.abigen_runtime_cmpstring", "slices.overlaps[shelfmark/api.Change]"], unfollowed := true, recurses := true, apart := false }
def EnginePlaysSaid : Prop := enginePlaysRow.holds Try.pinned (OpenSpec.ofChange enginePlaysSpec)

/-- ITS FALSE NEIGHBOUR: 'it returns false'. Refute it at one input. -/
def enginePlaysWrong : ChangeSpec := { name := "enginePlays", fn := fun _ => fun
  | [d1, d2, d3, d4, d5, d6] => { results := [.lit (.bool false)], args := [d1, d2, d3, d4, d5, d6] }
  | _ => none }
def EnginePlaysWrongFalsely : Prop := enginePlaysRow.holds Try.pinned (OpenSpec.ofChange enginePlaysWrong)

/-- 'shelfmarklaw10.EngineCursors': WHATEVER THE INPUT: true; the input reads as it did. -/
def engineCursorsSpec : ChangeSpec := { name := "engineCursors", fn := fun _ => fun
  | [d1, d2, d3, d4] => { results := [.lit (.bool true)], args := [d1, d2, d3, d4] }
  | _ => none }
def engineCursorsRow : OpenClaim := { program := "yteioopcacpihpaa", sum := "553f1fa2310fc0d80457dc446595dc1562eeb650269a5cc15ed886405a14c93b", func := "shelfmark/shelfmarklaw10.EngineCursors", spec := "engineCursors", inPlace := ["internal/bytealg.abigen_runtime_cmpstring", "slices.overlaps[shelfmark/api.Change]"], unfollowed := true, recurses := true, apart := false }
def EngineCursorsSaid : Prop := engineCursorsRow.holds Try.pinned (OpenSpec.ofChange engineCursorsSpec)

/-- ITS FALSE NEIGHBOUR: 'it returns false'. Refute it at one input. -/
def engineCursorsWrong : ChangeSpec := { name := "engineCursors", fn := fun _ => fun
  | [d1, d2, d3, d4] => { results := [.lit (.bool false)], args := [d1, d2, d3, d4] }
  | _ => none }
def EngineCursorsWrongFalsely : Prop := engineCursorsRow.holds Try.pinned (OpenSpec.ofChange engineCursorsWrong)

/-- 'shelfmarklaw10.EngineExports': WHATEVER THE INPUT: true; the input reads as it did. -/
def engineExportsSpec : ChangeSpec := { name := "engineExports", fn := fun _ => fun
  | [d1, d2, d3] => { results := [.lit (.bool true)], args := [d1, d2, d3] }
  | _ => none }
def engineExportsRow : OpenClaim := { program := "yteioopcacpihpaa", sum := "553f1fa2310fc0d80457dc446595dc1562eeb650269a5cc15ed886405a14c93b", func := "shelfmark/shelfmarklaw10.EngineExports", spec := "engineExports", inPlace := ["internal/bytealg.abigen_runtime_cmpstring", "slices.overlaps[shelfmark/api.Change]"], unfollowed := true, recurses := true, apart := false }
def EngineExportsSaid : Prop := engineExportsRow.holds Try.pinned (OpenSpec.ofChange engineExportsSpec)

/-- ITS FALSE NEIGHBOUR: 'it returns false'. Refute it at one input. -/
def engineExportsWrong : ChangeSpec := { name := "engineExports", fn := fun _ => fun
  | [d1, d2, d3] => { results := [.lit (.bool false)], args := [d1, d2, d3] }
  | _ => none }
def EngineExportsWrongFalsely : Prop := engineExportsRow.holds Try.pinned (OpenSpec.ofChange engineExportsWrong)

/-- 'shelfmarklaw10.EngineCuts': WHATEVER THE INPUT: true; the input reads as it did. -/
def engineCutsSpec : ChangeSpec := { name := "engineCuts", fn := fun _ => fun
  | [d1, d2, d3, d4] => { results := [.lit (.bool true)], args := [d1, d2, d3, d4] }
  | _ => none }
def engineCutsRow : OpenClaim := { program := "yteioopcacpihpaa", sum := "553f1fa2310fc0d80457dc446595dc1562eeb650269a5cc15ed886405a14c93b", func := "shelfmark/shelfmarklaw10.EngineCuts", spec := "engineCuts", inPlace := ["internal/bytealg.abigen_runtime_cmpstring", "slices.overlaps[shelfmark/api.Change]"], unfollowed := true, recurses := true, apart := false }
def EngineCutsSaid : Prop := engineCutsRow.holds Try.pinned (OpenSpec.ofChange engineCutsSpec)

/-- ITS FALSE NEIGHBOUR: 'it returns false'. Refute it at one input. -/
def engineCutsWrong : ChangeSpec := { name := "engineCuts", fn := fun _ => fun
  | [d1, d2, d3, d4] => { results := [.lit (.bool false)], args := [d1, d2, d3, d4] }
  | _ => none }
def EngineCutsWrongFalsely : Prop := engineCutsRow.holds Try.pinned (OpenSpec.ofChange engineCutsWrong)

/- THE SECOND FORM. 'bulk': how many values and letters a reading holds, each counted each time it is reached (what is shared counts as often as it is met; a slice's spare places count too). A statement '..UptoSaid' is the law's where the arguments, and the package variables that the reading takes, are together of bulk at most 1048576: NARROWER than '..Said'. Prove '..Said' where nothing that the law and all that it calls make is longer than what came in: it says more and counts as full. Else prove '..UptoSaid'. A law counts once. -/
mutual
def uptoBulk {H : Type} : DataW H → Nat
  | .lit (.string bytes) => bytes.length + 1
  | .lit _ => 1
  | .nil => 1
  | .ptr d => uptoBulk d + 1
  | .slice elems spare => uptoBulkAll elems + uptoBulkAll spare + 1
  | .agg parts => uptoBulkAll parts + 1
  | .iface _ d => uptoBulk d + 1
  | .map entries => uptoBulkEntries entries + 1
  | .held _ => 1
def uptoBulkAll {H : Type} : List (DataW H) → Nat
  | [] => 0
  | d :: r => uptoBulk d + uptoBulkAll r
def uptoBulkEntries {H : Type} : List (Lit × DataW H) → Nat
  | [] => 0
  | x :: r => uptoBulkEntry x + uptoBulkEntries r
def uptoBulkEntry {H : Type} : Lit × DataW H → Nat
  | (.string bytes, d) => bytes.length + uptoBulk d + 1
  | (_, d) => uptoBulk d + 1
 end
def uptoSmall : (H : Type) → List (DataW H) → Bool := fun _ ds => decide (uptoBulkAll ds ≤ 1048576)
def OpenSpec.upto (s : _root_.Go.ChangeSpec) : _root_.Go.OpenSpec := { _root_.Go.OpenSpec.ofChange s with cond := some uptoSmall }

/-- 'shelfmarklaw09.RunMakes', WHERE WHAT IT READS IS OF BULK AT MOST 1048576: true; the input reads as it did. -/
def runMakesUptoRow : OpenClaim := { program := "yteioopcacpihpaa", sum := "553f1fa2310fc0d80457dc446595dc1562eeb650269a5cc15ed886405a14c93b", func := "shelfmark/shelfmarklaw09.RunMakes", spec := "runMakes", inPlace := ["internal/bytealg.abigen_runtime_cmpstring"], unfollowed := true, recurses := true, apart := false, narrowed := true }
def RunMakesUptoSaid : Prop := runMakesUptoRow.holds Try.pinned (OpenSpec.upto runMakesSpec)

/-- 'shelfmarklaw09.RunGroups', WHERE WHAT IT READS IS OF BULK AT MOST 1048576: true; the input reads as it did. -/
def runGroupsUptoRow : OpenClaim := { program := "yteioopcacpihpaa", sum := "553f1fa2310fc0d80457dc446595dc1562eeb650269a5cc15ed886405a14c93b", func := "shelfmark/shelfmarklaw09.RunGroups", spec := "runGroups", inPlace := ["internal/bytealg.abigen_runtime_cmpstring"], unfollowed := true, recurses := true, apart := false, narrowed := true }
def RunGroupsUptoSaid : Prop := runGroupsUptoRow.holds Try.pinned (OpenSpec.upto runGroupsSpec)

/-- 'shelfmarklaw09.RunKeeps', WHERE WHAT IT READS IS OF BULK AT MOST 1048576: true; the input reads as it did. -/
def runKeepsUptoRow : OpenClaim := { program := "yteioopcacpihpaa", sum := "553f1fa2310fc0d80457dc446595dc1562eeb650269a5cc15ed886405a14c93b", func := "shelfmark/shelfmarklaw09.RunKeeps", spec := "runKeeps", inPlace := ["internal/bytealg.abigen_runtime_cmpstring"], unfollowed := true, recurses := true, apart := false, narrowed := true }
def RunKeepsUptoSaid : Prop := runKeepsUptoRow.holds Try.pinned (OpenSpec.upto runKeepsSpec)

/-- 'shelfmarklaw10.EnginePlays', WHERE WHAT IT READS IS OF BULK AT MOST 1048576: true; the input reads as it did. -/
def enginePlaysUptoRow : OpenClaim := { program := "yteioopcacpihpaa", sum := "553f1fa2310fc0d80457dc446595dc1562eeb650269a5cc15ed886405a14c93b", func := "shelfmark/shelfmarklaw10.EnginePlays", spec := "enginePlays", inPlace := ["internal/bytealg.abigen_runtime_cmpstring", "slices.overlaps[shelfmark/api.Change]"], unfollowed := true, recurses := true, apart := false, narrowed := true }
def EnginePlaysUptoSaid : Prop := enginePlaysUptoRow.holds Try.pinned (OpenSpec.upto enginePlaysSpec)

/-- 'shelfmarklaw10.EngineCursors', WHERE WHAT IT READS IS OF BULK AT MOST 1048576: true; the input reads as it did. -/
def engineCursorsUptoRow : OpenClaim := { program := "yteioopcacpihpaa", sum := "553f1fa2310fc0d80457dc446595dc1562eeb650269a5cc15ed886405a14c93b", func := "shelfmark/shelfmarklaw10.EngineCursors", spec := "engineCursors", inPlace := ["internal/bytealg.abigen_runtime_cmpstring", "slices.overlaps[shelfmark/api.Change]"], unfollowed := true, recurses := true, apart := false, narrowed := true }
def EngineCursorsUptoSaid : Prop := engineCursorsUptoRow.holds Try.pinned (OpenSpec.upto engineCursorsSpec)

/-- 'shelfmarklaw10.EngineExports', WHERE WHAT IT READS IS OF BULK AT MOST 1048576: true; the input reads as it did. -/
def engineExportsUptoRow : OpenClaim := { program := "yteioopcacpihpaa", sum := "553f1fa2310fc0d80457dc446595dc1562eeb650269a5cc15ed886405a14c93b", func := "shelfmark/shelfmarklaw10.EngineExports", spec := "engineExports", inPlace := ["internal/bytealg.abigen_runtime_cmpstring", "slices.overlaps[shelfmark/api.Change]"], unfollowed := true, recurses := true, apart := false, narrowed := true }
def EngineExportsUptoSaid : Prop := engineExportsUptoRow.holds Try.pinned (OpenSpec.upto engineExportsSpec)

/-- 'shelfmarklaw10.EngineCuts', WHERE WHAT IT READS IS OF BULK AT MOST 1048576: true; the input reads as it did. -/
def engineCutsUptoRow : OpenClaim := { program := "yteioopcacpihpaa", sum := "553f1fa2310fc0d80457dc446595dc1562eeb650269a5cc15ed886405a14c93b", func := "shelfmark/shelfmarklaw10.EngineCuts", spec := "engineCuts", inPlace := ["internal/bytealg.abigen_runtime_cmpstring", "slices.overlaps[shelfmark/api.Change]"], unfollowed := true, recurses := true, apart := false, narrowed := true }
def EngineCutsUptoSaid : Prop := engineCutsUptoRow.holds Try.pinned (OpenSpec.upto engineCutsSpec)

end Rows
end Go.Proofs.Yteioopcacpihpaa

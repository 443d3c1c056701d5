/-
  No cell of these rows narrows 'for every input' (looked for: loops, veiled, ifaces, maps, wideKeys, modest, calm, conditions, laid).
  DERIVED. THE GIVEN ROWS OF THIS SEAT. 5 by the template 'for every input the law returns true; each argument reads behind the call as it read before'; 0 by the template 'total and deterministic' (their statements: YtjbbbecbefbcbaaTotals.lean).
  GIVEN WITH THE SEED: the statements are not yours to turn. If you find one false, say at which input.
  Laid BY PROGRAM, IN A SANDBOX (cutbox-rows.mjs): the forced cells as the released guide's own fill.sh prints them over the translation 63f98065959c4623… (all of the seat's roots in one cut). By AI agents, Wed Nov 11 2026. No macro, syntax, notation, axiom, sorry.
-/
import Derived.Test.YtjbbbecbefbcbaaChecked
import GoSem.Claim
import GoSem.ClaimJoined
import GoSem.ClaimMapViews
import Derived.JoinedTies
import Derived.KernelRfl
namespace Go.Proofs.Ytjbbbecbefbcbaa
/- THE CELL 'sum', in the pinned program and in every row, IS THE sha256 OF THE DUMP (.gsa) THAT YtjbbbecbefbcbaaProg.lean LOADS. Nothing in Lean hashes anything: it is a label: what it is worth is what the hold of that sum in a sandbox is worth. -/
noncomputable def Try.pinned : Pinned := { name := "ytjbbbecbefbcbaa", sum := "63f98065959c4623ef0d66f93a6913cc744881bde90bebe1d7ba8e91a7b3ed3f", checked := Try.checked }
namespace Rows
def none {H : Type} : Left H := { results := [], args := [] }

/-- 'shelfmarklaw03.TupleKeys': WHATEVER THE INPUT: true; the input reads as it did. -/
def tupleKeysSpec : ChangeSpec := { name := "tupleKeys", fn := fun _ => fun
  | [d1, d2] => { results := [.lit (.bool true)], args := [d1, d2] }
  | _ => none }
def tupleKeysRow : OpenClaim := { program := "ytjbbbecbefbcbaa", sum := "63f98065959c4623ef0d66f93a6913cc744881bde90bebe1d7ba8e91a7b3ed3f", func := "shelfmark/shelfmarklaw03.TupleKeys", spec := "tupleKeys", inPlace := ["internal/bytealg.abigen_runtime_cmpstring"], unfollowed := true, recurses := true, apart := false }
def TupleKeysSaid : Prop := tupleKeysRow.holds Try.pinned (OpenSpec.ofChange tupleKeysSpec)

/-- ITS FALSE NEIGHBOUR: 'it returns false'. Refute it at one input. -/
def tupleKeysWrong : ChangeSpec := { name := "tupleKeys", fn := fun _ => fun
  | [d1, d2] => { results := [.lit (.bool false)], args := [d1, d2] }
  | _ => none }
def TupleKeysWrongFalsely : Prop := tupleKeysRow.holds Try.pinned (OpenSpec.ofChange tupleKeysWrong)

/-- 'shelfmarklaw03.TupleOrder': WHATEVER THE INPUT: true; the input reads as it did. -/
def tupleOrderSpec : ChangeSpec := { name := "tupleOrder", fn := fun _ => fun
  | [d1, d2] => { results := [.lit (.bool true)], args := [d1, d2] }
  | _ => none }
def tupleOrderRow : OpenClaim := { program := "ytjbbbecbefbcbaa", sum := "63f98065959c4623ef0d66f93a6913cc744881bde90bebe1d7ba8e91a7b3ed3f", func := "shelfmark/shelfmarklaw03.TupleOrder", spec := "tupleOrder", inPlace := ["internal/bytealg.abigen_runtime_cmpstring"], unfollowed := true, recurses := true, apart := false }
def TupleOrderSaid : Prop := tupleOrderRow.holds Try.pinned (OpenSpec.ofChange tupleOrderSpec)

/-- ITS FALSE NEIGHBOUR: 'it returns false'. Refute it at one input. -/
def tupleOrderWrong : ChangeSpec := { name := "tupleOrder", fn := fun _ => fun
  | [d1, d2] => { results := [.lit (.bool false)], args := [d1, d2] }
  | _ => none }
def TupleOrderWrongFalsely : Prop := tupleOrderRow.holds Try.pinned (OpenSpec.ofChange tupleOrderWrong)

/-- 'shelfmarklaw03.TupleBack': WHATEVER THE INPUT: true; the input reads as it did. -/
def tupleBackSpec : ChangeSpec := { name := "tupleBack", fn := fun _ => fun
  | [d1, d2, d3] => { results := [.lit (.bool true)], args := [d1, d2, d3] }
  | _ => none }
def tupleBackRow : OpenClaim := { program := "ytjbbbecbefbcbaa", sum := "63f98065959c4623ef0d66f93a6913cc744881bde90bebe1d7ba8e91a7b3ed3f", func := "shelfmark/shelfmarklaw03.TupleBack", spec := "tupleBack", unfollowed := true, recurses := true, apart := false }
def TupleBackSaid : Prop := tupleBackRow.holds Try.pinned (OpenSpec.ofChange tupleBackSpec)

/-- ITS FALSE NEIGHBOUR: 'it returns false'. Refute it at one input. -/
def tupleBackWrong : ChangeSpec := { name := "tupleBack", fn := fun _ => fun
  | [d1, d2, d3] => { results := [.lit (.bool false)], args := [d1, d2, d3] }
  | _ => none }
def TupleBackWrongFalsely : Prop := tupleBackRow.holds Try.pinned (OpenSpec.ofChange tupleBackWrong)

/-- 'shelfmarklaw03.TupleNext': WHATEVER THE INPUT: true; the input reads as it did. -/
def tupleNextSpec : ChangeSpec := { name := "tupleNext", fn := fun _ => fun
  | [d1, d2] => { results := [.lit (.bool true)], args := [d1, d2] }
  | _ => none }
def tupleNextRow : OpenClaim := { program := "ytjbbbecbefbcbaa", sum := "63f98065959c4623ef0d66f93a6913cc744881bde90bebe1d7ba8e91a7b3ed3f", func := "shelfmark/shelfmarklaw03.TupleNext", spec := "tupleNext", unfollowed := true, recurses := true, apart := false }
def TupleNextSaid : Prop := tupleNextRow.holds Try.pinned (OpenSpec.ofChange tupleNextSpec)

/-- ITS FALSE NEIGHBOUR: 'it returns false'. Refute it at one input. -/
def tupleNextWrong : ChangeSpec := { name := "tupleNext", fn := fun _ => fun
  | [d1, d2] => { results := [.lit (.bool false)], args := [d1, d2] }
  | _ => none }
def TupleNextWrongFalsely : Prop := tupleNextRow.holds Try.pinned (OpenSpec.ofChange tupleNextWrong)

/-- 'shelfmarklaw03.TupleKeeps': WHATEVER THE INPUT: true; the input reads as it did. -/
def tupleKeepsSpec : ChangeSpec := { name := "tupleKeeps", fn := fun _ => fun
  | [d] => { results := [.lit (.bool true)], args := [d] }
  | _ => none }
def tupleKeepsRow : OpenClaim := { program := "ytjbbbecbefbcbaa", sum := "63f98065959c4623ef0d66f93a6913cc744881bde90bebe1d7ba8e91a7b3ed3f", func := "shelfmark/shelfmarklaw03.TupleKeeps", spec := "tupleKeeps", unfollowed := true, recurses := true, apart := false }
def TupleKeepsSaid : Prop := tupleKeepsRow.holds Try.pinned (OpenSpec.ofChange tupleKeepsSpec)

/-- ITS FALSE NEIGHBOUR: 'it returns false'. Refute it at one input. -/
def tupleKeepsWrong : ChangeSpec := { name := "tupleKeeps", fn := fun _ => fun
  | [d] => { results := [.lit (.bool false)], args := [d] }
  | _ => none }
def TupleKeepsWrongFalsely : Prop := tupleKeepsRow.holds Try.pinned (OpenSpec.ofChange tupleKeepsWrong)

/- THE SECOND FORM. 'bulk': how many values and letters a reading holds, each counted each time it is reached (what is shared counts as often as it is met; a slice's spare places count too). A statement '..UptoSaid' is the law's where the arguments, and the package variables that the reading takes, are together of bulk at most 1048576: NARROWER than '..Said'. Prove '..Said' where nothing that the law and all that it calls make is longer than what came in: it says more and counts as full. Else prove '..UptoSaid'. A law counts once. -/
mutual
def uptoBulk {H : Type} : DataW H → Nat
  | .lit (.string bytes) => bytes.length + 1
  | .lit _ => 1
  | .nil => 1
  | .ptr d => uptoBulk d + 1
  | .slice elems spare => uptoBulkAll elems + uptoBulkAll spare + 1
  | .agg parts => uptoBulkAll parts + 1
  | .iface _ d => uptoBulk d + 1
  | .map entries => uptoBulkEntries entries + 1
  | .held _ => 1
def uptoBulkAll {H : Type} : List (DataW H) → Nat
  | [] => 0
  | d :: r => uptoBulk d + uptoBulkAll r
def uptoBulkEntries {H : Type} : List (Lit × DataW H) → Nat
  | [] => 0
  | x :: r => uptoBulkEntry x + uptoBulkEntries r
def uptoBulkEntry {H : Type} : Lit × DataW H → Nat
  | (.string bytes, d) => bytes.length + uptoBulk d + 1
  | (_, d) => uptoBulk d + 1
 end
def uptoSmall : (H : Type) → List (DataW H) → Bool := fun _ ds => decide (uptoBulkAll ds ≤ 1048576)
def OpenSpec.upto (s : _root_.Go.ChangeSpec) : _root_.Go.OpenSpec := { _root_.Go.OpenSpec.ofChange s with cond := some uptoSmall }

/-- 'shelfmarklaw03.TupleKeys', WHERE WHAT IT READS IS OF BULK AT MOST 1048576: true; the input reads as it did. -/
def tupleKeysUptoRow : OpenClaim := { program := "ytjbbbecbefbcbaa", sum := "63f98065959c4623ef0d66f93a6913cc744881bde90bebe1d7ba8e91a7b3ed3f", func := "shelfmark/shelfmarklaw03.TupleKeys", spec := "tupleKeys", inPlace := ["internal/bytealg.abigen_runtime_cmpstring"], unfollowed := true, recurses := true, apart := false, narrowed := true }
def TupleKeysUptoSaid : Prop := tupleKeysUptoRow.holds Try.pinned (OpenSpec.upto tupleKeysSpec)

/-- 'shelfmarklaw03.TupleOrder', WHERE WHAT IT READS IS OF BULK AT MOST 1048576: true; the input reads as it did. -/
def tupleOrderUptoRow : OpenClaim := { program := "ytjbbbecbefbcbaa", sum := "63f98065959c4623ef0d66f93a6913cc744881bde90bebe1d7ba8e91a7b3ed3f", func := "shelfmark/shelfmarklaw03.TupleOrder", spec := "tupleOrder", inPlace := ["internal/bytealg.abigen_runtime_cmpstring"], unfollowed := true, recurses := true, apart := false, narrowed := true }
def TupleOrderUptoSaid : Prop := tupleOrderUptoRow.holds Try.pinned (OpenSpec.upto tupleOrderSpec)

/-- 'shelfmarklaw03.TupleBack', WHERE WHAT IT READS IS OF BULK AT MOST 1048576: true; the input reads as it did. -/
def tupleBackUptoRow : OpenClaim := { program := "ytjbbbecbefbcbaa", sum := "63f98065959c4623ef0d66f93a6913cc744881bde90bebe1d7ba8e91a7b3ed3f", func := "shelfmark/shelfmarklaw03.TupleBack", spec := "tupleBack", unfollowed := true, recurses := true, apart := false, narrowed := true }
def TupleBackUptoSaid : Prop := tupleBackUptoRow.holds Try.pinned (OpenSpec.upto tupleBackSpec)

/-- 'shelfmarklaw03.TupleNext', WHERE WHAT IT READS IS OF BULK AT MOST 1048576: true; the input reads as it did. -/
def tupleNextUptoRow : OpenClaim := { program := "ytjbbbecbefbcbaa", sum := "63f98065959c4623ef0d66f93a6913cc744881bde90bebe1d7ba8e91a7b3ed3f", func := "shelfmark/shelfmarklaw03.TupleNext", spec := "tupleNext", unfollowed := true, recurses := true, apart := false, narrowed := true }
def TupleNextUptoSaid : Prop := tupleNextUptoRow.holds Try.pinned (OpenSpec.upto tupleNextSpec)

/-- 'shelfmarklaw03.TupleKeeps', WHERE WHAT IT READS IS OF BULK AT MOST 1048576: true; the input reads as it did. -/
def tupleKeepsUptoRow : OpenClaim := { program := "ytjbbbecbefbcbaa", sum := "63f98065959c4623ef0d66f93a6913cc744881bde90bebe1d7ba8e91a7b3ed3f", func := "shelfmark/shelfmarklaw03.TupleKeeps", spec := "tupleKeeps", unfollowed := true, recurses := true, apart := false, narrowed := true }
def TupleKeepsUptoSaid : Prop := tupleKeepsUptoRow.holds Try.pinned (OpenSpec.upto tupleKeepsSpec)

end Rows
end Go.Proofs.Ytjbbbecbefbcbaa

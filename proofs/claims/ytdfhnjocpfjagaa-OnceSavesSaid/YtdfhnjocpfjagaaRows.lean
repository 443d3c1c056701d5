/-
  No cell of these rows narrows 'for every input' (looked for: loops, veiled, ifaces, maps, wideKeys, modest, calm, conditions, laid).
  DERIVED. THE GIVEN ROWS OF THIS SEAT. 12 by the template 'for every input the law returns true; each argument reads behind the call as it read before'; 0 by the template 'total and deterministic' (their statements: YtdfhnjocpfjagaaTotals.lean).
  GIVEN WITH THE SEED: the statements are not yours to turn. If you find one false, say at which input.
  Laid BY PROGRAM, IN A SANDBOX (cutbox-rows.mjs): the forced cells as the released guide's own fill.sh prints them over the translation e0ef2ecf305820a3… (all of the seat's roots in one cut). By AI agents, Wed Nov 11 2026. No macro, syntax, notation, axiom, sorry.
-/
import Derived.Test.YtdfhnjocpfjagaaChecked
import GoSem.Claim
import GoSem.ClaimJoined
import GoSem.ClaimMapViews
import Derived.JoinedTies
import Derived.KernelRfl
namespace Go.Proofs.Ytdfhnjocpfjagaa
/- THE CELL 'sum', in the pinned program and in every row, IS THE sha256 OF THE DUMP (.gsa) THAT YtdfhnjocpfjagaaProg.lean LOADS. Nothing in Lean hashes anything: it is a label: what it is worth is what the hold of that sum in a sandbox is worth. -/
noncomputable def Try.pinned : Pinned := { name := "ytdfhnjocpfjagaa", sum := "e0ef2ecf305820a38cd9e0b29dc09d5cf52b1aa64f96676bd1ecb7c23fbdb728", checked := Try.checked }
namespace Rows
def none {H : Type} : Left H := { results := [], args := [] }

/-- 'shelfmarklaw01.PackNums': WHATEVER THE INPUT: true; the input reads as it did. -/
def packNumsSpec : ChangeSpec := { name := "packNums", fn := fun _ => fun
  | [d1, d2] => { results := [.lit (.bool true)], args := [d1, d2] }
  | _ => none }
def packNumsRow : OpenClaim := { program := "ytdfhnjocpfjagaa", sum := "e0ef2ecf305820a38cd9e0b29dc09d5cf52b1aa64f96676bd1ecb7c23fbdb728", func := "shelfmark/shelfmarklaw01.PackNums", spec := "packNums", apart := false }
def PackNumsSaid : Prop := packNumsRow.holds Try.pinned (OpenSpec.ofChange packNumsSpec)

/-- ITS FALSE NEIGHBOUR: 'it returns false'. Refute it at one input. -/
def packNumsWrong : ChangeSpec := { name := "packNums", fn := fun _ => fun
  | [d1, d2] => { results := [.lit (.bool false)], args := [d1, d2] }
  | _ => none }
def PackNumsWrongFalsely : Prop := packNumsRow.holds Try.pinned (OpenSpec.ofChange packNumsWrong)

/-- 'shelfmarklaw01.PackBack': WHATEVER THE INPUT: true; the input reads as it did. -/
def packBackSpec : ChangeSpec := { name := "packBack", fn := fun _ => fun
  | [d1, d2, d3, d4] => { results := [.lit (.bool true)], args := [d1, d2, d3, d4] }
  | _ => none }
def packBackRow : OpenClaim := { program := "ytdfhnjocpfjagaa", sum := "e0ef2ecf305820a38cd9e0b29dc09d5cf52b1aa64f96676bd1ecb7c23fbdb728", func := "shelfmark/shelfmarklaw01.PackBack", spec := "packBack", apart := false }
def PackBackSaid : Prop := packBackRow.holds Try.pinned (OpenSpec.ofChange packBackSpec)

/-- ITS FALSE NEIGHBOUR: 'it returns false'. Refute it at one input. -/
def packBackWrong : ChangeSpec := { name := "packBack", fn := fun _ => fun
  | [d1, d2, d3, d4] => { results := [.lit (.bool false)], args := [d1, d2, d3, d4] }
  | _ => none }
def PackBackWrongFalsely : Prop := packBackRow.holds Try.pinned (OpenSpec.ofChange packBackWrong)

/-- 'shelfmarklaw03.TupleKeys': WHATEVER THE INPUT: true; the input reads as it did. -/
def tupleKeysSpec : ChangeSpec := { name := "tupleKeys", fn := fun _ => fun
  | [d1, d2] => { results := [.lit (.bool true)], args := [d1, d2] }
  | _ => none }
def tupleKeysRow : OpenClaim := { program := "ytdfhnjocpfjagaa", sum := "e0ef2ecf305820a38cd9e0b29dc09d5cf52b1aa64f96676bd1ecb7c23fbdb728", func := "shelfmark/shelfmarklaw03.TupleKeys", spec := "tupleKeys", inPlace := ["internal/bytealg.abigen_runtime_cmpstring"], unfollowed := true, recurses := true, apart := false }
def TupleKeysSaid : Prop := tupleKeysRow.holds Try.pinned (OpenSpec.ofChange tupleKeysSpec)

/-- ITS FALSE NEIGHBOUR: 'it returns false'. Refute it at one input. -/
def tupleKeysWrong : ChangeSpec := { name := "tupleKeys", fn := fun _ => fun
  | [d1, d2] => { results := [.lit (.bool false)], args := [d1, d2] }
  | _ => none }
def TupleKeysWrongFalsely : Prop := tupleKeysRow.holds Try.pinned (OpenSpec.ofChange tupleKeysWrong)

/-- 'shelfmarklaw03.TupleNext': WHATEVER THE INPUT: true; the input reads as it did. -/
def tupleNextSpec : ChangeSpec := { name := "tupleNext", fn := fun _ => fun
  | [d1, d2] => { results := [.lit (.bool true)], args := [d1, d2] }
  | _ => none }
def tupleNextRow : OpenClaim := { program := "ytdfhnjocpfjagaa", sum := "e0ef2ecf305820a38cd9e0b29dc09d5cf52b1aa64f96676bd1ecb7c23fbdb728", func := "shelfmark/shelfmarklaw03.TupleNext", spec := "tupleNext", unfollowed := true, recurses := true, apart := false }
def TupleNextSaid : Prop := tupleNextRow.holds Try.pinned (OpenSpec.ofChange tupleNextSpec)

/-- ITS FALSE NEIGHBOUR: 'it returns false'. Refute it at one input. -/
def tupleNextWrong : ChangeSpec := { name := "tupleNext", fn := fun _ => fun
  | [d1, d2] => { results := [.lit (.bool false)], args := [d1, d2] }
  | _ => none }
def TupleNextWrongFalsely : Prop := tupleNextRow.holds Try.pinned (OpenSpec.ofChange tupleNextWrong)

/-- 'shelfmarklaw04.RecordShows': WHATEVER THE INPUT: true; the input reads as it did. -/
def recordShowsSpec : ChangeSpec := { name := "recordShows", fn := fun _ => fun
  | [d1, d2] => { results := [.lit (.bool true)], args := [d1, d2] }
  | _ => none }
def recordShowsRow : OpenClaim := { program := "ytdfhnjocpfjagaa", sum := "e0ef2ecf305820a38cd9e0b29dc09d5cf52b1aa64f96676bd1ecb7c23fbdb728", func := "shelfmark/shelfmarklaw04.RecordShows", spec := "recordShows", unfollowed := true, recurses := true, apart := false }
def RecordShowsSaid : Prop := recordShowsRow.holds Try.pinned (OpenSpec.ofChange recordShowsSpec)

/-- ITS FALSE NEIGHBOUR: 'it returns false'. Refute it at one input. -/
def recordShowsWrong : ChangeSpec := { name := "recordShows", fn := fun _ => fun
  | [d1, d2] => { results := [.lit (.bool false)], args := [d1, d2] }
  | _ => none }
def RecordShowsWrongFalsely : Prop := recordShowsRow.holds Try.pinned (OpenSpec.ofChange recordShowsWrong)

/-- 'shelfmarklaw04.RecordFinds': WHATEVER THE INPUT: true; the input reads as it did. -/
def recordFindsSpec : ChangeSpec := { name := "recordFinds", fn := fun _ => fun
  | [d1, d2, d3, d4, d5, d6] => { results := [.lit (.bool true)], args := [d1, d2, d3, d4, d5, d6] }
  | _ => none }
def recordFindsRow : OpenClaim := { program := "ytdfhnjocpfjagaa", sum := "e0ef2ecf305820a38cd9e0b29dc09d5cf52b1aa64f96676bd1ecb7c23fbdb728", func := "shelfmark/shelfmarklaw04.RecordFinds", spec := "recordFinds", inPlace := ["internal/bytealg.abigen_runtime_cmpstring"], unfollowed := true, recurses := true, apart := false }
def RecordFindsSaid : Prop := recordFindsRow.holds Try.pinned (OpenSpec.ofChange recordFindsSpec)

/-- ITS FALSE NEIGHBOUR: 'it returns false'. Refute it at one input. -/
def recordFindsWrong : ChangeSpec := { name := "recordFinds", fn := fun _ => fun
  | [d1, d2, d3, d4, d5, d6] => { results := [.lit (.bool false)], args := [d1, d2, d3, d4, d5, d6] }
  | _ => none }
def RecordFindsWrongFalsely : Prop := recordFindsRow.holds Try.pinned (OpenSpec.ofChange recordFindsWrong)

/-- 'shelfmarklaw17.OncePlays': WHATEVER THE INPUT: true; the input reads as it did. -/
def oncePlaysSpec : ChangeSpec := { name := "oncePlays", fn := fun _ => fun
  | [d] => { results := [.lit (.bool true)], args := [d] }
  | _ => none }
def oncePlaysRow : OpenClaim := { program := "ytdfhnjocpfjagaa", sum := "e0ef2ecf305820a38cd9e0b29dc09d5cf52b1aa64f96676bd1ecb7c23fbdb728", func := "shelfmark/shelfmarklaw17.OncePlays", spec := "oncePlays", unfollowed := true, recurses := true, apart := false }
def OncePlaysSaid : Prop := oncePlaysRow.holds Try.pinned (OpenSpec.ofChange oncePlaysSpec)

/-- ITS FALSE NEIGHBOUR: 'it returns false'. Refute it at one input. -/
def oncePlaysWrong : ChangeSpec := { name := "oncePlays", fn := fun _ => fun
  | [d] => { results := [.lit (.bool false)], args := [d] }
  | _ => none }
def OncePlaysWrongFalsely : Prop := oncePlaysRow.holds Try.pinned (OpenSpec.ofChange oncePlaysWrong)

/-- 'shelfmarklaw17.OnceJoins': WHATEVER THE INPUT: true; the input reads as it did. -/
def onceJoinsSpec : ChangeSpec := { name := "onceJoins", fn := fun _ => fun
  | [d] => { results := [.lit (.bool true)], args := [d] }
  | _ => none }
def onceJoinsRow : OpenClaim := { program := "ytdfhnjocpfjagaa", sum := "e0ef2ecf305820a38cd9e0b29dc09d5cf52b1aa64f96676bd1ecb7c23fbdb728", func := "shelfmark/shelfmarklaw17.OnceJoins", spec := "onceJoins", unfollowed := true, recurses := true, apart := false }
def OnceJoinsSaid : Prop := onceJoinsRow.holds Try.pinned (OpenSpec.ofChange onceJoinsSpec)

/-- ITS FALSE NEIGHBOUR: 'it returns false'. Refute it at one input. -/
def onceJoinsWrong : ChangeSpec := { name := "onceJoins", fn := fun _ => fun
  | [d] => { results := [.lit (.bool false)], args := [d] }
  | _ => none }
def OnceJoinsWrongFalsely : Prop := onceJoinsRow.holds Try.pinned (OpenSpec.ofChange onceJoinsWrong)

/-- 'shelfmarklaw17.OnceNever': WHATEVER THE INPUT: true; the input reads as it did. -/
def onceNeverSpec : ChangeSpec := { name := "onceNever", fn := fun _ => fun
  | [d] => { results := [.lit (.bool true)], args := [d] }
  | _ => none }
def onceNeverRow : OpenClaim := { program := "ytdfhnjocpfjagaa", sum := "e0ef2ecf305820a38cd9e0b29dc09d5cf52b1aa64f96676bd1ecb7c23fbdb728", func := "shelfmark/shelfmarklaw17.OnceNever", spec := "onceNever", unfollowed := true, recurses := true, apart := false }
def OnceNeverSaid : Prop := onceNeverRow.holds Try.pinned (OpenSpec.ofChange onceNeverSpec)

/-- ITS FALSE NEIGHBOUR: 'it returns false'. Refute it at one input. -/
def onceNeverWrong : ChangeSpec := { name := "onceNever", fn := fun _ => fun
  | [d] => { results := [.lit (.bool false)], args := [d] }
  | _ => none }
def OnceNeverWrongFalsely : Prop := onceNeverRow.holds Try.pinned (OpenSpec.ofChange onceNeverWrong)

/-- 'shelfmarklaw17.OnceSaves': WHATEVER THE INPUT: true; the input reads as it did. -/
def onceSavesSpec : ChangeSpec := { name := "onceSaves", fn := fun _ => fun
  | [d1, d2] => { results := [.lit (.bool true)], args := [d1, d2] }
  | _ => none }
def onceSavesRow : OpenClaim := { program := "ytdfhnjocpfjagaa", sum := "e0ef2ecf305820a38cd9e0b29dc09d5cf52b1aa64f96676bd1ecb7c23fbdb728", func := "shelfmark/shelfmarklaw17.OnceSaves", spec := "onceSaves", unfollowed := true, recurses := true, apart := false }
def OnceSavesSaid : Prop := onceSavesRow.holds Try.pinned (OpenSpec.ofChange onceSavesSpec)

/-- ITS FALSE NEIGHBOUR: 'it returns false'. Refute it at one input. -/
def onceSavesWrong : ChangeSpec := { name := "onceSaves", fn := fun _ => fun
  | [d1, d2] => { results := [.lit (.bool false)], args := [d1, d2] }
  | _ => none }
def OnceSavesWrongFalsely : Prop := onceSavesRow.holds Try.pinned (OpenSpec.ofChange onceSavesWrong)

/-- 'shelfmarklaw17.OnceKeeps': WHATEVER THE INPUT: true; the input reads as it did. -/
def onceKeepsSpec : ChangeSpec := { name := "onceKeeps", fn := fun _ => fun
  | [d1, d2, d3] => { results := [.lit (.bool true)], args := [d1, d2, d3] }
  | _ => none }
def onceKeepsRow : OpenClaim := { program := "ytdfhnjocpfjagaa", sum := "e0ef2ecf305820a38cd9e0b29dc09d5cf52b1aa64f96676bd1ecb7c23fbdb728", func := "shelfmark/shelfmarklaw17.OnceKeeps", spec := "onceKeeps", unfollowed := true, recurses := true, apart := false }
def OnceKeepsSaid : Prop := onceKeepsRow.holds Try.pinned (OpenSpec.ofChange onceKeepsSpec)

/-- ITS FALSE NEIGHBOUR: 'it returns false'. Refute it at one input. -/
def onceKeepsWrong : ChangeSpec := { name := "onceKeeps", fn := fun _ => fun
  | [d1, d2, d3] => { results := [.lit (.bool false)], args := [d1, d2, d3] }
  | _ => none }
def OnceKeepsWrongFalsely : Prop := onceKeepsRow.holds Try.pinned (OpenSpec.ofChange onceKeepsWrong)

/-- 'shelfmarklaw17.OnceApart': WHATEVER THE INPUT: true; the input reads as it did. -/
def onceApartSpec : ChangeSpec := { name := "onceApart", fn := fun _ => fun
  | [d1, d2] => { results := [.lit (.bool true)], args := [d1, d2] }
  | _ => none }
def onceApartRow : OpenClaim := { program := "ytdfhnjocpfjagaa", sum := "e0ef2ecf305820a38cd9e0b29dc09d5cf52b1aa64f96676bd1ecb7c23fbdb728", func := "shelfmark/shelfmarklaw17.OnceApart", spec := "onceApart", unfollowed := true, recurses := true, apart := false }
def OnceApartSaid : Prop := onceApartRow.holds Try.pinned (OpenSpec.ofChange onceApartSpec)

/-- ITS FALSE NEIGHBOUR: 'it returns false'. Refute it at one input. -/
def onceApartWrong : ChangeSpec := { name := "onceApart", fn := fun _ => fun
  | [d1, d2] => { results := [.lit (.bool false)], args := [d1, d2] }
  | _ => none }
def OnceApartWrongFalsely : Prop := onceApartRow.holds Try.pinned (OpenSpec.ofChange onceApartWrong)

/- THE SECOND FORM. 'bulk': how many values and letters a reading holds, each counted each time it is reached (what is shared counts as often as it is met; a slice's spare places count too). A statement '..UptoSaid' is the law's where the arguments, and the package variables that the reading takes, are together of bulk at most 1048576: NARROWER than '..Said'. Prove '..Said' where nothing that the law and all that it calls make is longer than what came in: it says more and counts as full. Else prove '..UptoSaid'. A law counts once. -/
mutual
def uptoBulk {H : Type} : DataW H → Nat
  | .lit (.string bytes) => bytes.length + 1
  | .lit _ => 1
  | .nil => 1
  | .ptr d => uptoBulk d + 1
  | .slice elems spare => uptoBulkAll elems + uptoBulkAll spare + 1
  | .agg parts => uptoBulkAll parts + 1
  | .iface _ d => uptoBulk d + 1
  | .map entries => uptoBulkEntries entries + 1
  | .held _ => 1
def uptoBulkAll {H : Type} : List (DataW H) → Nat
  | [] => 0
  | d :: r => uptoBulk d + uptoBulkAll r
def uptoBulkEntries {H : Type} : List (Lit × DataW H) → Nat
  | [] => 0
  | x :: r => uptoBulkEntry x + uptoBulkEntries r
def uptoBulkEntry {H : Type} : Lit × DataW H → Nat
  | (.string bytes, d) => bytes.length + uptoBulk d + 1
  | (_, d) => uptoBulk d + 1
 end
def uptoSmall : (H : Type) → List (DataW H) → Bool := fun _ ds => decide (uptoBulkAll ds ≤ 1048576)
def OpenSpec.upto (s : _root_.Go.ChangeSpec) : _root_.Go.OpenSpec := { _root_.Go.OpenSpec.ofChange s with cond := some uptoSmall }

/-- 'shelfmarklaw01.PackNums', WHERE WHAT IT READS IS OF BULK AT MOST 1048576: true; the input reads as it did. -/
def packNumsUptoRow : OpenClaim := { program := "ytdfhnjocpfjagaa", sum := "e0ef2ecf305820a38cd9e0b29dc09d5cf52b1aa64f96676bd1ecb7c23fbdb728", func := "shelfmark/shelfmarklaw01.PackNums", spec := "packNums", apart := false, narrowed := true }
def PackNumsUptoSaid : Prop := packNumsUptoRow.holds Try.pinned (OpenSpec.upto packNumsSpec)

/-- 'shelfmarklaw01.PackBack', WHERE WHAT IT READS IS OF BULK AT MOST 1048576: true; the input reads as it did. -/
def packBackUptoRow : OpenClaim := { program := "ytdfhnjocpfjagaa", sum := "e0ef2ecf305820a38cd9e0b29dc09d5cf52b1aa64f96676bd1ecb7c23fbdb728", func := "shelfmark/shelfmarklaw01.PackBack", spec := "packBack", apart := false, narrowed := true }
def PackBackUptoSaid : Prop := packBackUptoRow.holds Try.pinned (OpenSpec.upto packBackSpec)

/-- 'shelfmarklaw03.TupleKeys', WHERE WHAT IT READS IS OF BULK AT MOST 1048576: true; the input reads as it did. -/
def tupleKeysUptoRow : OpenClaim := { program := "ytdfhnjocpfjagaa", sum := "e0ef2ecf305820a38cd9e0b29dc09d5cf52b1aa64f96676bd1ecb7c23fbdb728", func := "shelfmark/shelfmarklaw03.TupleKeys", spec := "tupleKeys", inPlace := ["internal/bytealg.abigen_runtime_cmpstring"], unfollowed := true, recurses := true, apart := false, narrowed := true }
def TupleKeysUptoSaid : Prop := tupleKeysUptoRow.holds Try.pinned (OpenSpec.upto tupleKeysSpec)

/-- 'shelfmarklaw03.TupleNext', WHERE WHAT IT READS IS OF BULK AT MOST 1048576: true; the input reads as it did. -/
def tupleNextUptoRow : OpenClaim := { program := "ytdfhnjocpfjagaa", sum := "e0ef2ecf305820a38cd9e0b29dc09d5cf52b1aa64f96676bd1ecb7c23fbdb728", func := "shelfmark/shelfmarklaw03.TupleNext", spec := "tupleNext", unfollowed := true, recurses := true, apart := false, narrowed := true }
def TupleNextUptoSaid : Prop := tupleNextUptoRow.holds Try.pinned (OpenSpec.upto tupleNextSpec)

/-- 'shelfmarklaw04.RecordShows', WHERE WHAT IT READS IS OF BULK AT MOST 1048576: true; the input reads as it did. -/
def recordShowsUptoRow : OpenClaim := { program := "ytdfhnjocpfjagaa", sum := "e0ef2ecf305820a38cd9e0b29dc09d5cf52b1aa64f96676bd1ecb7c23fbdb728", func := "shelfmark/shelfmarklaw04.RecordShows", spec := "recordShows", unfollowed := true, recurses := true, apart := false, narrowed := true }
def RecordShowsUptoSaid : Prop := recordShowsUptoRow.holds Try.pinned (OpenSpec.upto recordShowsSpec)

/-- 'shelfmarklaw04.RecordFinds', WHERE WHAT IT READS IS OF BULK AT MOST 1048576: true; the input reads as it did. -/
def recordFindsUptoRow : OpenClaim := { program := "ytdfhnjocpfjagaa", sum := "e0ef2ecf305820a38cd9e0b29dc09d5cf52b1aa64f96676bd1ecb7c23fbdb728", func := "shelfmark/shelfmarklaw04.RecordFinds", spec := "recordFinds", inPlace := ["internal/bytealg.abigen_runtime_cmpstring"], unfollowed := true, recurses := true, apart := false, narrowed := true }
def RecordFindsUptoSaid : Prop := recordFindsUptoRow.holds Try.pinned (OpenSpec.upto recordFindsSpec)

/-- 'shelfmarklaw17.OncePlays', WHERE WHAT IT READS IS OF BULK AT MOST 1048576: true; the input reads as it did. -/
def oncePlaysUptoRow : OpenClaim := { program := "ytdfhnjocpfjagaa", sum := "e0ef2ecf305820a38cd9e0b29dc09d5cf52b1aa64f96676bd1ecb7c23fbdb728", func := "shelfmark/shelfmarklaw17.OncePlays", spec := "oncePlays", unfollowed := true, recurses := true, apart := false, narrowed := true }
def OncePlaysUptoSaid : Prop := oncePlaysUptoRow.holds Try.pinned (OpenSpec.upto oncePlaysSpec)

/-- 'shelfmarklaw17.OnceJoins', WHERE WHAT IT READS IS OF BULK AT MOST 1048576: true; the input reads as it did. -/
def onceJoinsUptoRow : OpenClaim := { program := "ytdfhnjocpfjagaa", sum := "e0ef2ecf305820a38cd9e0b29dc09d5cf52b1aa64f96676bd1ecb7c23fbdb728", func := "shelfmark/shelfmarklaw17.OnceJoins", spec := "onceJoins", unfollowed := true, recurses := true, apart := false, narrowed := true }
def OnceJoinsUptoSaid : Prop := onceJoinsUptoRow.holds Try.pinned (OpenSpec.upto onceJoinsSpec)

/-- 'shelfmarklaw17.OnceNever', WHERE WHAT IT READS IS OF BULK AT MOST 1048576: true; the input reads as it did. -/
def onceNeverUptoRow : OpenClaim := { program := "ytdfhnjocpfjagaa", sum := "e0ef2ecf305820a38cd9e0b29dc09d5cf52b1aa64f96676bd1ecb7c23fbdb728", func := "shelfmark/shelfmarklaw17.OnceNever", spec := "onceNever", unfollowed := true, recurses := true, apart := false, narrowed := true }
def OnceNeverUptoSaid : Prop := onceNeverUptoRow.holds Try.pinned (OpenSpec.upto onceNeverSpec)

/-- 'shelfmarklaw17.OnceSaves', WHERE WHAT IT READS IS OF BULK AT MOST 1048576: true; the input reads as it did. -/
def onceSavesUptoRow : OpenClaim := { program := "ytdfhnjocpfjagaa", sum := "e0ef2ecf305820a38cd9e0b29dc09d5cf52b1aa64f96676bd1ecb7c23fbdb728", func := "shelfmark/shelfmarklaw17.OnceSaves", spec := "onceSaves", unfollowed := true, recurses := true, apart := false, narrowed := true }
def OnceSavesUptoSaid : Prop := onceSavesUptoRow.holds Try.pinned (OpenSpec.upto onceSavesSpec)

/-- 'shelfmarklaw17.OnceKeeps', WHERE WHAT IT READS IS OF BULK AT MOST 1048576: true; the input reads as it did. -/
def onceKeepsUptoRow : OpenClaim := { program := "ytdfhnjocpfjagaa", sum := "e0ef2ecf305820a38cd9e0b29dc09d5cf52b1aa64f96676bd1ecb7c23fbdb728", func := "shelfmark/shelfmarklaw17.OnceKeeps", spec := "onceKeeps", unfollowed := true, recurses := true, apart := false, narrowed := true }
def OnceKeepsUptoSaid : Prop := onceKeepsUptoRow.holds Try.pinned (OpenSpec.upto onceKeepsSpec)

/-- 'shelfmarklaw17.OnceApart', WHERE WHAT IT READS IS OF BULK AT MOST 1048576: true; the input reads as it did. -/
def onceApartUptoRow : OpenClaim := { program := "ytdfhnjocpfjagaa", sum := "e0ef2ecf305820a38cd9e0b29dc09d5cf52b1aa64f96676bd1ecb7c23fbdb728", func := "shelfmark/shelfmarklaw17.OnceApart", spec := "onceApart", unfollowed := true, recurses := true, apart := false, narrowed := true }
def OnceApartUptoSaid : Prop := onceApartUptoRow.holds Try.pinned (OpenSpec.upto onceApartSpec)

end Rows
end Go.Proofs.Ytdfhnjocpfjagaa

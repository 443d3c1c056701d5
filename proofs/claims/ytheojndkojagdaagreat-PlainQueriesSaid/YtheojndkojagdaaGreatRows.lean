/-
  No cell of these rows narrows 'for every input' (looked for: loops, veiled, ifaces, maps, wideKeys, modest, calm, conditions, laid).
  DERIVED. THE GIVEN ROWS OF THIS SEAT. 5 by the template 'for every input the law returns true; each argument reads behind the call as it read before'; 0 by the template 'total and deterministic' (their statements: YtheojndkojagdaaGreatTotals.lean).
  GIVEN WITH THE SEED: the statements are not yours to turn. If you find one false, say at which input.
  Laid BY PROGRAM, IN A SANDBOX (cutbox-rows.mjs): the forced cells as the released guide's own fill.sh prints them over the translation 39c6ac085e4280f6… (all of the seat's roots in one cut). By AI agents, Wed Nov 11 2026. No macro, syntax, notation, axiom, sorry.
-/
import Derived.Test.YtheojndkojagdaaGreatChecked
import GoSem.Claim
import GoSem.ClaimJoined
import GoSem.ClaimMapViews
import Derived.JoinedTies
import Derived.KernelRfl
namespace Go.Proofs.YtheojndkojagdaaGreat
/- THE CELL 'sum', in the pinned program and in every row, IS THE sha256 OF THE DUMP (.gsa) THAT YtheojndkojagdaaGreatProg.lean LOADS. Nothing in Lean hashes anything: it is a label: what it is worth is what the hold of that sum in a sandbox is worth. -/
noncomputable def Tryz.pinned : Pinned := { name := "ytheojndkojagdaagreat", sum := "39c6ac085e4280f6d339e82bfc6f8ea41d23afa430941f1e4018ed097b61caab", checked := Tryz.checked }
namespace Rows
def none {H : Type} : Left H := { results := [], args := [] }

/-- 'shelfmarklaw05.PlainDoes': WHATEVER THE INPUT: true; the input reads as it did. -/
def plainDoesSpec : ChangeSpec := { name := "plainDoes", fn := fun _ => fun
  | [d] => { results := [.lit (.bool true)], args := [d] }
  | _ => none }
def plainDoesRow : OpenClaim := { program := "ytheojndkojagdaagreat", sum := "39c6ac085e4280f6d339e82bfc6f8ea41d23afa430941f1e4018ed097b61caab", func := "shelfmark/shelfmarklaw05.PlainDoes", spec := "plainDoes", inPlace := ["internal/bytealg.abigen_runtime_cmpstring"], unfollowed := true, recurses := true, apart := false }
def PlainDoesSaid : Prop := plainDoesRow.holds Tryz.pinned (OpenSpec.ofChange plainDoesSpec)

/-- ITS FALSE NEIGHBOUR: 'it returns false'. Refute it at one input. -/
def plainDoesWrong : ChangeSpec := { name := "plainDoes", fn := fun _ => fun
  | [d] => { results := [.lit (.bool false)], args := [d] }
  | _ => none }
def PlainDoesWrongFalsely : Prop := plainDoesRow.holds Tryz.pinned (OpenSpec.ofChange plainDoesWrong)

/-- 'shelfmarklaw05.PlainQueries': WHATEVER THE INPUT: true; the input reads as it did. -/
def plainQueriesSpec : ChangeSpec := { name := "plainQueries", fn := fun _ => fun
  | [d1, d2, d3, d4] => { results := [.lit (.bool true)], args := [d1, d2, d3, d4] }
  | _ => none }
def plainQueriesRow : OpenClaim := { program := "ytheojndkojagdaagreat", sum := "39c6ac085e4280f6d339e82bfc6f8ea41d23afa430941f1e4018ed097b61caab", func := "shelfmark/shelfmarklaw05.PlainQueries", spec := "plainQueries", inPlace := ["internal/bytealg.abigen_runtime_cmpstring"], unfollowed := true, recurses := true, apart := false }
def PlainQueriesSaid : Prop := plainQueriesRow.holds Tryz.pinned (OpenSpec.ofChange plainQueriesSpec)

/-- ITS FALSE NEIGHBOUR: 'it returns false'. Refute it at one input. -/
def plainQueriesWrong : ChangeSpec := { name := "plainQueries", fn := fun _ => fun
  | [d1, d2, d3, d4] => { results := [.lit (.bool false)], args := [d1, d2, d3, d4] }
  | _ => none }
def PlainQueriesWrongFalsely : Prop := plainQueriesRow.holds Tryz.pinned (OpenSpec.ofChange plainQueriesWrong)

/-- 'shelfmarklaw05.PlainPages': WHATEVER THE INPUT: true; the input reads as it did. -/
def plainPagesSpec : ChangeSpec := { name := "plainPages", fn := fun _ => fun
  | [d1, d2, d3, d4] => { results := [.lit (.bool true)], args := [d1, d2, d3, d4] }
  | _ => none }
def plainPagesRow : OpenClaim := { program := "ytheojndkojagdaagreat", sum := "39c6ac085e4280f6d339e82bfc6f8ea41d23afa430941f1e4018ed097b61caab", func := "shelfmark/shelfmarklaw05.PlainPages", spec := "plainPages", inPlace := ["internal/bytealg.abigen_runtime_cmpstring"], unfollowed := true, recurses := true, apart := false }
def PlainPagesSaid : Prop := plainPagesRow.holds Tryz.pinned (OpenSpec.ofChange plainPagesSpec)

/-- ITS FALSE NEIGHBOUR: 'it returns false'. Refute it at one input. -/
def plainPagesWrong : ChangeSpec := { name := "plainPages", fn := fun _ => fun
  | [d1, d2, d3, d4] => { results := [.lit (.bool false)], args := [d1, d2, d3, d4] }
  | _ => none }
def PlainPagesWrongFalsely : Prop := plainPagesRow.holds Tryz.pinned (OpenSpec.ofChange plainPagesWrong)

/-- 'shelfmarklaw05.PlainCas': WHATEVER THE INPUT: true; the input reads as it did. -/
def plainCasSpec : ChangeSpec := { name := "plainCas", fn := fun _ => fun
  | [d1, d2, d3, d4, d5] => { results := [.lit (.bool true)], args := [d1, d2, d3, d4, d5] }
  | _ => none }
def plainCasRow : OpenClaim := { program := "ytheojndkojagdaagreat", sum := "39c6ac085e4280f6d339e82bfc6f8ea41d23afa430941f1e4018ed097b61caab", func := "shelfmark/shelfmarklaw05.PlainCas", spec := "plainCas", inPlace := ["internal/bytealg.abigen_runtime_cmpstring"], unfollowed := true, recurses := true, apart := false }
def PlainCasSaid : Prop := plainCasRow.holds Tryz.pinned (OpenSpec.ofChange plainCasSpec)

/-- ITS FALSE NEIGHBOUR: 'it returns false'. Refute it at one input. -/
def plainCasWrong : ChangeSpec := { name := "plainCas", fn := fun _ => fun
  | [d1, d2, d3, d4, d5] => { results := [.lit (.bool false)], args := [d1, d2, d3, d4, d5] }
  | _ => none }
def PlainCasWrongFalsely : Prop := plainCasRow.holds Tryz.pinned (OpenSpec.ofChange plainCasWrong)

/-- 'shelfmarklaw05.PlainKeeps': WHATEVER THE INPUT: true; the input reads as it did. -/
def plainKeepsSpec : ChangeSpec := { name := "plainKeeps", fn := fun _ => fun
  | [d1, d2, d3] => { results := [.lit (.bool true)], args := [d1, d2, d3] }
  | _ => none }
def plainKeepsRow : OpenClaim := { program := "ytheojndkojagdaagreat", sum := "39c6ac085e4280f6d339e82bfc6f8ea41d23afa430941f1e4018ed097b61caab", func := "shelfmark/shelfmarklaw05.PlainKeeps", spec := "plainKeeps", inPlace := ["internal/bytealg.abigen_runtime_cmpstring"], unfollowed := true, recurses := true, apart := false }
def PlainKeepsSaid : Prop := plainKeepsRow.holds Tryz.pinned (OpenSpec.ofChange plainKeepsSpec)

/-- ITS FALSE NEIGHBOUR: 'it returns false'. Refute it at one input. -/
def plainKeepsWrong : ChangeSpec := { name := "plainKeeps", fn := fun _ => fun
  | [d1, d2, d3] => { results := [.lit (.bool false)], args := [d1, d2, d3] }
  | _ => none }
def PlainKeepsWrongFalsely : Prop := plainKeepsRow.holds Tryz.pinned (OpenSpec.ofChange plainKeepsWrong)

/- THE SECOND FORM. 'bulk': how many values and letters a reading holds, each counted each time it is reached (what is shared counts as often as it is met; a slice's spare places count too). A statement '..UptoSaid' is the law's where the arguments, and the package variables that the reading takes, are together of bulk at most 1048576: NARROWER than '..Said'. Prove '..Said' where nothing that the law and all that it calls make is longer than what came in: it says more and counts as full. Else prove '..UptoSaid'. A law counts once. -/
mutual
def uptoBulk {H : Type} : DataW H → Nat
  | .lit (.string bytes) => bytes.length + 1
  | .lit _ => 1
  | .nil => 1
  | .ptr d => uptoBulk d + 1
  | .slice elems spare => uptoBulkAll elems + uptoBulkAll spare + 1
  | .agg parts => uptoBulkAll parts + 1
  | .iface _ d => uptoBulk d + 1
  | .map entries => uptoBulkEntries entries + 1
  | .held _ => 1
def uptoBulkAll {H : Type} : List (DataW H) → Nat
  | [] => 0
  | d :: r => uptoBulk d + uptoBulkAll r
def uptoBulkEntries {H : Type} : List (Lit × DataW H) → Nat
  | [] => 0
  | x :: r => uptoBulkEntry x + uptoBulkEntries r
def uptoBulkEntry {H : Type} : Lit × DataW H → Nat
  | (.string bytes, d) => bytes.length + uptoBulk d + 1
  | (_, d) => uptoBulk d + 1
 end
def uptoSmall : (H : Type) → List (DataW H) → Bool := fun _ ds => decide (uptoBulkAll ds ≤ 1048576)
def OpenSpec.upto (s : _root_.Go.ChangeSpec) : _root_.Go.OpenSpec := { _root_.Go.OpenSpec.ofChange s with cond := some uptoSmall }

/-- 'shelfmarklaw05.PlainDoes', WHERE WHAT IT READS IS OF BULK AT MOST 1048576: true; the input reads as it did. -/
def plainDoesUptoRow : OpenClaim := { program := "ytheojndkojagdaagreat", sum := "39c6ac085e4280f6d339e82bfc6f8ea41d23afa430941f1e4018ed097b61caab", func := "shelfmark/shelfmarklaw05.PlainDoes", spec := "plainDoes", inPlace := ["internal/bytealg.abigen_runtime_cmpstring"], unfollowed := true, recurses := true, apart := false, narrowed := true }
def PlainDoesUptoSaid : Prop := plainDoesUptoRow.holds Tryz.pinned (OpenSpec.upto plainDoesSpec)

/-- 'shelfmarklaw05.PlainQueries', WHERE WHAT IT READS IS OF BULK AT MOST 1048576: true; the input reads as it did. -/
def plainQueriesUptoRow : OpenClaim := { program := "ytheojndkojagdaagreat", sum := "39c6ac085e4280f6d339e82bfc6f8ea41d23afa430941f1e4018ed097b61caab", func := "shelfmark/shelfmarklaw05.PlainQueries", spec := "plainQueries", inPlace := ["internal/bytealg.abigen_runtime_cmpstring"], unfollowed := true, recurses := true, apart := false, narrowed := true }
def PlainQueriesUptoSaid : Prop := plainQueriesUptoRow.holds Tryz.pinned (OpenSpec.upto plainQueriesSpec)

/-- 'shelfmarklaw05.PlainPages', WHERE WHAT IT READS IS OF BULK AT MOST 1048576: true; the input reads as it did. -/
def plainPagesUptoRow : OpenClaim := { program := "ytheojndkojagdaagreat", sum := "39c6ac085e4280f6d339e82bfc6f8ea41d23afa430941f1e4018ed097b61caab", func := "shelfmark/shelfmarklaw05.PlainPages", spec := "plainPages", inPlace := ["internal/bytealg.abigen_runtime_cmpstring"], unfollowed := true, recurses := true, apart := false, narrowed := true }
def PlainPagesUptoSaid : Prop := plainPagesUptoRow.holds Tryz.pinned (OpenSpec.upto plainPagesSpec)

/-- 'shelfmarklaw05.PlainCas', WHERE WHAT IT READS IS OF BULK AT MOST 1048576: true; the input reads as it did. -/
def plainCasUptoRow : OpenClaim := { program := "ytheojndkojagdaagreat", sum := "39c6ac085e4280f6d339e82bfc6f8ea41d23afa430941f1e4018ed097b61caab", func := "shelfmark/shelfmarklaw05.PlainCas", spec := "plainCas", inPlace := ["internal/bytealg.abigen_runtime_cmpstring"], unfollowed := true, recurses := true, apart := false, narrowed := true }
def PlainCasUptoSaid : Prop := plainCasUptoRow.holds Tryz.pinned (OpenSpec.upto plainCasSpec)

/-- 'shelfmarklaw05.PlainKeeps', WHERE WHAT IT READS IS OF BULK AT MOST 1048576: true; the input reads as it did. -/
def plainKeepsUptoRow : OpenClaim := { program := "ytheojndkojagdaagreat", sum := "39c6ac085e4280f6d339e82bfc6f8ea41d23afa430941f1e4018ed097b61caab", func := "shelfmark/shelfmarklaw05.PlainKeeps", spec := "plainKeeps", inPlace := ["internal/bytealg.abigen_runtime_cmpstring"], unfollowed := true, recurses := true, apart := false, narrowed := true }
def PlainKeepsUptoSaid : Prop := plainKeepsUptoRow.holds Tryz.pinned (OpenSpec.upto plainKeepsSpec)

end Rows
end Go.Proofs.YtheojndkojagdaaGreat

/-
  Layer 12 as plain mathematics: a map as a text, and what texts are. Nothing of the translated program is named here.
-/
import Derived.Test.YtefagaiaflddaaaSpecAtl
import Derived.Test.YtefagaiaflddaaaSpecBack
namespace Go.Proofs.Ytefagaiaflddaaa

def bodyP : List Pt → List UInt8
  | [] => []
  | p :: l => textForm p.lb ++ (numForm p.n.toNat ++ bodyP l)
def packM (ep : Nat) (l : List Pt) : List UInt8 := numForm ep ++ (numForm l.length ++ bodyP l)
/-- what Pack answers -/
noncomputable def packT (ep : Int) (l : List Pt) : List UInt8 × Int := if checkT ep l = 0 then (packM ep.toNat l, 0) else ([], checkT ep l)
end Go.Proofs.Ytefagaiaflddaaa

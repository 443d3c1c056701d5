/- Bytes that the call owns, appended to. No condition. -/
import Derived.Test.YtabcoidjbigdbaaAppend
import Derived.Test.YtabcoidjbigdbaaOwn
namespace Go.Proofs.Ytabcoidjbigdbaa
open Go.RowKit

theorem own_eqB {w : World} {B m m' : Nat} {v : Value} {xs xs' : List Value} (h : w.ownsRow B 5 1 v m xs) (hm : m = m') (hx : xs = xs') : w.ownsRow B 5 1 v m' xs' := by
  subst hm
  subst hx
  exact h
/-- bytes that the call owns -/
def OwnBs (w : World) (B : Nat) (v : Value) (l : List UInt8) : Prop := w.ownsRow B 5 1 v l.length (byteCells l)
theorem OwnBs.app {w' : World} {B m : Nat} {v : Value} {a b : List UInt8} (h : w'.ownsRow B 5 1 v (a.length + m) (byteCells a ++ byteCells b)) (hm : m = b.length) : OwnBs w' B v (a ++ b) := by
  subst hm
  unfold OwnBs
  rw [List.length_append, byteCells_app]
  exact h
end Go.Proofs.Ytabcoidjbigdbaa

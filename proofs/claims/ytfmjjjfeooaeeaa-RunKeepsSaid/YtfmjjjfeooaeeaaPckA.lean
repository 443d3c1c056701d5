/- run.Pack gives what the plain text (SpecPk) gives. Condition: few changes with short texts, in memory. -/
import Derived.Test.YtfmjjjfeooaeeaaRunB
import Derived.Test.YtfmjjjfeooaeeaaSpecPk
import Derived.Test.YtfmjjjfeooaeeaaPakK
import Derived.Test.YtfmjjjfeooaeeaaStep
namespace Go.Proofs.Ytfmjjjfeooaeeaa
open Go.RowKit
open Go.Lib (strCells compareBytes)

/-- slice values, each with the bytes that it has -/
abbrev Pvs := List (Value × List UInt8)
def pvCells (rs : Pvs) : List Value := rs.map (·.1)
/-- a row of rows of bytes that the call owns, from block B on: the rows too -/
structure OwnPv (w : World) (B : Nat) (v : Value) (rs : Pvs) : Prop where
  own : w.ownsRow B 55 1 v rs.length (pvCells rs)
  rows : ∀ r ∈ rs, w.ownsRow B 5 1 r.1 r.2.length (byteCells r.2)
theorem pv_elem : ElemN Try.prog 55 1 24 (.slice none 0 0) := ⟨by kernel_rfl, rfl⟩
theorem own_typeP {w : World} {B m size : Nat} {e : TypeId} {v : Value} {xs : List Value} (h : w.ownsRow B e size v m xs) {g : Nat} (hg : v.ownBlock = some g) : ∃ cur : Array Value, w.heap[g]? = some (Obj.cells cur e (0, 0)) := by
  rcases h.2 with ⟨rfl, _⟩ | ⟨g', cap, cur, rfl, hB, hh, rest⟩
  · cases hg
  · cases hg; exact ⟨cur, hh⟩
theorem own_keepP {w w' : World} {B m size : Nat} {e : TypeId} {v : Value} {xs : List Value} (h : w.ownsRow B e size v m xs) (hk : ∀ g, v.ownBlock = some g → w'.heap[g]? = w.heap[g]?) : w'.ownsRow B e size v m xs := by
  refine ⟨h.1, ?_⟩
  rcases h.2 with hn | ⟨g, cap, cur, rfl, hB, hg, rest⟩
  · exact .inl hn
  · exact .inr ⟨g, cap, cur, rfl, hB, (hk g rfl).trans hg, rest⟩
/-- a row stays where a row of another element type has grown -/
theorem own_otherP {w w' : World} {B B' m m' size size' : Nat} {e e' : TypeId} {v v' : Value} {xs xs' : List Value} (hg : w.grownBy w' v.ownBlock) (h : w.ownsRow B e size v m xs) (h' : w.ownsRow B' e' size' v' m' xs') (hne : e ≠ e') : w'.ownsRow B' e' size' v' m' xs' :=
  own_keepP h' fun g hgx => by
    obtain ⟨cur, hc⟩ := own_typeP h' hgx
    refine hg.block g (Array.getElem?_eq_some_iff.1 hc).1 fun e0 => ?_
    obtain ⟨cur', hc'⟩ := own_typeP h e0.symm
    rw [hc] at hc'
    injection hc' with hc'
    injection hc' with _ ht _
    exact hne ht.symm
theorem OwnPv.below {w w' : World} {B : Nat} {v : Value} {rs : Pvs} (h : OwnPv w B v rs) (hb : Below w.heap.size w w') : OwnPv w' B v rs :=
  ⟨own_belowN h.own hb, fun r hr => own_belowN (h.rows r hr) hb⟩
theorem grown_below {w w' : World} (h : Below w.heap.size w w') (r : Option Nat) : w.grownBy w' r := ⟨h.os, h.tape, h.output, h.size, fun k hk _ => h.block k hk⟩

def partsL (l : List Chg) : List (List UInt8) := numForm l.length :: l.flatMap fun c => [textForm c.k.data.toList, numForm (goneN c.g), textForm c.v.data.toList]
theorem flat_parts (l : List Chg) : flat (partsL l) = packL l := by
  unfold partsL packL
  rw [flat]
  congr 1
  induction l with
  | nil => rfl
  | cons c l ih => simp [flat, bodyL, chgForm, ih]
end Go.Proofs.Ytfmjjjfeooaeeaa

/- Rows of rows of bytes that the call owns, each row with its bytes. No condition. -/
import Derived.Test.YtaljojjpgkmiiaaPakK
import Derived.Test.YtaljojjpgkmiiaaStep
import Derived.Test.YtaljojjpgkmiiaaGrew
namespace Go.Proofs.Ytaljojjpgkmiiaa
open Go.RowKit
open Go.Lib (strCells)

/-- slice values, each with the bytes that it has -/
abbrev Pvs := List (Value × List UInt8)
def pvCells (rs : Pvs) : List Value := rs.map (·.1)
/-- a row of rows of bytes that the call owns, from block B on: the rows too -/
structure OwnPv (w : World) (B : Nat) (v : Value) (rs : Pvs) : Prop where
  own : w.ownsRow B 76 1 v rs.length (pvCells rs)
  rows : ∀ r ∈ rs, w.ownsRow B 5 1 r.1 r.2.length (byteCells r.2)
theorem pv_elem : ElemN Try.prog 76 1 24 (.slice none 0 0) := ⟨by kernel_rfl, rfl⟩
theorem own_typeP {w : World} {B m size : Nat} {e : TypeId} {v : Value} {xs : List Value} (h : w.ownsRow B e size v m xs) {g : Nat} (hg : v.ownBlock = some g) : ∃ cur : Array Value, w.heap[g]? = some (Obj.cells cur e (0, 0)) := by
  rcases h.2 with ⟨rfl, _⟩ | ⟨g', cap, cur, rfl, hB, hh, rest⟩
  · cases hg
  · cases hg; exact ⟨cur, hh⟩
theorem own_keepP {w w' : World} {B m size : Nat} {e : TypeId} {v : Value} {xs : List Value} (h : w.ownsRow B e size v m xs) (hk : ∀ g, v.ownBlock = some g → w'.heap[g]? = w.heap[g]?) : w'.ownsRow B e size v m xs := by
  refine ⟨h.1, ?_⟩
  rcases h.2 with hn | ⟨g, cap, cur, rfl, hB, hg, rest⟩
  · exact .inl hn
  · exact .inr ⟨g, cap, cur, rfl, hB, (hk g rfl).trans hg, rest⟩
/-- a row stays where a row of another element type has grown -/
theorem own_otherP {w w' : World} {B B' m m' size size' : Nat} {e e' : TypeId} {v v' : Value} {xs xs' : List Value} (hg : w.grownBy w' v.ownBlock) (h : w.ownsRow B e size v m xs) (h' : w.ownsRow B' e' size' v' m' xs') (hne : e ≠ e') : w'.ownsRow B' e' size' v' m' xs' :=
  own_keepP h' fun g hgx => by
    obtain ⟨cur, hc⟩ := own_typeP h' hgx
    refine hg.block g (Array.getElem?_eq_some_iff.1 hc).1 fun e0 => ?_
    obtain ⟨cur', hc'⟩ := own_typeP h e0.symm
    rw [hc] at hc'
    injection hc' with hc'
    injection hc' with _ ht _
    exact hne ht.symm
theorem OwnPv.below {w w' : World} {B : Nat} {v : Value} {rs : Pvs} (h : OwnPv w B v rs) (hb : Below w.heap.size w w') : OwnPv w' B v rs :=
  ⟨own_belowN h.own hb, fun r hr => own_belowN (h.rows r hr) hb⟩
theorem grown_bel {w w' : World} (h : Below w.heap.size w w') (r : Option Nat) : w.grownBy w' r := ⟨h.os, h.tape, h.output, h.size, fun k hk _ => h.block k hk⟩
theorem below_thn {B : Nat} {w w1 w2 : World} (h : Below B w w1) (k : Below w1.heap.size w1 w2) (hB : B ≤ w1.heap.size) : Below B w w2 := h.trans (k.mono hB)
theorem OwnPv.snoc {w w' : World} {B : Nat} {v v' : Value} {rs qs : Pvs} (h : OwnPv w B v rs) (hq : ∀ q ∈ qs, w.ownsRow B 5 1 q.1 q.2.length (byteCells q.2)) (h' : w'.ownsRow B 76 1 v' (rs.length + qs.length) (pvCells rs ++ pvCells qs)) (hg : w.grownBy w' v.ownBlock) : OwnPv w' B v' (rs ++ qs) := by
  refine ⟨by rw [List.length_append]; unfold pvCells at h' ⊢; rw [List.map_append]; exact h', fun r hr => ?_⟩
  rcases List.mem_append.1 hr with hr | hr
  · exact own_otherP hg h.own (h.rows r hr) (by decide)
  · exact own_otherP hg h.own (hq r hr) (by decide)
end Go.Proofs.Ytaljojjpgkmiiaa

/- Words for memory that holds rows of values (structs of three cells). -/
import Derived.Test.YtdfhnjocpfjagaaElems
import Derived.Test.YtdfhnjocpfjagaaSpecTuple
import Derived.Lib.Hide
namespace Go.Proofs.Ytdfhnjocpfjagaa
open Go.RowKit

def vcells (v : TVal) : List Value := [.int .i64 v.k, .int .i64 v.n, .string v.s]
def valCells : List TVal → List Value
  | [] => []
  | v :: l => vcells v ++ valCells l
/-- a value as an argument or an answer -/
def vagg (v : TVal) : Value := .agg #[.int .i64 v.k, .int .i64 v.n, .string v.s]

theorem valCells_len (l : List TVal) : (valCells l).length = l.length * 3 := by
  induction l with
  | nil => rfl
  | cons v l ih => simp only [valCells, vcells, List.length_append, List.length_cons, List.length_nil, ih]; omega
theorem valCells_app (a b : List TVal) : valCells (a ++ b) = valCells a ++ valCells b := by
  induction a with
  | nil => rfl
  | cons v l ih => simp [valCells, ih]
theorem valCells_one (l : List TVal) : ∀ u ∈ valCells l, u.oneCell' = true := by
  induction l with
  | nil => intro u hu; simp [valCells] at hu
  | cons v l ih =>
    intro u hu
    simp only [valCells, vcells, List.mem_append, List.mem_cons, List.not_mem_nil, or_false] at hu
    rcases hu with (rfl | rfl | rfl) | h
    · rfl
    · rfl
    · rfl
    · exact ih u h
theorem valCells_at : ∀ (l : List TVal) (i : Nat) (v : TVal), l[i]? = some v → (valCells l)[i * 3]? = some (.int .i64 v.k) ∧ (valCells l)[i * 3 + 1]? = some (.int .i64 v.n) ∧ (valCells l)[i * 3 + 2]? = some (.string v.s)
  | [], i, v, h => by simp at h
  | w :: l, 0, v, h => by
    simp at h
    subst h
    exact ⟨rfl, rfl, rfl⟩
  | w :: l, i + 1, v, h => by
    have ih := valCells_at l i v (by simpa using h)
    rw [show (i + 1) * 3 = i * 3 + 1 + 1 + 1 from by omega]
    simpa [valCells, vcells] using ih

/-- The slice value with address A and length n holds the values l. -/
def HasVals (w : World) (B : Nat) (A : Option Addr) (n : Nat) (l : List TVal) : Prop := l.length = n ∧ Has w B A (n * 3) (valCells l)
section
variable {w w' : World} {B B' n : Nat} {A : Option Addr} {l : List TVal}
theorem HasVals.nil (w : World) (B : Nat) (A : Option Addr) : HasVals w B A 0 [] := ⟨rfl, Has.nil _ _ _⟩
theorem addr_step (a : Addr) (p j : Nat) (hj : 0 < j) : a.add (p + j) = ⟨(a.add p).block, (a.add p).off + j, none⟩ := by
  rw [← addr_add]
  generalize a.add p = b
  unfold Addr.add
  rw [if_neg (by omega)]
/-- element i, its cells spelled as the walk spells them -/
theorem HasVals.at_ (h : HasVals w B A n l) {i : Nat} (hi : i < n) : ∃ a v, A = some a ∧ a.block < B ∧ l[i]? = some v ∧ w.cell? (a.add (i * 3)) = some (.int .i64 v.k) ∧
    w.cell? ⟨(a.add (i * 3)).block, (a.add (i * 3)).off + 1, none⟩ = some (.int .i64 v.n) ∧ w.cell? ⟨(a.add (i * 3)).block, (a.add (i * 3)).off + 2, none⟩ = some (.string v.s) := by
  obtain ⟨hl, hh⟩ := h
  have hil : i < l.length := by omega
  obtain ⟨c0, c1, c2⟩ := valCells_at l i l[i] (List.getElem?_eq_getElem hil)
  obtain ⟨a, rfl, hb, hc⟩ := hh.all (by omega)
  refine ⟨a, _, rfl, hb, List.getElem?_eq_getElem hil, hc _ _ c0, ?_, ?_⟩
  · rw [← addr_step a _ 1 (by omega)]
    exact hc _ _ c1
  · rw [← addr_step a _ 2 (by omega)]
    exact hc _ _ c2
theorem HasVals.more (h : HasVals w B A n l) (hB : B ≤ B') : HasVals w B' A n l := ⟨h.1, h.2.more hB⟩
theorem HasVals.below (h : HasVals w B A n l) (hb : Below B w w') : HasVals w' B A n l := ⟨h.1, h.2.below hb⟩
theorem HasVals.belowOf (h : HasVals w B A n l) {C : Nat} (hb : Below C w w') (hC : B ≤ C) : HasVals w' B A n l := ⟨h.1, h.2.belowOf hb hC⟩
theorem HasVals.alloc (h : HasVals w B A n l) (hB : B ≤ w.heap.size) (o : Obj) : HasVals (w.alloc o) B A n l := ⟨h.1, h.2.alloc hB o⟩
theorem HasVals.keep (h : HasVals w B A n l) (hk : ∀ p : Addr, p.block < B → w'.cell? p = w.cell? p) : HasVals w' B A n l := ⟨h.1, h.2.keep hk⟩
end

theorem val_elem : ElemN Try.prog 47 3 32 (.agg #[.int .i64 0, .int .i64 0, .string ⟨#[]⟩]) := ⟨by kernel_rfl, rfl⟩

end Go.Proofs.Ytdfhnjocpfjagaa

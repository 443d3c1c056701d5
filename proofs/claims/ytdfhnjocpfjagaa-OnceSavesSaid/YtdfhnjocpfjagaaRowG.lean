/- Rows of things of so many cells each, whatever they are. No condition. -/
import Derived.Test.YtdfhnjocpfjagaaElems
import Derived.Test.YtdfhnjocpfjagaaOwn
import Derived.Test.YtdfhnjocpfjagaaVals
namespace Go.Proofs.Ytdfhnjocpfjagaa
open Go.RowKit

section
variable {α : Type} (f : α → List Value)
def gCells : List α → List Value
  | [] => []
  | p :: l => f p ++ gCells l
/-- so many cells each, and each of one -/
structure CellsOf (s : Nat) : Prop where
  len : ∀ a, (f a).length = s
  one : ∀ a, ∀ u ∈ f a, u.oneCell' = true
variable {f} {s : Nat}
theorem gCells_len (h : CellsOf f s) (l : List α) : (gCells f l).length = l.length * s := by
  induction l with
  | nil => simp [gCells]
  | cons v l ih => simp only [gCells, List.length_append, List.length_cons, ih, h.len, Nat.succ_mul]; omega
theorem gCells_app (a b : List α) : gCells f (a ++ b) = gCells f a ++ gCells f b := by
  induction a with
  | nil => rfl
  | cons v l ih => simp [gCells, ih]
theorem gCells_one (h : CellsOf f s) (l : List α) : ∀ u ∈ gCells f l, u.oneCell' = true := by
  induction l with
  | nil => intro u hu; simp [gCells] at hu
  | cons v l ih =>
    intro u hu
    rcases List.mem_append.1 hu with hu | hu
    · exact h.one v u hu
    · exact ih u hu
theorem gCells_at (h : CellsOf f s) : ∀ (l : List α) (i j : Nat) (p : α), l[i]? = some p → j < s → (gCells f l)[i * s + j]? = (f p)[j]?
  | [], i, j, v, hi, _ => by simp at hi
  | w :: l, 0, j, v, hi, hj => by
    simp at hi
    subst hi
    rw [Nat.zero_mul, Nat.zero_add, gCells, List.getElem?_append_left (by rw [h.len]; exact hj)]
  | w :: l, i + 1, j, v, hi, hj => by
    have ih := gCells_at h l i j v (by simpa using hi) hj
    have e : (i + 1) * s + j = (f w).length + (i * s + j) := by rw [h.len, Nat.succ_mul]; omega
    rw [gCells, e, List.getElem?_append_right (by omega), Nat.add_sub_cancel_left]
    exact ih
theorem gCells_drop (h : CellsOf f s) : ∀ (l : List α) (k : Nat), (gCells f l).drop (k * s) = gCells f (l.drop k)
  | [], k => by simp [gCells]
  | c :: l, 0 => by simp
  | c :: l, k + 1 => by
    rw [show (k + 1) * s = s + k * s from by rw [Nat.succ_mul]; omega, ← List.drop_drop, gCells, List.drop_left' (h.len c), List.drop_succ_cons]
    exact gCells_drop h l k
/-- The slice value with address A and length n holds the things l. -/
def HasG (f : α → List Value) (s : Nat) (w : World) (B : Nat) (A : Option Addr) (n : Nat) (l : List α) : Prop := l.length = n ∧ Has w B A (n * s) (gCells f l)
variable {w w' : World} {B B' n : Nat} {A : Option Addr} {l : List α}
theorem HasG.at_ (hc : CellsOf f s) (hs : 0 < s) (h : HasG f s w B A n l) {i : Nat} (hi : i < n) : ∃ a v, A = some a ∧ a.block < B ∧ l[i]? = some v ∧ (∀ u, (f v)[0]? = some u → w.cell? (a.add (i * s)) = some u) ∧
    ∀ j u, 0 < j → (f v)[j]? = some u → w.cell? ⟨(a.add (i * s)).block, (a.add (i * s)).off + j, none⟩ = some u := by
  obtain ⟨hl, hh⟩ := h
  have hil : i < l.length := by omega
  have hat := fun j hj => gCells_at hc l i j l[i] (List.getElem?_eq_getElem hil) hj
  obtain ⟨a, rfl, hb, hg⟩ := hh.all (Nat.mul_pos (by omega) hs)
  refine ⟨a, _, rfl, hb, List.getElem?_eq_getElem hil, fun u hu => ?_, fun j u hj hu => ?_⟩
  · exact hg (i * s) u (by have := hat 0 hs; rw [Nat.add_zero] at this; rw [this]; exact hu)
  · have hjs : j < s := by have := (List.getElem?_eq_some_iff.1 hu).1; rwa [hc.len] at this
    rw [← addr_step a _ j hj]
    exact hg (i * s + j) u ((hat j hjs).trans hu)
theorem HasG.nil (w : World) (B : Nat) (A : Option Addr) : HasG f s w B A 0 [] := ⟨rfl, by rw [Nat.zero_mul]; exact Has.nil _ _ _⟩
theorem HasG.belowOf (h : HasG f s w B A n l) {C : Nat} (hb : Below C w w') (hC : B ≤ C) : HasG f s w' B A n l := ⟨h.1, h.2.belowOf hb hC⟩
theorem HasG.more (h : HasG f s w B A n l) (hB : B ≤ B') : HasG f s w B' A n l := ⟨h.1, h.2.more hB⟩
theorem HasG.keep (h : HasG f s w B A n l) (hk : ∀ p : Addr, p.block < B → w'.cell? p = w.cell? p) : HasG f s w' B A n l := ⟨h.1, h.2.keep hk⟩
/-- a row of things that the call owns -/
def OwnG (f : α → List Value) (s : Nat) (t : TypeId) (w : World) (B : Nat) (v : Value) (l : List α) : Prop := w.ownsRow B t s v l.length (gCells f l)
variable {t : TypeId} {v : Value}
theorem OwnG.slice (h : OwnG f s t w B v l) : ∃ A c, v = .slice A l.length c ∧ l.length ≤ c ∧ c ≤ maxLen ∧ HasG f s w w.heap.size A l.length l := by
  obtain ⟨A, c, e, h1, h2, h3⟩ := own_sliceN h
  exact ⟨A, c, e, h1, h2, rfl, h3⟩
theorem OwnG.nil (w : World) (B : Nat) : OwnG f s t w B (.slice none 0 0) [] := World.ownsRow_nil _ _ _ _
theorem OwnG.below (h : OwnG f s t w B v l) (hb : Below w.heap.size w w') : OwnG f s t w' B v l := own_belowN h hb
theorem OwnG.base (h : OwnG f s t w B v l) (hB : B' ≤ B) : OwnG f s t w B' v l := own_baseN h hB
end
end Go.Proofs.Ytdfhnjocpfjagaa

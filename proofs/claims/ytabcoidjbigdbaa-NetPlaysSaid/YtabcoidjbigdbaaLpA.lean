/- Words for memory that holds rows of pairs (structs of two texts). No condition. -/
import Derived.Test.YtabcoidjbigdbaaWords
import Derived.Test.YtabcoidjbigdbaaSpecLet
import Derived.Test.YtabcoidjbigdbaaGrew
import Derived.Test.YtabcoidjbigdbaaStep
import Derived.Test.YtabcoidjbigdbaaBoxM
namespace Go.Proofs.Ytabcoidjbigdbaa
open Go.RowKit

def lpCells : List LPr → List Value
  | [] => []
  | r :: l => .string r.k :: .string r.v :: lpCells l
/-- a pair as an argument or an answer -/
def lpagg (r : LPr) : Value := .agg #[.string r.k, .string r.v]
theorem lpCells_len (l : List LPr) : (lpCells l).length = l.length * 2 := by
  induction l with
  | nil => rfl
  | cons v l ih => simp only [lpCells, List.length_cons, ih]; omega
theorem lpCells_app (a b : List LPr) : lpCells (a ++ b) = lpCells a ++ lpCells b := by
  induction a with
  | nil => rfl
  | cons v l ih => simp [lpCells, ih]
theorem lpCells_one (l : List LPr) : ∀ u ∈ lpCells l, u.oneCell' = true := by
  induction l with
  | nil => intro u hu; simp [lpCells] at hu
  | cons v l ih =>
    intro u hu
    simp only [lpCells, List.mem_cons] at hu
    rcases hu with rfl | rfl | h
    · rfl
    · rfl
    · exact ih u h
theorem lpCells_at : ∀ (l : List LPr) (i : Nat) (p : LPr), l[i]? = some p → (lpCells l)[i * 2]? = some (.string p.k) ∧ (lpCells l)[i * 2 + 1]? = some (.string p.v)
  | [], i, v, h => by simp at h
  | w :: l, 0, v, h => by
    simp at h
    subst h
    exact ⟨rfl, rfl⟩
  | w :: l, i + 1, v, h => by
    have ih := lpCells_at l i v (by simpa using h)
    rw [show (i + 1) * 2 = i * 2 + 1 + 1 from by omega]
    simpa [lpCells] using ih
theorem lpCells_drop : ∀ (l : List LPr) (k : Nat), (lpCells l).drop (k * 2) = lpCells (l.drop k)
  | [], k => by simp [lpCells]
  | c :: l, 0 => by simp
  | c :: l, k + 1 => by
    rw [show (k + 1) * 2 = k * 2 + 1 + 1 from by omega]
    simpa [lpCells] using lpCells_drop l k
theorem lpCells_take : ∀ (l : List LPr) (k : Nat), (lpCells l).take (k * 2) = lpCells (l.take k)
  | [], k => by simp [lpCells]
  | c :: l, 0 => by simp [lpCells]
  | c :: l, k + 1 => by
    rw [show (k + 1) * 2 = k * 2 + 1 + 1 from by omega]
    simpa [lpCells] using lpCells_take l k
theorem lp_step (a : Addr) (p j : Nat) (hj : 0 < j) : a.add (p + j) = ⟨(a.add p).block, (a.add p).off + j, none⟩ := by
  rw [← addr_add]
  generalize a.add p = b
  unfold Addr.add
  rw [if_neg (by omega)]
/-- The slice value with address A and length n holds the pairs l. -/
def HasLps (w : World) (B : Nat) (A : Option Addr) (n : Nat) (l : List LPr) : Prop := l.length = n ∧ Has w B A (n * 2) (lpCells l)
section
variable {w w' : World} {B B' n : Nat} {A : Option Addr} {l : List LPr}
theorem HasLps.nil (w : World) (B : Nat) (A : Option Addr) : HasLps w B A 0 [] := ⟨rfl, Has.nil _ _ _⟩
/-- element i, its cells spelled as the walk spells them -/
theorem HasLps.at_ (h : HasLps w B A n l) {i : Nat} (hi : i < n) : ∃ a v, A = some a ∧ a.block < B ∧ l[i]? = some v ∧ w.cell? (a.add (i * 2)) = some (.string v.k) ∧
    w.cell? ⟨(a.add (i * 2)).block, (a.add (i * 2)).off + 1, none⟩ = some (.string v.v) := by
  obtain ⟨hl, hh⟩ := h
  have hil : i < l.length := by omega
  obtain ⟨c0, c1⟩ := lpCells_at l i l[i] (List.getElem?_eq_getElem hil)
  obtain ⟨a, rfl, hb, hc⟩ := hh.all (by omega)
  refine ⟨a, _, rfl, hb, List.getElem?_eq_getElem hil, hc _ _ c0, ?_⟩
  rw [← lp_step a _ 1 (by omega)]
  exact hc _ _ c1
theorem HasLps.more (h : HasLps w B A n l) (hB : B ≤ B') : HasLps w B' A n l := ⟨h.1, h.2.more hB⟩
theorem HasLps.below (h : HasLps w B A n l) (hb : Below B w w') : HasLps w' B A n l := ⟨h.1, h.2.below hb⟩
theorem HasLps.belowOf (h : HasLps w B A n l) {C : Nat} (hb : Below C w w') (hC : B ≤ C) : HasLps w' B A n l := ⟨h.1, h.2.belowOf hb hC⟩
theorem HasLps.alloc (h : HasLps w B A n l) (hB : B ≤ w.heap.size) (o : Obj) : HasLps (w.alloc o) B A n l := ⟨h.1, h.2.alloc hB o⟩
theorem HasLps.keep (h : HasLps w B A n l) (hk : ∀ p : Addr, p.block < B → w'.cell? p = w.cell? p) : HasLps w' B A n l := ⟨h.1, h.2.keep hk⟩
theorem HasLps.none_ (h : HasLps w B none n l) : l = [] ∧ n = 0 := by
  rcases Nat.eq_zero_or_pos n with h0 | h0
  · exact ⟨List.eq_nil_of_length_eq_zero (by rw [h.1, h0]), h0⟩
  · obtain ⟨a, e, -⟩ := h.2.all (by omega); cases e
end

theorem lp_elem : ElemN Try.prog 38 2 32 (.agg #[.string ⟨#[]⟩, .string ⟨#[]⟩]) := ⟨by kernel_rfl, rfl⟩

/-- a row of pairs that the call owns -/
def OwnLps (w : World) (B : Nat) (v : Value) (l : List LPr) : Prop := w.ownsRow B 38 2 v l.length (lpCells l)
theorem OwnLps.slice {w : World} {B : Nat} {v : Value} {l : List LPr} (h : OwnLps w B v l) : ∃ A c, v = .slice A l.length c ∧ l.length ≤ c ∧ c ≤ maxLen ∧ HasLps w w.heap.size A l.length l := by
  obtain ⟨A, c, e, h1, h2, h3⟩ := own_sliceN h
  exact ⟨A, c, e, h1, h2, rfl, h3⟩
theorem OwnLps.nil (w : World) (B : Nat) : OwnLps w B (.slice none 0 0) [] := World.ownsRow_nil _ _ _ _
theorem OwnLps.below {w w' : World} {B : Nat} {v : Value} {l : List LPr} (h : OwnLps w B v l) (hb : Below w.heap.size w w') : OwnLps w' B v l := own_belowN h hb
/-- What is handed back is a row of the call's own, from block B on, that holds the pairs l; below B nothing has turned. -/
def GivesLp (B : Nat) (l : List LPr) (w : World) (e : Ending) (w' : World) : Prop := ∃ v', e = .returned v' ∧ OwnLps w' B v' l ∧ Below B w w'
theorem lp_lit (w : World) (c : LPr) : Has (w.alloc (.cells #[.string c.k, .string c.v] 38)) (w.heap.size + 1) (some ⟨w.heap.size, 0, none⟩) (1 * 2) (lpCells [c]) :=
  Has.lit w #[.string c.k, .string c.v] 38

end Go.Proofs.Ytabcoidjbigdbaa

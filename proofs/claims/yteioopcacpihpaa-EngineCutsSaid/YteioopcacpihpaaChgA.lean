/- Words for memory that holds rows of changes (structs of two texts and a bool). -/
import Derived.Test.YteioopcacpihpaaWords
import Derived.Test.YteioopcacpihpaaSpecRun
import Derived.Test.YteioopcacpihpaaGrew
import Derived.Test.YteioopcacpihpaaStep
import Derived.Test.YteioopcacpihpaaBoxM
import Derived.Test.YteioopcacpihpaaCmpS
namespace Go.Proofs.Yteioopcacpihpaa
open Go.RowKit

def ccells (c : Chg) : List Value := [.string c.k, .string c.v, .bool c.g]
def chgCells : List Chg → List Value
  | [] => []
  | c :: l => ccells c ++ chgCells l
/-- a change as an argument or an answer -/
def cagg (c : Chg) : Value := .agg #[.string c.k, .string c.v, .bool c.g]

theorem chgCells_len (l : List Chg) : (chgCells l).length = l.length * 3 := by
  induction l with
  | nil => rfl
  | cons v l ih => simp only [chgCells, ccells, List.length_append, List.length_cons, List.length_nil, ih]; omega
theorem chgCells_app (a b : List Chg) : chgCells (a ++ b) = chgCells a ++ chgCells b := by
  induction a with
  | nil => rfl
  | cons v l ih => simp [chgCells, ih]
theorem chgCells_one (l : List Chg) : ∀ u ∈ chgCells l, u.oneCell' = true := by
  induction l with
  | nil => intro u hu; simp [chgCells] at hu
  | cons v l ih =>
    intro u hu
    simp only [chgCells, ccells, List.mem_append, List.mem_cons, List.not_mem_nil, or_false] at hu
    rcases hu with (rfl | rfl | rfl) | h
    · rfl
    · rfl
    · rfl
    · exact ih u h
theorem chgCells_at : ∀ (l : List Chg) (i : Nat) (v : Chg), l[i]? = some v → (chgCells l)[i * 3]? = some (.string v.k) ∧ (chgCells l)[i * 3 + 1]? = some (.string v.v) ∧ (chgCells l)[i * 3 + 2]? = some (.bool v.g)
  | [], i, v, h => by simp at h
  | w :: l, 0, v, h => by
    simp at h
    subst h
    exact ⟨rfl, rfl, rfl⟩
  | w :: l, i + 1, v, h => by
    have ih := chgCells_at l i v (by simpa using h)
    rw [show (i + 1) * 3 = i * 3 + 1 + 1 + 1 from by omega]
    simpa [chgCells, ccells] using ih
theorem chgCells_drop : ∀ (l : List Chg) (k : Nat), (chgCells l).drop (k * 3) = chgCells (l.drop k)
  | [], k => by simp [chgCells]
  | c :: l, 0 => by simp
  | c :: l, k + 1 => by
    rw [show (k + 1) * 3 = k * 3 + 1 + 1 + 1 from by omega]
    simpa [chgCells, ccells] using chgCells_drop l k
theorem chgCells_take : ∀ (l : List Chg) (k : Nat), (chgCells l).take (k * 3) = chgCells (l.take k)
  | [], k => by simp [chgCells]
  | c :: l, 0 => by simp [chgCells]
  | c :: l, k + 1 => by
    rw [show (k + 1) * 3 = k * 3 + 1 + 1 + 1 from by omega]
    simpa [chgCells, ccells] using chgCells_take l k

theorem chg_step (a : Addr) (p j : Nat) (hj : 0 < j) : a.add (p + j) = ⟨(a.add p).block, (a.add p).off + j, none⟩ := by
  rw [← addr_add]
  generalize a.add p = b
  unfold Addr.add
  rw [if_neg (by omega)]
/-- The slice value with address A and length n holds the changes l. -/
def HasChs (w : World) (B : Nat) (A : Option Addr) (n : Nat) (l : List Chg) : Prop := l.length = n ∧ Has w B A (n * 3) (chgCells l)
section
variable {w w' : World} {B B' n : Nat} {A : Option Addr} {l : List Chg}
theorem HasChs.nil (w : World) (B : Nat) (A : Option Addr) : HasChs w B A 0 [] := ⟨rfl, Has.nil _ _ _⟩
/-- element i, its cells spelled as the walk spells them -/
theorem HasChs.at_ (h : HasChs w B A n l) {i : Nat} (hi : i < n) : ∃ a v, A = some a ∧ a.block < B ∧ l[i]? = some v ∧ w.cell? (a.add (i * 3)) = some (.string v.k) ∧
    w.cell? ⟨(a.add (i * 3)).block, (a.add (i * 3)).off + 1, none⟩ = some (.string v.v) ∧ w.cell? ⟨(a.add (i * 3)).block, (a.add (i * 3)).off + 2, none⟩ = some (.bool v.g) := by
  obtain ⟨hl, hh⟩ := h
  have hil : i < l.length := by omega
  obtain ⟨c0, c1, c2⟩ := chgCells_at l i l[i] (List.getElem?_eq_getElem hil)
  obtain ⟨a, rfl, hb, hc⟩ := hh.all (by omega)
  refine ⟨a, _, rfl, hb, List.getElem?_eq_getElem hil, hc _ _ c0, ?_, ?_⟩
  · rw [← chg_step a _ 1 (by omega)]
    exact hc _ _ c1
  · rw [← chg_step a _ 2 (by omega)]
    exact hc _ _ c2
theorem HasChs.more (h : HasChs w B A n l) (hB : B ≤ B') : HasChs w B' A n l := ⟨h.1, h.2.more hB⟩
theorem HasChs.below (h : HasChs w B A n l) (hb : Below B w w') : HasChs w' B A n l := ⟨h.1, h.2.below hb⟩
theorem HasChs.belowOf (h : HasChs w B A n l) {C : Nat} (hb : Below C w w') (hC : B ≤ C) : HasChs w' B A n l := ⟨h.1, h.2.belowOf hb hC⟩
theorem HasChs.alloc (h : HasChs w B A n l) (hB : B ≤ w.heap.size) (o : Obj) : HasChs (w.alloc o) B A n l := ⟨h.1, h.2.alloc hB o⟩
theorem HasChs.keep (h : HasChs w B A n l) (hk : ∀ p : Addr, p.block < B → w'.cell? p = w.cell? p) : HasChs w' B A n l := ⟨h.1, h.2.keep hk⟩
theorem HasChs.head (h : HasChs w B A n l) {k : Nat} (hk : k ≤ n) : HasChs w B A k (l.take k) := by
  refine ⟨by rw [List.length_take, h.1]; omega, ?_⟩
  rw [← chgCells_take]
  exact h.2.take (by omega)
/-- l[k:], where k is below the capacity -/
theorem HasChs.part (h : HasChs w B A n l) {k : Nat} (hk : k ≤ n) : HasChs w B (A.map (·.add (k * 3))) (n - k) (l.drop k) := by
  refine ⟨by rw [List.length_drop, h.1], ?_⟩
  rw [← chgCells_drop, show (n - k) * 3 = n * 3 - k * 3 from by omega]
  rcases Nat.lt_or_ge k n with hlt | hge
  · exact h.2.drop (by omega)
  · rw [show n * 3 - k * 3 = 0 from by omega, List.drop_eq_nil_of_le (by rw [h.2.1]; omega)]
    exact Has.nil _ _ _
end

theorem chg_elem : ElemN Try.prog 38 3 40 (.agg #[.string ⟨#[]⟩, .string ⟨#[]⟩, .bool false]) := ⟨by kernel_rfl, rfl⟩

/-- a row of changes that the call owns -/
def OwnChs (w : World) (B : Nat) (v : Value) (l : List Chg) : Prop := w.ownsRow B 38 3 v l.length (chgCells l)
theorem OwnChs.slice {w : World} {B : Nat} {v : Value} {l : List Chg} (h : OwnChs w B v l) : ∃ A c, v = .slice A l.length c ∧ l.length ≤ c ∧ c ≤ maxLen ∧ HasChs w w.heap.size A l.length l := by
  obtain ⟨A, c, e, h1, h2, h3⟩ := own_sliceN h
  exact ⟨A, c, e, h1, h2, rfl, h3⟩
theorem OwnChs.nil (w : World) (B : Nat) : OwnChs w B (.slice none 0 0) [] := World.ownsRow_nil _ _ _ _
theorem OwnChs.below {w w' : World} {B : Nat} {v : Value} {l : List Chg} (h : OwnChs w B v l) (hb : Below w.heap.size w w') : OwnChs w' B v l := own_belowN h hb
/-- What is handed back is a row of the call's own, from block B on, that holds the changes l; below B nothing has turned. -/
def GivesC (B : Nat) (l : List Chg) (w : World) (e : Ending) (w' : World) : Prop := ∃ v', e = .returned v' ∧ OwnChs w' B v' l ∧ Below B w w'
theorem chg_lit (w : World) (c : Chg) : Has (w.alloc (.cells #[.string c.k, .string c.v, .bool c.g] 38)) (w.heap.size + 1) (some ⟨w.heap.size, 0, none⟩) (1 * 3) (chgCells [c]) :=
  Has.lit w #[.string c.k, .string c.v, .bool c.g] 38

end Go.Proofs.Yteioopcacpihpaa

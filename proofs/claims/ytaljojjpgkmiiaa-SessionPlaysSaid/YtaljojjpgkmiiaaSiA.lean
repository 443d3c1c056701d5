/- Words for memory that holds rows of numbered texts. No condition. -/
import Derived.Test.YtaljojjpgkmiiaaWords
import Derived.Test.YtaljojjpgkmiiaaSpecSes
import Derived.Test.YtaljojjpgkmiiaaGrew
import Derived.Test.YtaljojjpgkmiiaaStep
import Derived.Test.YtaljojjpgkmiiaaBoxM
namespace Go.Proofs.Ytaljojjpgkmiiaa
open Go.RowKit

def siCells : List SIt → List Value
  | [] => []
  | r :: l => .int .i64 r.n :: .string r.b :: siCells l
/-- a pair as an argument or an answer -/
def siagg (r : SIt) : Value := .agg #[.int .i64 r.n, .string r.b]
theorem siCells_len (l : List SIt) : (siCells l).length = l.length * 2 := by
  induction l with
  | nil => rfl
  | cons v l ih => simp only [siCells, List.length_cons, ih]; omega
theorem siCells_app (a b : List SIt) : siCells (a ++ b) = siCells a ++ siCells b := by
  induction a with
  | nil => rfl
  | cons v l ih => simp [siCells, ih]
theorem siCells_one (l : List SIt) : ∀ u ∈ siCells l, u.oneCell' = true := by
  induction l with
  | nil => intro u hu; simp [siCells] at hu
  | cons v l ih =>
    intro u hu
    simp only [siCells, List.mem_cons] at hu
    rcases hu with rfl | rfl | h
    · rfl
    · rfl
    · exact ih u h
theorem siCells_at : ∀ (l : List SIt) (i : Nat) (p : SIt), l[i]? = some p → (siCells l)[i * 2]? = some (.int .i64 p.n) ∧ (siCells l)[i * 2 + 1]? = some (.string p.b)
  | [], i, v, h => by simp at h
  | w :: l, 0, v, h => by
    simp at h
    subst h
    exact ⟨rfl, rfl⟩
  | w :: l, i + 1, v, h => by
    have ih := siCells_at l i v (by simpa using h)
    rw [show (i + 1) * 2 = i * 2 + 1 + 1 from by omega]
    simpa [siCells] using ih
theorem siCells_drop : ∀ (l : List SIt) (k : Nat), (siCells l).drop (k * 2) = siCells (l.drop k)
  | [], k => by simp [siCells]
  | c :: l, 0 => by simp
  | c :: l, k + 1 => by
    rw [show (k + 1) * 2 = k * 2 + 1 + 1 from by omega]
    simpa [siCells] using siCells_drop l k
theorem siCells_take : ∀ (l : List SIt) (k : Nat), (siCells l).take (k * 2) = siCells (l.take k)
  | [], k => by simp [siCells]
  | c :: l, 0 => by simp [siCells]
  | c :: l, k + 1 => by
    rw [show (k + 1) * 2 = k * 2 + 1 + 1 from by omega]
    simpa [siCells] using siCells_take l k
theorem si_step (a : Addr) (p j : Nat) (hj : 0 < j) : a.add (p + j) = ⟨(a.add p).block, (a.add p).off + j, none⟩ := by
  rw [← addr_add]
  generalize a.add p = b
  unfold Addr.add
  rw [if_neg (by omega)]
/-- The slice value with address A and length n holds the numbered texts l. -/
def HasSis (w : World) (B : Nat) (A : Option Addr) (n : Nat) (l : List SIt) : Prop := l.length = n ∧ Has w B A (n * 2) (siCells l)
section
variable {w w' : World} {B B' n : Nat} {A : Option Addr} {l : List SIt}
theorem HasSis.nil (w : World) (B : Nat) (A : Option Addr) : HasSis w B A 0 [] := ⟨rfl, Has.nil _ _ _⟩
/-- element i, its cells spelled as the walk spells them -/
theorem HasSis.at_ (h : HasSis w B A n l) {i : Nat} (hi : i < n) : ∃ a v, A = some a ∧ a.block < B ∧ l[i]? = some v ∧ w.cell? (a.add (i * 2)) = some (.int .i64 v.n) ∧
    w.cell? ⟨(a.add (i * 2)).block, (a.add (i * 2)).off + 1, none⟩ = some (.string v.b) := by
  obtain ⟨hl, hh⟩ := h
  have hil : i < l.length := by omega
  obtain ⟨c0, c1⟩ := siCells_at l i l[i] (List.getElem?_eq_getElem hil)
  obtain ⟨a, rfl, hb, hc⟩ := hh.all (by omega)
  refine ⟨a, _, rfl, hb, List.getElem?_eq_getElem hil, hc _ _ c0, ?_⟩
  rw [← si_step a _ 1 (by omega)]
  exact hc _ _ c1
theorem HasSis.more (h : HasSis w B A n l) (hB : B ≤ B') : HasSis w B' A n l := ⟨h.1, h.2.more hB⟩
theorem HasSis.below (h : HasSis w B A n l) (hb : Below B w w') : HasSis w' B A n l := ⟨h.1, h.2.below hb⟩
theorem HasSis.belowOf (h : HasSis w B A n l) {C : Nat} (hb : Below C w w') (hC : B ≤ C) : HasSis w' B A n l := ⟨h.1, h.2.belowOf hb hC⟩
theorem HasSis.alloc (h : HasSis w B A n l) (hB : B ≤ w.heap.size) (o : Obj) : HasSis (w.alloc o) B A n l := ⟨h.1, h.2.alloc hB o⟩
theorem HasSis.keep (h : HasSis w B A n l) (hk : ∀ p : Addr, p.block < B → w'.cell? p = w.cell? p) : HasSis w' B A n l := ⟨h.1, h.2.keep hk⟩
theorem HasSis.none_ (h : HasSis w B none n l) : l = [] ∧ n = 0 := by
  rcases Nat.eq_zero_or_pos n with h0 | h0
  · exact ⟨List.eq_nil_of_length_eq_zero (by rw [h.1, h0]), h0⟩
  · obtain ⟨a, e, -⟩ := h.2.all (by omega); cases e
end

theorem si_elem : ElemN Try.prog 105 2 24 (.agg #[.int .i64 0, .string ⟨#[]⟩]) := ⟨by kernel_rfl, rfl⟩

/-- a row of numbered texts that the call owns -/
def OwnSis (w : World) (B : Nat) (v : Value) (l : List SIt) : Prop := w.ownsRow B 105 2 v l.length (siCells l)
theorem OwnSis.slice {w : World} {B : Nat} {v : Value} {l : List SIt} (h : OwnSis w B v l) : ∃ A c, v = .slice A l.length c ∧ l.length ≤ c ∧ c ≤ maxLen ∧ HasSis w w.heap.size A l.length l := by
  obtain ⟨A, c, e, h1, h2, h3⟩ := own_sliceN h
  exact ⟨A, c, e, h1, h2, rfl, h3⟩
theorem OwnSis.nil (w : World) (B : Nat) : OwnSis w B (.slice none 0 0) [] := World.ownsRow_nil _ _ _ _
theorem OwnSis.below {w w' : World} {B : Nat} {v : Value} {l : List SIt} (h : OwnSis w B v l) (hb : Below w.heap.size w w') : OwnSis w' B v l := own_belowN h hb
/-- What is handed back is a row of the call's own, from block B on, that holds the numbered texts l; below B nothing has turned. -/
def GivesSi (B : Nat) (l : List SIt) (w : World) (e : Ending) (w' : World) : Prop := ∃ v', e = .returned v' ∧ OwnSis w' B v' l ∧ Below B w w'
theorem si_lit (w : World) (c : SIt) : Has (w.alloc (.cells #[.int .i64 c.n, .string c.b] 105)) (w.heap.size + 1) (some ⟨w.heap.size, 0, none⟩) (1 * 2) (siCells [c]) :=
  Has.lit w #[.int .i64 c.n, .string c.b] 105

end Go.Proofs.Ytaljojjpgkmiiaa

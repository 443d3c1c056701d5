/- Words for memory that holds rows of parts (structs of a text and a number). No condition. -/
import Derived.Test.YtefagaiaflddaaaWords
import Derived.Test.YtefagaiaflddaaaSpecAtl
import Derived.Test.YtefagaiaflddaaaGrew
import Derived.Test.YtefagaiaflddaaaStep
import Derived.Test.YtefagaiaflddaaaBoxM
namespace Go.Proofs.Ytefagaiaflddaaa
open Go.RowKit

def ptCells : List Pt → List Value
  | [] => []
  | r :: l => .string r.lo :: .int .i64 r.n :: ptCells l
/-- a part as an argument or an answer -/
def pagg (r : Pt) : Value := .agg #[.string r.lo, .int .i64 r.n]
theorem ptCells_len (l : List Pt) : (ptCells l).length = l.length * 2 := by
  induction l with
  | nil => rfl
  | cons v l ih => simp only [ptCells, List.length_cons, ih]; omega
theorem ptCells_app (a b : List Pt) : ptCells (a ++ b) = ptCells a ++ ptCells b := by
  induction a with
  | nil => rfl
  | cons v l ih => simp [ptCells, ih]
theorem ptCells_one (l : List Pt) : ∀ u ∈ ptCells l, u.oneCell' = true := by
  induction l with
  | nil => intro u hu; simp [ptCells] at hu
  | cons v l ih =>
    intro u hu
    simp only [ptCells, List.mem_cons] at hu
    rcases hu with rfl | rfl | h
    · rfl
    · rfl
    · exact ih u h
theorem ptCells_at : ∀ (l : List Pt) (i : Nat) (p : Pt), l[i]? = some p → (ptCells l)[i * 2]? = some (.string p.lo) ∧ (ptCells l)[i * 2 + 1]? = some (.int .i64 p.n)
  | [], i, v, h => by simp at h
  | w :: l, 0, v, h => by
    simp at h
    subst h
    exact ⟨rfl, rfl⟩
  | w :: l, i + 1, v, h => by
    have ih := ptCells_at l i v (by simpa using h)
    rw [show (i + 1) * 2 = i * 2 + 1 + 1 from by omega]
    simpa [ptCells] using ih
theorem ptCells_drop : ∀ (l : List Pt) (k : Nat), (ptCells l).drop (k * 2) = ptCells (l.drop k)
  | [], k => by simp [ptCells]
  | c :: l, 0 => by simp
  | c :: l, k + 1 => by
    rw [show (k + 1) * 2 = k * 2 + 1 + 1 from by omega]
    simpa [ptCells] using ptCells_drop l k
theorem ptCells_take : ∀ (l : List Pt) (k : Nat), (ptCells l).take (k * 2) = ptCells (l.take k)
  | [], k => by simp [ptCells]
  | c :: l, 0 => by simp [ptCells]
  | c :: l, k + 1 => by
    rw [show (k + 1) * 2 = k * 2 + 1 + 1 from by omega]
    simpa [ptCells] using ptCells_take l k
theorem pt_step (a : Addr) (p j : Nat) (hj : 0 < j) : a.add (p + j) = ⟨(a.add p).block, (a.add p).off + j, none⟩ := by
  rw [← addr_add]
  generalize a.add p = b
  unfold Addr.add
  rw [if_neg (by omega)]
/-- The slice value with address A and length n holds the parts l. -/
def HasPts (w : World) (B : Nat) (A : Option Addr) (n : Nat) (l : List Pt) : Prop := l.length = n ∧ Has w B A (n * 2) (ptCells l)
section
variable {w w' : World} {B B' n : Nat} {A : Option Addr} {l : List Pt}
theorem HasPts.nil (w : World) (B : Nat) (A : Option Addr) : HasPts w B A 0 [] := ⟨rfl, Has.nil _ _ _⟩
/-- element i, its cells spelled as the walk spells them -/
theorem HasPts.at_ (h : HasPts w B A n l) {i : Nat} (hi : i < n) : ∃ a v, A = some a ∧ a.block < B ∧ l[i]? = some v ∧ w.cell? (a.add (i * 2)) = some (.string v.lo) ∧
    w.cell? ⟨(a.add (i * 2)).block, (a.add (i * 2)).off + 1, none⟩ = some (.int .i64 v.n) := by
  obtain ⟨hl, hh⟩ := h
  have hil : i < l.length := by omega
  obtain ⟨c0, c1⟩ := ptCells_at l i l[i] (List.getElem?_eq_getElem hil)
  obtain ⟨a, rfl, hb, hc⟩ := hh.all (by omega)
  refine ⟨a, _, rfl, hb, List.getElem?_eq_getElem hil, hc _ _ c0, ?_⟩
  rw [← pt_step a _ 1 (by omega)]
  exact hc _ _ c1
theorem HasPts.more (h : HasPts w B A n l) (hB : B ≤ B') : HasPts w B' A n l := ⟨h.1, h.2.more hB⟩
theorem HasPts.below (h : HasPts w B A n l) (hb : Below B w w') : HasPts w' B A n l := ⟨h.1, h.2.below hb⟩
theorem HasPts.belowOf (h : HasPts w B A n l) {C : Nat} (hb : Below C w w') (hC : B ≤ C) : HasPts w' B A n l := ⟨h.1, h.2.belowOf hb hC⟩
theorem HasPts.alloc (h : HasPts w B A n l) (hB : B ≤ w.heap.size) (o : Obj) : HasPts (w.alloc o) B A n l := ⟨h.1, h.2.alloc hB o⟩
theorem HasPts.keep (h : HasPts w B A n l) (hk : ∀ p : Addr, p.block < B → w'.cell? p = w.cell? p) : HasPts w' B A n l := ⟨h.1, h.2.keep hk⟩
theorem HasPts.none_ (h : HasPts w B none n l) : l = [] ∧ n = 0 := by
  rcases Nat.eq_zero_or_pos n with h0 | h0
  · exact ⟨List.eq_nil_of_length_eq_zero (by rw [h.1, h0]), h0⟩
  · obtain ⟨a, e, -⟩ := h.2.all (by omega); cases e
end

theorem pt_elem : ElemN Try.prog 46 2 24 (.agg #[.string ⟨#[]⟩, .int .i64 0]) := ⟨by kernel_rfl, rfl⟩

/-- a row of parts that the call owns -/
def OwnPts (w : World) (B : Nat) (v : Value) (l : List Pt) : Prop := w.ownsRow B 46 2 v l.length (ptCells l)
theorem OwnPts.slice {w : World} {B : Nat} {v : Value} {l : List Pt} (h : OwnPts w B v l) : ∃ A c, v = .slice A l.length c ∧ l.length ≤ c ∧ c ≤ maxLen ∧ HasPts w w.heap.size A l.length l := by
  obtain ⟨A, c, e, h1, h2, h3⟩ := own_sliceN h
  exact ⟨A, c, e, h1, h2, rfl, h3⟩
theorem OwnPts.nil (w : World) (B : Nat) : OwnPts w B (.slice none 0 0) [] := World.ownsRow_nil _ _ _ _
theorem OwnPts.below {w w' : World} {B : Nat} {v : Value} {l : List Pt} (h : OwnPts w B v l) (hb : Below w.heap.size w w') : OwnPts w' B v l := own_belowN h hb
/-- What is handed back is a row of the call's own, from block B on, that holds the parts l; below B nothing has turned. -/
def GivesPt (B : Nat) (l : List Pt) (w : World) (e : Ending) (w' : World) : Prop := ∃ v', e = .returned v' ∧ OwnPts w' B v' l ∧ Below B w w'
theorem pt_lit (w : World) (c : Pt) : Has (w.alloc (.cells #[.string c.lo, .int .i64 c.n] 46)) (w.heap.size + 1) (some ⟨w.heap.size, 0, none⟩) (1 * 2) (ptCells [c]) :=
  Has.lit w #[.string c.lo, .int .i64 c.n] 46

/-- a box of two cells that the call has laid, in a later world -/
theorem box2_below {w w0 : World} {x y : Value} {t : TypeId} (h : Below (w.alloc (.cells #[x, y] t)).heap.size (w.alloc (.cells #[x, y] t)) w0) :
    w0.cell? ⟨w.heap.size, 0, none⟩ = some x ∧ w0.cell? ⟨w.heap.size, 1, none⟩ = some y ∧ w0.frozen? ⟨w.heap.size, 0, none⟩ = false ∧ w0.frozen? ⟨w.heap.size, 1, none⟩ = false := by
  have hb := (Box.made w t #[x, y]).below h (by simp)
  exact ⟨hb.cell 0, hb.cell 1, hb.frozen 0, hb.frozen 1⟩

/-! ### stores into a row of one's own -/
theorem grownR_trans {w w1 w2 : World} {g : Option Nat} (h : w.grownBy w1 g) (k : w1.grownBy w2 g) : w.grownBy w2 g :=
  ⟨k.os.trans h.os, k.tape.trans h.tape, k.output.trans h.output, Nat.le_trans h.size k.size, fun i hi hne => (k.block i (Nat.lt_of_lt_of_le hi h.size) hne).trans (h.block i hi hne)⟩

/-- how two texts stand, as the walk asks it -/
theorem text_less (a b : ByteArray) : Op.bytesLess a.toList b.toList = decide (a.data.toList < b.data.toList) := by
  rw [ByteArray.toList_eq, ByteArray.toList_eq, bytesLess_lt]
theorem text_eq (a b : ByteArray) : (a.toList == b.toList) = decide (a = b) := by
  rw [eq_toList]
  exact decide_eq_decide.2 ⟨fun h => bytes_ext h, fun h => by rw [h]⟩
theorem text_nil {a : ByteArray} (h : a ≠ ⟨#[]⟩) : a.toList.isEmpty = false := by
  rw [ByteArray.toList_eq]
  cases e : a.data.toList with
  | nil => exact absurd (bytes_ext (b := ⟨#[]⟩) e) h
  | cons c l => rfl
theorem text_ne {a : ByteArray} (h : a ≠ ⟨#[]⟩) : a.data.toList ≠ [] := fun e => h (bytes_ext (b := ⟨#[]⟩) e)

end Go.Proofs.Ytefagaiaflddaaa

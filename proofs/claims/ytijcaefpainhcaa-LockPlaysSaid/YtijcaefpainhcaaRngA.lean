/- Words for memory that holds rows of ranges (structs of two texts). No condition. -/
import Derived.Test.YtijcaefpainhcaaWords
import Derived.Test.YtijcaefpainhcaaSpecSpan
import Derived.Test.YtijcaefpainhcaaGrew
import Derived.Test.YtijcaefpainhcaaStep
import Derived.Test.YtijcaefpainhcaaBoxM
namespace Go.Proofs.Ytijcaefpainhcaa
open Go.RowKit

def rgCells : List Rg → List Value
  | [] => []
  | r :: l => .string r.lo :: .string r.hi :: rgCells l
/-- a range as an argument or an answer -/
def ragg (r : Rg) : Value := .agg #[.string r.lo, .string r.hi]
theorem rgCells_len (l : List Rg) : (rgCells l).length = l.length * 2 := by
  induction l with
  | nil => rfl
  | cons v l ih => simp only [rgCells, List.length_cons, ih]; omega
theorem rgCells_app (a b : List Rg) : rgCells (a ++ b) = rgCells a ++ rgCells b := by
  induction a with
  | nil => rfl
  | cons v l ih => simp [rgCells, ih]
theorem rgCells_one (l : List Rg) : ∀ u ∈ rgCells l, u.oneCell' = true := by
  induction l with
  | nil => intro u hu; simp [rgCells] at hu
  | cons v l ih =>
    intro u hu
    simp only [rgCells, List.mem_cons] at hu
    rcases hu with rfl | rfl | h
    · rfl
    · rfl
    · exact ih u h
theorem rgCells_at : ∀ (l : List Rg) (i : Nat) (p : Rg), l[i]? = some p → (rgCells l)[i * 2]? = some (.string p.lo) ∧ (rgCells l)[i * 2 + 1]? = some (.string p.hi)
  | [], i, v, h => by simp at h
  | w :: l, 0, v, h => by
    simp at h
    subst h
    exact ⟨rfl, rfl⟩
  | w :: l, i + 1, v, h => by
    have ih := rgCells_at l i v (by simpa using h)
    rw [show (i + 1) * 2 = i * 2 + 1 + 1 from by omega]
    simpa [rgCells] using ih
theorem rgCells_drop : ∀ (l : List Rg) (k : Nat), (rgCells l).drop (k * 2) = rgCells (l.drop k)
  | [], k => by simp [rgCells]
  | c :: l, 0 => by simp
  | c :: l, k + 1 => by
    rw [show (k + 1) * 2 = k * 2 + 1 + 1 from by omega]
    simpa [rgCells] using rgCells_drop l k
theorem rgCells_take : ∀ (l : List Rg) (k : Nat), (rgCells l).take (k * 2) = rgCells (l.take k)
  | [], k => by simp [rgCells]
  | c :: l, 0 => by simp [rgCells]
  | c :: l, k + 1 => by
    rw [show (k + 1) * 2 = k * 2 + 1 + 1 from by omega]
    simpa [rgCells] using rgCells_take l k
theorem rg_step (a : Addr) (p j : Nat) (hj : 0 < j) : a.add (p + j) = ⟨(a.add p).block, (a.add p).off + j, none⟩ := by
  rw [← addr_add]
  generalize a.add p = b
  unfold Addr.add
  rw [if_neg (by omega)]
/-- The slice value with address A and length n holds the ranges l. -/
def HasRgs (w : World) (B : Nat) (A : Option Addr) (n : Nat) (l : List Rg) : Prop := l.length = n ∧ Has w B A (n * 2) (rgCells l)
section
variable {w w' : World} {B B' n : Nat} {A : Option Addr} {l : List Rg}
theorem HasRgs.nil (w : World) (B : Nat) (A : Option Addr) : HasRgs w B A 0 [] := ⟨rfl, Has.nil _ _ _⟩
/-- element i, its cells spelled as the walk spells them -/
theorem HasRgs.at_ (h : HasRgs w B A n l) {i : Nat} (hi : i < n) : ∃ a v, A = some a ∧ a.block < B ∧ l[i]? = some v ∧ w.cell? (a.add (i * 2)) = some (.string v.lo) ∧
    w.cell? ⟨(a.add (i * 2)).block, (a.add (i * 2)).off + 1, none⟩ = some (.string v.hi) := by
  obtain ⟨hl, hh⟩ := h
  have hil : i < l.length := by omega
  obtain ⟨c0, c1⟩ := rgCells_at l i l[i] (List.getElem?_eq_getElem hil)
  obtain ⟨a, rfl, hb, hc⟩ := hh.all (by omega)
  refine ⟨a, _, rfl, hb, List.getElem?_eq_getElem hil, hc _ _ c0, ?_⟩
  rw [← rg_step a _ 1 (by omega)]
  exact hc _ _ c1
theorem HasRgs.more (h : HasRgs w B A n l) (hB : B ≤ B') : HasRgs w B' A n l := ⟨h.1, h.2.more hB⟩
theorem HasRgs.below (h : HasRgs w B A n l) (hb : Below B w w') : HasRgs w' B A n l := ⟨h.1, h.2.below hb⟩
theorem HasRgs.belowOf (h : HasRgs w B A n l) {C : Nat} (hb : Below C w w') (hC : B ≤ C) : HasRgs w' B A n l := ⟨h.1, h.2.belowOf hb hC⟩
theorem HasRgs.alloc (h : HasRgs w B A n l) (hB : B ≤ w.heap.size) (o : Obj) : HasRgs (w.alloc o) B A n l := ⟨h.1, h.2.alloc hB o⟩
theorem HasRgs.keep (h : HasRgs w B A n l) (hk : ∀ p : Addr, p.block < B → w'.cell? p = w.cell? p) : HasRgs w' B A n l := ⟨h.1, h.2.keep hk⟩
theorem HasRgs.none_ (h : HasRgs w B none n l) : l = [] ∧ n = 0 := by
  rcases Nat.eq_zero_or_pos n with h0 | h0
  · exact ⟨List.eq_nil_of_length_eq_zero (by rw [h.1, h0]), h0⟩
  · obtain ⟨a, e, -⟩ := h.2.all (by omega); cases e
end

theorem rg_elem : ElemN Try.prog 23 2 32 (.agg #[.string ⟨#[]⟩, .string ⟨#[]⟩]) := ⟨by kernel_rfl, rfl⟩

/-- a row of ranges that the call owns -/
def OwnRgs (w : World) (B : Nat) (v : Value) (l : List Rg) : Prop := w.ownsRow B 23 2 v l.length (rgCells l)
theorem OwnRgs.slice {w : World} {B : Nat} {v : Value} {l : List Rg} (h : OwnRgs w B v l) : ∃ A c, v = .slice A l.length c ∧ l.length ≤ c ∧ c ≤ maxLen ∧ HasRgs w w.heap.size A l.length l := by
  obtain ⟨A, c, e, h1, h2, h3⟩ := own_sliceN h
  exact ⟨A, c, e, h1, h2, rfl, h3⟩
theorem OwnRgs.nil (w : World) (B : Nat) : OwnRgs w B (.slice none 0 0) [] := World.ownsRow_nil _ _ _ _
theorem OwnRgs.below {w w' : World} {B : Nat} {v : Value} {l : List Rg} (h : OwnRgs w B v l) (hb : Below w.heap.size w w') : OwnRgs w' B v l := own_belowN h hb
/-- What is handed back is a row of the call's own, from block B on, that holds the ranges l; below B nothing has turned. -/
def GivesR (B : Nat) (l : List Rg) (w : World) (e : Ending) (w' : World) : Prop := ∃ v', e = .returned v' ∧ OwnRgs w' B v' l ∧ Below B w w'
theorem rg_lit (w : World) (c : Rg) : Has (w.alloc (.cells #[.string c.lo, .string c.hi] 23)) (w.heap.size + 1) (some ⟨w.heap.size, 0, none⟩) (1 * 2) (rgCells [c]) :=
  Has.lit w #[.string c.lo, .string c.hi] 23

/-- a box of two cells that the call has laid, in a later world -/
theorem box2_below {w w0 : World} {x y : Value} {t : TypeId} (h : Below (w.alloc (.cells #[x, y] t)).heap.size (w.alloc (.cells #[x, y] t)) w0) :
    w0.cell? ⟨w.heap.size, 0, none⟩ = some x ∧ w0.cell? ⟨w.heap.size, 1, none⟩ = some y ∧ w0.frozen? ⟨w.heap.size, 0, none⟩ = false ∧ w0.frozen? ⟨w.heap.size, 1, none⟩ = false := by
  have hb := (Box.made w t #[x, y]).below h (by simp)
  exact ⟨hb.cell 0, hb.cell 1, hb.frozen 0, hb.frozen 1⟩

/-! ### stores into a row of one's own -/
theorem grownR_trans {w w1 w2 : World} {g : Option Nat} (h : w.grownBy w1 g) (k : w1.grownBy w2 g) : w.grownBy w2 g :=
  ⟨k.os.trans h.os, k.tape.trans h.tape, k.output.trans h.output, Nat.le_trans h.size k.size, fun i hi hne => (k.block i (Nat.lt_of_lt_of_le hi h.size) hne).trans (h.block i hi hne)⟩

/-- how two texts stand, as the walk asks it -/
theorem text_less (a b : ByteArray) : Op.bytesLess a.toList b.toList = decide (a.data.toList < b.data.toList) := by
  rw [ByteArray.toList_eq, ByteArray.toList_eq, bytesLess_lt]
theorem text_eq (a b : ByteArray) : (a.toList == b.toList) = decide (a = b) := by
  rw [eq_toList]
  exact decide_eq_decide.2 ⟨fun h => bytes_ext h, fun h => by rw [h]⟩
theorem text_nil {a : ByteArray} (h : a ≠ ⟨#[]⟩) : a.toList.isEmpty = false := by
  rw [ByteArray.toList_eq]
  cases e : a.data.toList with
  | nil => exact absurd (bytes_ext (b := ⟨#[]⟩) e) h
  | cons c l => rfl
theorem text_ne {a : ByteArray} (h : a ≠ ⟨#[]⟩) : a.data.toList ≠ [] := fun e => h (bytes_ext (b := ⟨#[]⟩) e)

end Go.Proofs.Ytijcaefpainhcaa

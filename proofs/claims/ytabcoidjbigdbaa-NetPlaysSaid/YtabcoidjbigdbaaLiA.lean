/- Words for memory that holds rows of intents (structs of a text, a number and a bool). -/
import Derived.Test.YtabcoidjbigdbaaWords
import Derived.Test.YtabcoidjbigdbaaSpecLet
import Derived.Test.YtabcoidjbigdbaaGrew
import Derived.Test.YtabcoidjbigdbaaStep
import Derived.Test.YtabcoidjbigdbaaBoxM
namespace Go.Proofs.Ytabcoidjbigdbaa
open Go.RowKit

def licells (c : LIt) : List Value := [.string c.e, .int .i64 c.v, .bool c.g]
def liCells : List LIt → List Value
  | [] => []
  | c :: l => licells c ++ liCells l
/-- an intent as an argument or an answer -/
def liagg (c : LIt) : Value := .agg #[.string c.e, .int .i64 c.v, .bool c.g]

theorem liCells_len (l : List LIt) : (liCells l).length = l.length * 3 := by
  induction l with
  | nil => rfl
  | cons v l ih => simp only [liCells, licells, List.length_append, List.length_cons, List.length_nil, ih]; omega
theorem liCells_app (a b : List LIt) : liCells (a ++ b) = liCells a ++ liCells b := by
  induction a with
  | nil => rfl
  | cons v l ih => simp [liCells, ih]
theorem liCells_one (l : List LIt) : ∀ u ∈ liCells l, u.oneCell' = true := by
  induction l with
  | nil => intro u hu; simp [liCells] at hu
  | cons v l ih =>
    intro u hu
    simp only [liCells, licells, List.mem_append, List.mem_cons, List.not_mem_nil, or_false] at hu
    rcases hu with (rfl | rfl | rfl) | h
    · rfl
    · rfl
    · rfl
    · exact ih u h
theorem liCells_at : ∀ (l : List LIt) (i : Nat) (v : LIt), l[i]? = some v → (liCells l)[i * 3]? = some (.string v.e) ∧ (liCells l)[i * 3 + 1]? = some (.int .i64 v.v) ∧ (liCells l)[i * 3 + 2]? = some (.bool v.g)
  | [], i, v, h => by simp at h
  | w :: l, 0, v, h => by
    simp at h
    subst h
    exact ⟨rfl, rfl, rfl⟩
  | w :: l, i + 1, v, h => by
    have ih := liCells_at l i v (by simpa using h)
    rw [show (i + 1) * 3 = i * 3 + 1 + 1 + 1 from by omega]
    simpa [liCells, licells] using ih
theorem liCells_drop : ∀ (l : List LIt) (k : Nat), (liCells l).drop (k * 3) = liCells (l.drop k)
  | [], k => by simp [liCells]
  | c :: l, 0 => by simp
  | c :: l, k + 1 => by
    rw [show (k + 1) * 3 = k * 3 + 1 + 1 + 1 from by omega]
    simpa [liCells, licells] using liCells_drop l k
theorem liCells_take : ∀ (l : List LIt) (k : Nat), (liCells l).take (k * 3) = liCells (l.take k)
  | [], k => by simp [liCells]
  | c :: l, 0 => by simp [liCells]
  | c :: l, k + 1 => by
    rw [show (k + 1) * 3 = k * 3 + 1 + 1 + 1 from by omega]
    simpa [liCells, licells] using liCells_take l k

theorem li_step (a : Addr) (p j : Nat) (hj : 0 < j) : a.add (p + j) = ⟨(a.add p).block, (a.add p).off + j, none⟩ := by
  rw [← addr_add]
  generalize a.add p = b
  unfold Addr.add
  rw [if_neg (by omega)]
/-- The slice value with address A and length n holds the intents l. -/
def HasLis (w : World) (B : Nat) (A : Option Addr) (n : Nat) (l : List LIt) : Prop := l.length = n ∧ Has w B A (n * 3) (liCells l)
section
variable {w w' : World} {B B' n : Nat} {A : Option Addr} {l : List LIt}
theorem HasLis.nil (w : World) (B : Nat) (A : Option Addr) : HasLis w B A 0 [] := ⟨rfl, Has.nil _ _ _⟩
/-- element i, its cells spelled as the walk spells them -/
theorem HasLis.at_ (h : HasLis w B A n l) {i : Nat} (hi : i < n) : ∃ a v, A = some a ∧ a.block < B ∧ l[i]? = some v ∧ w.cell? (a.add (i * 3)) = some (.string v.e) ∧
    w.cell? ⟨(a.add (i * 3)).block, (a.add (i * 3)).off + 1, none⟩ = some (.int .i64 v.v) ∧ w.cell? ⟨(a.add (i * 3)).block, (a.add (i * 3)).off + 2, none⟩ = some (.bool v.g) := by
  obtain ⟨hl, hh⟩ := h
  have hil : i < l.length := by omega
  obtain ⟨c0, c1, c2⟩ := liCells_at l i l[i] (List.getElem?_eq_getElem hil)
  obtain ⟨a, rfl, hb, hc⟩ := hh.all (by omega)
  refine ⟨a, _, rfl, hb, List.getElem?_eq_getElem hil, hc _ _ c0, ?_, ?_⟩
  · rw [← li_step a _ 1 (by omega)]
    exact hc _ _ c1
  · rw [← li_step a _ 2 (by omega)]
    exact hc _ _ c2
theorem HasLis.more (h : HasLis w B A n l) (hB : B ≤ B') : HasLis w B' A n l := ⟨h.1, h.2.more hB⟩
theorem HasLis.below (h : HasLis w B A n l) (hb : Below B w w') : HasLis w' B A n l := ⟨h.1, h.2.below hb⟩
theorem HasLis.belowOf (h : HasLis w B A n l) {C : Nat} (hb : Below C w w') (hC : B ≤ C) : HasLis w' B A n l := ⟨h.1, h.2.belowOf hb hC⟩
theorem HasLis.alloc (h : HasLis w B A n l) (hB : B ≤ w.heap.size) (o : Obj) : HasLis (w.alloc o) B A n l := ⟨h.1, h.2.alloc hB o⟩
theorem HasLis.keep (h : HasLis w B A n l) (hk : ∀ p : Addr, p.block < B → w'.cell? p = w.cell? p) : HasLis w' B A n l := ⟨h.1, h.2.keep hk⟩
theorem HasLis.head (h : HasLis w B A n l) {k : Nat} (hk : k ≤ n) : HasLis w B A k (l.take k) := by
  refine ⟨by rw [List.length_take, h.1]; omega, ?_⟩
  rw [← liCells_take]
  exact h.2.take (by omega)
/-- l[k:], where k is below the capacity -/
theorem HasLis.part (h : HasLis w B A n l) {k : Nat} (hk : k ≤ n) : HasLis w B (A.map (·.add (k * 3))) (n - k) (l.drop k) := by
  refine ⟨by rw [List.length_drop, h.1], ?_⟩
  rw [← liCells_drop, show (n - k) * 3 = n * 3 - k * 3 from by omega]
  rcases Nat.lt_or_ge k n with hlt | hge
  · exact h.2.drop (by omega)
  · rw [show n * 3 - k * 3 = 0 from by omega, List.drop_eq_nil_of_le (by rw [h.2.1]; omega)]
    exact Has.nil _ _ _
end

theorem li_elem : ElemN Try.prog 40 3 32 (.agg #[.string ⟨#[]⟩, .int .i64 0, .bool false]) := ⟨by kernel_rfl, rfl⟩

/-- a row of intents that the call owns -/
def OwnLis (w : World) (B : Nat) (v : Value) (l : List LIt) : Prop := w.ownsRow B 40 3 v l.length (liCells l)
theorem OwnLis.slice {w : World} {B : Nat} {v : Value} {l : List LIt} (h : OwnLis w B v l) : ∃ A c, v = .slice A l.length c ∧ l.length ≤ c ∧ c ≤ maxLen ∧ HasLis w w.heap.size A l.length l := by
  obtain ⟨A, c, e, h1, h2, h3⟩ := own_sliceN h
  exact ⟨A, c, e, h1, h2, rfl, h3⟩
theorem OwnLis.nil (w : World) (B : Nat) : OwnLis w B (.slice none 0 0) [] := World.ownsRow_nil _ _ _ _
theorem OwnLis.below {w w' : World} {B : Nat} {v : Value} {l : List LIt} (h : OwnLis w B v l) (hb : Below w.heap.size w w') : OwnLis w' B v l := own_belowN h hb
/-- What is handed back is a row of the call's own, from block B on, that holds the intents l; below B nothing has turned. -/
def GivesLi (B : Nat) (l : List LIt) (w : World) (e : Ending) (w' : World) : Prop := ∃ v', e = .returned v' ∧ OwnLis w' B v' l ∧ Below B w w'
theorem li_lit (w : World) (c : LIt) : Has (w.alloc (.cells #[.string c.e, .int .i64 c.v, .bool c.g] 40)) (w.heap.size + 1) (some ⟨w.heap.size, 0, none⟩) (1 * 3) (liCells [c]) :=
  Has.lit w #[.string c.e, .int .i64 c.v, .bool c.g] 40

end Go.Proofs.Ytabcoidjbigdbaa

/- Copy: a letter that is the same, in memory of its own. Condition: rows in memory, texts that fit. -/
import Derived.Test.YtaljojjpgkmiiaaMMem
import Derived.Test.YtaljojjpgkmiiaaMSpec
import Derived.Deep.RegionHeld3
import Derived.Deep.RegionWith
import Derived.Laws.EntriesVeiled
namespace Go.Proofs.Ytaljojjpgkmiiaa
open Go.RowKit

def lpCells : List LPr → List Value
  | [] => []
  | r :: l => .string r.k :: .string r.v :: lpCells l
/-- a pair as an argument or an answer -/
def lpagg (r : LPr) : Value := .agg #[.string r.k, .string r.v]
theorem lpCells_len (l : List LPr) : (lpCells l).length = l.length * 2 := by
  induction l with
  | nil => rfl
  | cons v l ih => simp only [lpCells, List.length_cons, ih]; omega
theorem lpCells_app (a b : List LPr) : lpCells (a ++ b) = lpCells a ++ lpCells b := by
  induction a with
  | nil => rfl
  | cons v l ih => simp [lpCells, ih]
theorem lpCells_one (l : List LPr) : ∀ u ∈ lpCells l, u.oneCell' = true := by
  induction l with
  | nil => intro u hu; simp [lpCells] at hu
  | cons v l ih =>
    intro u hu
    simp only [lpCells, List.mem_cons] at hu
    rcases hu with rfl | rfl | h
    · rfl
    · rfl
    · exact ih u h
theorem lpCells_at : ∀ (l : List LPr) (i : Nat) (p : LPr), l[i]? = some p → (lpCells l)[i * 2]? = some (.string p.k) ∧ (lpCells l)[i * 2 + 1]? = some (.string p.v)
  | [], i, v, h => by simp at h
  | w :: l, 0, v, h => by
    simp at h
    subst h
    exact ⟨rfl, rfl⟩
  | w :: l, i + 1, v, h => by
    have ih := lpCells_at l i v (by simpa using h)
    rw [show (i + 1) * 2 = i * 2 + 1 + 1 from by omega]
    simpa [lpCells] using ih
theorem lpCells_drop : ∀ (l : List LPr) (k : Nat), (lpCells l).drop (k * 2) = lpCells (l.drop k)
  | [], k => by simp [lpCells]
  | c :: l, 0 => by simp
  | c :: l, k + 1 => by
    rw [show (k + 1) * 2 = k * 2 + 1 + 1 from by omega]
    simpa [lpCells] using lpCells_drop l k
theorem lpCells_take : ∀ (l : List LPr) (k : Nat), (lpCells l).take (k * 2) = lpCells (l.take k)
  | [], k => by simp [lpCells]
  | c :: l, 0 => by simp [lpCells]
  | c :: l, k + 1 => by
    rw [show (k + 1) * 2 = k * 2 + 1 + 1 from by omega]
    simpa [lpCells] using lpCells_take l k
theorem lp_step (a : Addr) (p j : Nat) (hj : 0 < j) : a.add (p + j) = ⟨(a.add p).block, (a.add p).off + j, none⟩ := by
  rw [← addr_add]
  generalize a.add p = b
  unfold Addr.add
  rw [if_neg (by omega)]
/-- The slice value with address A and length n holds the pairs l. -/
def HasLps (w : World) (B : Nat) (A : Option Addr) (n : Nat) (l : List LPr) : Prop := l.length = n ∧ Has w B A (n * 2) (lpCells l)
section
variable {w w' : World} {B B' n : Nat} {A : Option Addr} {l : List LPr}
theorem HasLps.nil (w : World) (B : Nat) (A : Option Addr) : HasLps w B A 0 [] := ⟨rfl, Has.nil _ _ _⟩
/-- element i, its cells spelled as the walk spells them -/
theorem HasLps.at_ (h : HasLps w B A n l) {i : Nat} (hi : i < n) : ∃ a v, A = some a ∧ a.block < B ∧ l[i]? = some v ∧ w.cell? (a.add (i * 2)) = some (.string v.k) ∧
    w.cell? ⟨(a.add (i * 2)).block, (a.add (i * 2)).off + 1, none⟩ = some (.string v.v) := by
  obtain ⟨hl, hh⟩ := h
  have hil : i < l.length := by omega
  obtain ⟨c0, c1⟩ := lpCells_at l i l[i] (List.getElem?_eq_getElem hil)
  obtain ⟨a, rfl, hb, hc⟩ := hh.all (by omega)
  refine ⟨a, _, rfl, hb, List.getElem?_eq_getElem hil, hc _ _ c0, ?_⟩
  rw [← lp_step a _ 1 (by omega)]
  exact hc _ _ c1
theorem HasLps.more (h : HasLps w B A n l) (hB : B ≤ B') : HasLps w B' A n l := ⟨h.1, h.2.more hB⟩
theorem HasLps.below (h : HasLps w B A n l) (hb : Below B w w') : HasLps w' B A n l := ⟨h.1, h.2.below hb⟩
theorem HasLps.belowOf (h : HasLps w B A n l) {C : Nat} (hb : Below C w w') (hC : B ≤ C) : HasLps w' B A n l := ⟨h.1, h.2.belowOf hb hC⟩
theorem HasLps.alloc (h : HasLps w B A n l) (hB : B ≤ w.heap.size) (o : Obj) : HasLps (w.alloc o) B A n l := ⟨h.1, h.2.alloc hB o⟩
theorem HasLps.keep (h : HasLps w B A n l) (hk : ∀ p : Addr, p.block < B → w'.cell? p = w.cell? p) : HasLps w' B A n l := ⟨h.1, h.2.keep hk⟩
theorem HasLps.none_ (h : HasLps w B none n l) : l = [] ∧ n = 0 := by
  rcases Nat.eq_zero_or_pos n with h0 | h0
  · exact ⟨List.eq_nil_of_length_eq_zero (by rw [h.1, h0]), h0⟩
  · obtain ⟨a, e, -⟩ := h.2.all (by omega); cases e
end

theorem lp_elem : ElemN Try.prog 94 2 32 (.agg #[.string ⟨#[]⟩, .string ⟨#[]⟩]) := ⟨by kernel_rfl, rfl⟩

/-- a row of pairs that the call owns -/
def OwnLps (w : World) (B : Nat) (v : Value) (l : List LPr) : Prop := w.ownsRow B 94 2 v l.length (lpCells l)
theorem OwnLps.slice {w : World} {B : Nat} {v : Value} {l : List LPr} (h : OwnLps w B v l) : ∃ A c, v = .slice A l.length c ∧ l.length ≤ c ∧ c ≤ maxLen ∧ HasLps w w.heap.size A l.length l := by
  obtain ⟨A, c, e, h1, h2, h3⟩ := own_sliceN h
  exact ⟨A, c, e, h1, h2, rfl, h3⟩
theorem OwnLps.nil (w : World) (B : Nat) : OwnLps w B (.slice none 0 0) [] := World.ownsRow_nil _ _ _ _
theorem OwnLps.below {w w' : World} {B : Nat} {v : Value} {l : List LPr} (h : OwnLps w B v l) (hb : Below w.heap.size w w') : OwnLps w' B v l := own_belowN h hb
/-- What is handed back is a row of the call's own, from block B on, that holds the pairs l; below B nothing has turned. -/
def GivesLp (B : Nat) (l : List LPr) (w : World) (e : Ending) (w' : World) : Prop := ∃ v', e = .returned v' ∧ OwnLps w' B v' l ∧ Below B w w'
theorem lp_lit (w : World) (c : LPr) : Has (w.alloc (.cells #[.string c.k, .string c.v] 94)) (w.heap.size + 1) (some ⟨w.heap.size, 0, none⟩) (1 * 2) (lpCells [c]) :=
  Has.lit w #[.string c.k, .string c.v] 94

end Go.Proofs.Ytaljojjpgkmiiaa

namespace Go.Proofs.Ytaljojjpgkmiiaa
open Go.RowKit

def licells (c : LIt) : List Value := [.string c.e, .int .i64 c.v, .bool c.g]
def liCells : List LIt → List Value
  | [] => []
  | c :: l => licells c ++ liCells l
/-- an intent as an argument or an answer -/
def liagg (c : LIt) : Value := .agg #[.string c.e, .int .i64 c.v, .bool c.g]

theorem liCells_len (l : List LIt) : (liCells l).length = l.length * 3 := by
  induction l with
  | nil => rfl
  | cons v l ih => simp only [liCells, licells, List.length_append, List.length_cons, List.length_nil, ih]; omega
theorem liCells_app (a b : List LIt) : liCells (a ++ b) = liCells a ++ liCells b := by
  induction a with
  | nil => rfl
  | cons v l ih => simp [liCells, ih]
theorem liCells_one (l : List LIt) : ∀ u ∈ liCells l, u.oneCell' = true := by
  induction l with
  | nil => intro u hu; simp [liCells] at hu
  | cons v l ih =>
    intro u hu
    simp only [liCells, licells, List.mem_append, List.mem_cons, List.not_mem_nil, or_false] at hu
    rcases hu with (rfl | rfl | rfl) | h
    · rfl
    · rfl
    · rfl
    · exact ih u h
theorem liCells_at : ∀ (l : List LIt) (i : Nat) (v : LIt), l[i]? = some v → (liCells l)[i * 3]? = some (.string v.e) ∧ (liCells l)[i * 3 + 1]? = some (.int .i64 v.v) ∧ (liCells l)[i * 3 + 2]? = some (.bool v.g)
  | [], i, v, h => by simp at h
  | w :: l, 0, v, h => by
    simp at h
    subst h
    exact ⟨rfl, rfl, rfl⟩
  | w :: l, i + 1, v, h => by
    have ih := liCells_at l i v (by simpa using h)
    rw [show (i + 1) * 3 = i * 3 + 1 + 1 + 1 from by omega]
    simpa [liCells, licells] using ih
theorem liCells_drop : ∀ (l : List LIt) (k : Nat), (liCells l).drop (k * 3) = liCells (l.drop k)
  | [], k => by simp [liCells]
  | c :: l, 0 => by simp
  | c :: l, k + 1 => by
    rw [show (k + 1) * 3 = k * 3 + 1 + 1 + 1 from by omega]
    simpa [liCells, licells] using liCells_drop l k
theorem liCells_take : ∀ (l : List LIt) (k : Nat), (liCells l).take (k * 3) = liCells (l.take k)
  | [], k => by simp [liCells]
  | c :: l, 0 => by simp [liCells]
  | c :: l, k + 1 => by
    rw [show (k + 1) * 3 = k * 3 + 1 + 1 + 1 from by omega]
    simpa [liCells, licells] using liCells_take l k

theorem li_step (a : Addr) (p j : Nat) (hj : 0 < j) : a.add (p + j) = ⟨(a.add p).block, (a.add p).off + j, none⟩ := by
  rw [← addr_add]
  generalize a.add p = b
  unfold Addr.add
  rw [if_neg (by omega)]
/-- The slice value with address A and length n holds the intents l. -/
def HasLis (w : World) (B : Nat) (A : Option Addr) (n : Nat) (l : List LIt) : Prop := l.length = n ∧ Has w B A (n * 3) (liCells l)
section
variable {w w' : World} {B B' n : Nat} {A : Option Addr} {l : List LIt}
theorem HasLis.nil (w : World) (B : Nat) (A : Option Addr) : HasLis w B A 0 [] := ⟨rfl, Has.nil _ _ _⟩
/-- element i, its cells spelled as the walk spells them -/
theorem HasLis.at_ (h : HasLis w B A n l) {i : Nat} (hi : i < n) : ∃ a v, A = some a ∧ a.block < B ∧ l[i]? = some v ∧ w.cell? (a.add (i * 3)) = some (.string v.e) ∧
    w.cell? ⟨(a.add (i * 3)).block, (a.add (i * 3)).off + 1, none⟩ = some (.int .i64 v.v) ∧ w.cell? ⟨(a.add (i * 3)).block, (a.add (i * 3)).off + 2, none⟩ = some (.bool v.g) := by
  obtain ⟨hl, hh⟩ := h
  have hil : i < l.length := by omega
  obtain ⟨c0, c1, c2⟩ := liCells_at l i l[i] (List.getElem?_eq_getElem hil)
  obtain ⟨a, rfl, hb, hc⟩ := hh.all (by omega)
  refine ⟨a, _, rfl, hb, List.getElem?_eq_getElem hil, hc _ _ c0, ?_, ?_⟩
  · rw [← li_step a _ 1 (by omega)]
    exact hc _ _ c1
  · rw [← li_step a _ 2 (by omega)]
    exact hc _ _ c2
theorem HasLis.more (h : HasLis w B A n l) (hB : B ≤ B') : HasLis w B' A n l := ⟨h.1, h.2.more hB⟩
theorem HasLis.below (h : HasLis w B A n l) (hb : Below B w w') : HasLis w' B A n l := ⟨h.1, h.2.below hb⟩
theorem HasLis.belowOf (h : HasLis w B A n l) {C : Nat} (hb : Below C w w') (hC : B ≤ C) : HasLis w' B A n l := ⟨h.1, h.2.belowOf hb hC⟩
theorem HasLis.alloc (h : HasLis w B A n l) (hB : B ≤ w.heap.size) (o : Obj) : HasLis (w.alloc o) B A n l := ⟨h.1, h.2.alloc hB o⟩
theorem HasLis.keep (h : HasLis w B A n l) (hk : ∀ p : Addr, p.block < B → w'.cell? p = w.cell? p) : HasLis w' B A n l := ⟨h.1, h.2.keep hk⟩
theorem HasLis.head (h : HasLis w B A n l) {k : Nat} (hk : k ≤ n) : HasLis w B A k (l.take k) := by
  refine ⟨by rw [List.length_take, h.1]; omega, ?_⟩
  rw [← liCells_take]
  exact h.2.take (by omega)
/-- l[k:], where k is below the capacity -/
theorem HasLis.part (h : HasLis w B A n l) {k : Nat} (hk : k ≤ n) : HasLis w B (A.map (·.add (k * 3))) (n - k) (l.drop k) := by
  refine ⟨by rw [List.length_drop, h.1], ?_⟩
  rw [← liCells_drop, show (n - k) * 3 = n * 3 - k * 3 from by omega]
  rcases Nat.lt_or_ge k n with hlt | hge
  · exact h.2.drop (by omega)
  · rw [show n * 3 - k * 3 = 0 from by omega, List.drop_eq_nil_of_le (by rw [h.2.1]; omega)]
    exact Has.nil _ _ _
end

theorem li_elem : ElemN Try.prog 96 3 32 (.agg #[.string ⟨#[]⟩, .int .i64 0, .bool false]) := ⟨by kernel_rfl, rfl⟩

/-- a row of intents that the call owns -/
def OwnLis (w : World) (B : Nat) (v : Value) (l : List LIt) : Prop := w.ownsRow B 96 3 v l.length (liCells l)
theorem OwnLis.slice {w : World} {B : Nat} {v : Value} {l : List LIt} (h : OwnLis w B v l) : ∃ A c, v = .slice A l.length c ∧ l.length ≤ c ∧ c ≤ maxLen ∧ HasLis w w.heap.size A l.length l := by
  obtain ⟨A, c, e, h1, h2, h3⟩ := own_sliceN h
  exact ⟨A, c, e, h1, h2, rfl, h3⟩
theorem OwnLis.nil (w : World) (B : Nat) : OwnLis w B (.slice none 0 0) [] := World.ownsRow_nil _ _ _ _
theorem OwnLis.below {w w' : World} {B : Nat} {v : Value} {l : List LIt} (h : OwnLis w B v l) (hb : Below w.heap.size w w') : OwnLis w' B v l := own_belowN h hb
/-- What is handed back is a row of the call's own, from block B on, that holds the intents l; below B nothing has turned. -/
def GivesLi (B : Nat) (l : List LIt) (w : World) (e : Ending) (w' : World) : Prop := ∃ v', e = .returned v' ∧ OwnLis w' B v' l ∧ Below B w w'
theorem li_lit (w : World) (c : LIt) : Has (w.alloc (.cells #[.string c.e, .int .i64 c.v, .bool c.g] 96)) (w.heap.size + 1) (some ⟨w.heap.size, 0, none⟩) (1 * 3) (liCells [c]) :=
  Has.lit w #[.string c.e, .int .i64 c.v, .bool c.g] 96

end Go.Proofs.Ytaljojjpgkmiiaa

namespace Go.Proofs.Ytaljojjpgkmiiaa
open Go.RowKit
open Go.Lib (strCells)

/-- a letter's own copy stands at a block -/
theorem let_box {w wx : World} {L : Let} {Ap : Option Addr} {np cp : Nat} {Ai : Option Addr} {ni ci : Nat} (h : Below (w.alloc (.cells #[.int .i64 L.kind, .int .i64 L.frm, .int .i64 L.to, .int .i64 L.a, .int .i64 L.b, .int .i64 L.c, .int .i64 L.d, .string L.s, .string L.t, .slice Ap np cp, .slice Ai ni ci, .int .i64 L.code, .bool L.yes, .string L.body] 69)).heap.size (w.alloc (.cells #[.int .i64 L.kind, .int .i64 L.frm, .int .i64 L.to, .int .i64 L.a, .int .i64 L.b, .int .i64 L.c, .int .i64 L.d, .string L.s, .string L.t, .slice Ap np cp, .slice Ai ni ci, .int .i64 L.code, .bool L.yes, .string L.body] 69)) wx) :
    Box wx w.heap.size 69 #[.int .i64 L.kind, .int .i64 L.frm, .int .i64 L.to, .int .i64 L.a, .int .i64 L.b, .int .i64 L.c, .int .i64 L.d, .string L.s, .string L.t, .slice Ap np cp, .slice Ai ni ci, .int .i64 L.code, .bool L.yes, .string L.body] ∧ Below w.heap.size w wx :=
  ⟨(Box.made w 69 #[.int .i64 L.kind, .int .i64 L.frm, .int .i64 L.to, .int .i64 L.a, .int .i64 L.b, .int .i64 L.c, .int .i64 L.d, .string L.s, .string L.t, .slice Ap np cp, .slice Ai ni ci, .int .i64 L.code, .bool L.yes, .string L.body]).below h (by simp), (below_box _).trans (h.mono (by simp))⟩
/-- the cells of a letter's box -/
theorem let_cells {wx : World} {g : Nat} {L : Let} {Ap : Option Addr} {np cp : Nat} {Ai : Option Addr} {ni ci : Nat} (h : Box wx g 69 #[.int .i64 L.kind, .int .i64 L.frm, .int .i64 L.to, .int .i64 L.a, .int .i64 L.b, .int .i64 L.c, .int .i64 L.d, .string L.s, .string L.t, .slice Ap np cp, .slice Ai ni ci, .int .i64 L.code, .bool L.yes, .string L.body]) :
    (wx.cell? ⟨g, 0, none⟩ = some (.int .i64 L.kind) ∧ wx.cell? ⟨g, 1, none⟩ = some (.int .i64 L.frm) ∧ wx.cell? ⟨g, 2, none⟩ = some (.int .i64 L.to) ∧ wx.cell? ⟨g, 3, none⟩ = some (.int .i64 L.a) ∧ wx.cell? ⟨g, 4, none⟩ = some (.int .i64 L.b) ∧ wx.cell? ⟨g, 5, none⟩ = some (.int .i64 L.c) ∧ wx.cell? ⟨g, 6, none⟩ = some (.int .i64 L.d)) ∧
    (wx.cell? ⟨g, 7, none⟩ = some (.string L.s) ∧ wx.cell? ⟨g, 8, none⟩ = some (.string L.t)) ∧ (wx.cell? ⟨g, 9, none⟩ = some (.slice Ap np cp) ∧ wx.cell? ⟨g, 10, none⟩ = some (.slice Ai ni ci)) ∧ (wx.cell? ⟨g, 11, none⟩ = some (.int .i64 L.code) ∧ wx.cell? ⟨g, 12, none⟩ = some (.bool L.yes) ∧ wx.cell? ⟨g, 13, none⟩ = some (.string L.body)) :=
  ⟨⟨h.cell 0, h.cell 1, h.cell 2, h.cell 3, h.cell 4, h.cell 5, h.cell 6⟩, ⟨h.cell 7, h.cell 8⟩, ⟨h.cell 9, h.cell 10⟩, ⟨h.cell 11, h.cell 12, h.cell 13⟩⟩
set_option maxRecDepth 100000 in
theorem numbers_any (L : Let) (Ap : Option Addr) (np cp : Nat) (Ai : Option Addr) (ni ci : Nat) (w : World) : Calls Try.prog 91 #[.agg #[.int .i64 L.kind, .int .i64 L.frm, .int .i64 L.to, .int .i64 L.a, .int .i64 L.b, .int .i64 L.c, .int .i64 L.d, .string L.s, .string L.t, .slice Ap np cp, .slice Ai ni ci, .int .i64 L.code, .bool L.yes, .string L.body]] w fun e w' => e = .returned (.agg #[.int .i64 L.kind, .int .i64 L.frm, .int .i64 L.to, .int .i64 L.a, .int .i64 L.b, .int .i64 L.c, .int .i64 L.d, .int .i64 L.code]) ∧ Below w.heap.size w w' := by
  go_enter Try.func91, Try.ntmps91
  go_wp2
  refine bodyPost_ret (v := .agg #[.int .i64 L.kind, .int .i64 L.frm, .int .i64 L.to, .int .i64 L.a, .int .i64 L.b, .int .i64 L.c, .int .i64 L.d, .int .i64 L.code]) ?_ rfl ⟨rfl, ((below_box _).alloc (by simp) _)⟩
  simp [results, Try.results91, go_sem]
set_option maxRecDepth 100000 in
theorem texts_any13 (L : Let) (Ap : Option Addr) (np cp : Nat) (Ai : Option Addr) (ni ci : Nat) (w : World) : Calls Try.prog 92 #[.agg #[.int .i64 L.kind, .int .i64 L.frm, .int .i64 L.to, .int .i64 L.a, .int .i64 L.b, .int .i64 L.c, .int .i64 L.d, .string L.s, .string L.t, .slice Ap np cp, .slice Ai ni ci, .int .i64 L.code, .bool L.yes, .string L.body]] w fun e w' => e = .returned (.agg #[.string L.s, .string L.t, .string L.body]) ∧ Below w.heap.size w w' := by
  go_enter Try.func92, Try.ntmps92
  go_wp2
  refine bodyPost_ret (v := .agg #[.string L.s, .string L.t, .string L.body]) ?_ rfl ⟨rfl, ((below_box _).alloc (by simp) _)⟩
  simp [results, Try.results92, go_sem]
theorem oneIf_any (b : Bool) (w : World) : Calls Try.prog 109 #[.bool b] w fun e w' => e = .returned (.int .i64 (one b)) ∧ w' = w := by
  cases b with
  | true =>
    go_enter Try.func109, Try.ntmps109
    go_wp2
    go_ret
    exact ⟨rfl, rfl⟩
  | false =>
    go_enter Try.func109, Try.ntmps109
    go_wp2
    go_ret
    exact ⟨rfl, rfl⟩
theorem beyond_any (n : Int) (w : World) : Calls Try.prog 110 #[.int .i64 n] w fun e w' => e = .returned (.bool (decide (¬ okNum n))) ∧ w' = w := by
  by_cases h1 : n < 0
  · have e : decide (¬ okNum n) = true := decide_eq_true (fun h => by have := h.1; omega)
    rw [e]
    go_enter Try.func110, Try.ntmps110
    go_wp2
    go_ret
    exact ⟨rfl, rfl⟩
  · by_cases h2 : 1099511627776 < n
    · have e : decide (¬ okNum n) = true := decide_eq_true (fun h => by have := h.2; omega)
      rw [e]
      go_enter Try.func110, Try.ntmps110
      go_wp2
      go_ret
      exact ⟨rfl, rfl⟩
    · have e : decide (¬ okNum n) = false := decide_eq_false (fun h => h ⟨by omega, by omega⟩)
      rw [e]
      have h1' : 0 ≤ n := by omega
      have h2' : n ≤ 1099511627776 := by omega
      clear h1 h2
      go_enter Try.func110, Try.ntmps110
      go_wp2
      go_ret
      exact ⟨by simp; omega, rfl⟩
end Go.Proofs.Ytaljojjpgkmiiaa

namespace Go.Proofs.Ytaljojjpgkmiiaa
open Go.RowKit
open Go.Lib (strCells)

/-- what stands in a cell, whatever it is -/
def atC (w : World) (g i : Nat) : Value := (w.cell? ⟨g, i, none⟩).getD undef
theorem Box.atC {w : World} {g : Nat} {t : TypeId} {cs : Array Value} (h : Box w g t cs) {i : Nat} (hi : i < cs.size) : w.cell? ⟨g, i, none⟩ = some (atC w g i) := by
  unfold Go.Proofs.Ytaljojjpgkmiiaa.atC
  rw [h.cell i, Array.getElem?_eq_getElem hi]
  rfl
theorem set_cells {W : World} {g i : Nat} {t : TypeId} {cs : Array Value} {u : Value} (h : Box (W.setCell ⟨g, i, none⟩ u) g t cs) : ∃ cs0, Box W g t cs0 ∧ cs = cs0.setIfInBounds i u := by
  unfold Box at h ⊢
  cases e : W.heap[g]? with
  | none => simp [World.setCell, Array.getElem?_modify, e] at h
  | some o =>
    cases o with
    | cells cs0 t0 m0 =>
      simp [World.setCell, Array.getElem?_modify, e] at h
      obtain ⟨h1, h2, h3⟩ := h
      subst h2
      subst h3
      exact ⟨cs0, rfl, h1.symm⟩
    | _ => simp [World.setCell, Array.getElem?_modify, e] at h
/-- two stores into a box of two cells: what stands there then -/
theorem set2_vals {W : World} {g : Nat} {t : TypeId} {cs : Array Value} {x y : Value} (h : Box ((W.setCell ⟨g, 0, none⟩ x).setCell ⟨g, 1, none⟩ y) g t cs) (hs : cs.size = 2) : cs = #[x, y] := by
  obtain ⟨c1, h1, e1⟩ := set_cells h
  obtain ⟨c0, h0, e0⟩ := set_cells h1
  subst e1
  subst e0
  simp at hs
  obtain ⟨l⟩ := c0
  match l, hs with
  | [a, b], _ => rfl
/-- a letter stored in a box: fourteen stores -/
theorem store14 {w W : World} {g : Nat} {t : TypeId} {y0 y1 y2 y3 y4 y5 y6 y7 y8 y9 y10 y11 y12 y13 x0 x1 x2 x3 x4 x5 x6 x7 x8 x9 x10 x11 x12 x13 : Value} (h : Box w g t #[y0, y1, y2, y3, y4, y5, y6, y7, y8, y9, y10, y11, y12, y13]) (hW : ((((((((((((((w.setCell ⟨g, 0, none⟩ (x0)).setCell ⟨g, 1, none⟩ (x1)).setCell ⟨g, 2, none⟩ (x2)).setCell ⟨g, 3, none⟩ (x3)).setCell ⟨g, 4, none⟩ (x4)).setCell ⟨g, 5, none⟩ (x5)).setCell ⟨g, 6, none⟩ (x6)).setCell ⟨g, 7, none⟩ (x7)).setCell ⟨g, 8, none⟩ (x8)).setCell ⟨g, 9, none⟩ (x9)).setCell ⟨g, 10, none⟩ (x10)).setCell ⟨g, 11, none⟩ (x11)).setCell ⟨g, 12, none⟩ (x12)).setCell ⟨g, 13, none⟩ (x13)) = W) :
    Box W g t #[x0, x1, x2, x3, x4, x5, x6, x7, x8, x9, x10, x11, x12, x13] ∧ w.grownBy W (some g) ∧ W.heap.size = w.heap.size := by
  subst hW
  have b0 : Box _ g t #[x0, y1, y2, y3, y4, y5, y6, y7, y8, y9, y10, y11, y12, y13] := h.set_ 0 x0
  have b1 : Box _ g t #[x0, x1, y2, y3, y4, y5, y6, y7, y8, y9, y10, y11, y12, y13] := b0.set_ 1 x1
  have b2 : Box _ g t #[x0, x1, x2, y3, y4, y5, y6, y7, y8, y9, y10, y11, y12, y13] := b1.set_ 2 x2
  have b3 : Box _ g t #[x0, x1, x2, x3, y4, y5, y6, y7, y8, y9, y10, y11, y12, y13] := b2.set_ 3 x3
  have b4 : Box _ g t #[x0, x1, x2, x3, x4, y5, y6, y7, y8, y9, y10, y11, y12, y13] := b3.set_ 4 x4
  have b5 : Box _ g t #[x0, x1, x2, x3, x4, x5, y6, y7, y8, y9, y10, y11, y12, y13] := b4.set_ 5 x5
  have b6 : Box _ g t #[x0, x1, x2, x3, x4, x5, x6, y7, y8, y9, y10, y11, y12, y13] := b5.set_ 6 x6
  have b7 : Box _ g t #[x0, x1, x2, x3, x4, x5, x6, x7, y8, y9, y10, y11, y12, y13] := b6.set_ 7 x7
  have b8 : Box _ g t #[x0, x1, x2, x3, x4, x5, x6, x7, x8, y9, y10, y11, y12, y13] := b7.set_ 8 x8
  have b9 : Box _ g t #[x0, x1, x2, x3, x4, x5, x6, x7, x8, x9, y10, y11, y12, y13] := b8.set_ 9 x9
  have b10 : Box _ g t #[x0, x1, x2, x3, x4, x5, x6, x7, x8, x9, x10, y11, y12, y13] := b9.set_ 10 x10
  have b11 : Box _ g t #[x0, x1, x2, x3, x4, x5, x6, x7, x8, x9, x10, x11, y12, y13] := b10.set_ 11 x11
  have b12 : Box _ g t #[x0, x1, x2, x3, x4, x5, x6, x7, x8, x9, x10, x11, x12, y13] := b11.set_ 12 x12
  have b13 : Box _ g t #[x0, x1, x2, x3, x4, x5, x6, x7, x8, x9, x10, x11, x12, x13] := b12.set_ 13 x13
  have gr : ∀ (w : World) (i : Nat) (u : Value), w.grownBy (w.setCell ⟨g, i, none⟩ u) (some g) := fun w i u =>
    ⟨rfl, rfl, rfl, by simp, fun k _ hne => Below.heap_setCell w ⟨g, i, none⟩ u k (fun e => hne (by rw [e]))⟩
  refine ⟨b13, ?_, by simp⟩
  have tr : ∀ {a b c : World}, a.grownBy b (some g) → b.grownBy c (some g) → a.grownBy c (some g) := fun h1 h2 =>
    ⟨h2.os.trans h1.os, h2.tape.trans h1.tape, h2.output.trans h1.output, Nat.le_trans h1.size h2.size, fun k hk hne => (h2.block k (Nat.lt_of_lt_of_le hk h1.size) hne).trans (h1.block k hk hne)⟩
  exact tr (tr (tr (tr (tr (tr (tr (tr (tr (tr (tr (tr (tr (gr _ 0 x0) (gr _ 1 x1)) (gr _ 2 x2)) (gr _ 3 x3)) (gr _ 4 x4)) (gr _ 5 x5)) (gr _ 6 x6)) (gr _ 7 x7)) (gr _ 8 x8)) (gr _ 9 x9)) (gr _ 10 x10)) (gr _ 11 x11)) (gr _ 12 x12)) (gr _ 13 x13)

/-- what is known while a pair is made anew -/
structure CpS (w : World) (k v : ByteArray) (wx : World) : Prop where
  box : Box wx w.heap.size 94 #[.string k, .string v]
  res : ∃ cs, cs.size = 2 ∧ Box wx (w.heap.size + 1) 94 cs
  below : Below w.heap.size w wx
def CpC (w : World) (k v : ByteArray) (wx : World) : Prop :=
  ((wx.cell? ⟨w.heap.size, 0, none⟩ = some (.string k) ∧ wx.cell? ⟨w.heap.size, 1, none⟩ = some (.string v)) ∧
    (wx.frozen? ⟨w.heap.size + 1, 0, none⟩ = false ∧ wx.frozen? ⟨w.heap.size + 1, 1, none⟩ = false) ∧
    (wx.cell? ⟨w.heap.size + 1, 0, none⟩ = some (atC wx (w.heap.size + 1) 0) ∧ wx.cell? ⟨w.heap.size + 1, 1, none⟩ = some (atC wx (w.heap.size + 1) 1))) ∧ CpS w k v wx
section
variable {w wx w' : World} {k v : ByteArray}
theorem CpS.start (w : World) (k v : ByteArray) : CpS w k v ((w.alloc (.cells #[.string k, .string v] 94)).alloc (.cells #[.string ⟨#[]⟩, .string ⟨#[]⟩] 94)).drew :=
  ⟨(Box.made _ _ _).alloc _, ⟨#[.string ⟨#[]⟩, .string ⟨#[]⟩], rfl, by have := Box.made (w.alloc (.cells #[.string k, .string v] 94)) 94 #[.string ⟨#[]⟩, .string ⟨#[]⟩]; rwa [World.size_alloc] at this⟩, ((below_box _).alloc (by simp) _).drew⟩
theorem CpS.call (h : CpS w k v wx) (hb : Below wx.heap.size wx w') : CpS w k v w' := by
  obtain ⟨cs, h1, h2⟩ := h.res
  exact ⟨h.box.below hb h.box.lt, ⟨cs, h1, h2.below hb h2.lt⟩, h.below.trans (hb.mono h.below.size)⟩
theorem CpS.set (h : CpS w k v wx) (i : Nat) (u : Value) : CpS w k v (wx.setCell ⟨w.heap.size + 1, i, none⟩ u) := by
  obtain ⟨cs, h1, h2⟩ := h.res
  exact ⟨h.box.far (by show w.heap.size ≠ w.heap.size + 1; omega) _, ⟨_, by simpa using h1, h2.set_ i u⟩, h.below.setCell (Nat.le_succ _) _⟩
theorem CpS.both (h : CpS w k v wx) : CpC w k v wx := by
  obtain ⟨cs, h1, h2⟩ := h.res
  exact ⟨⟨⟨h.box.cell 0, h.box.cell 1⟩, ⟨h2.frozen 0, h2.frozen 1⟩, ⟨h2.atC (by omega), h2.atC (by omega)⟩⟩, h⟩
end
set_option maxRecDepth 100000 in
set_option maxHeartbeats 3200000 in
theorem copyPr_any (k v : ByteArray) (w : World) (hk : k.size ≤ 140737488355328) (hv : v.size ≤ 140737488355328) :
    Calls Try.prog 96 #[.agg #[.string k, .string v]] w fun e w' => e = .returned (.agg #[.string k, .string v]) ∧ Below w.heap.size w w' := by
  have HS := Lib.hid (CpS.start w k v).both
  unfold CpC at HS
  go_enter Try.func96, Try.ntmps96
  go_wp2
  go_region_held3 (fun wx => ((wx.cell? ⟨w.heap.size, 0, none⟩ = some (.string k) ∧ wx.cell? ⟨w.heap.size, 1, none⟩ = some (.string v)) ∧
      (wx.frozen? ⟨w.heap.size + 1, 0, none⟩ = false ∧ wx.frozen? ⟨w.heap.size + 1, 1, none⟩ = false) ∧
      (wx.cell? ⟨w.heap.size + 1, 0, none⟩ = some (atC wx (w.heap.size + 1) 0) ∧ wx.cell? ⟨w.heap.size + 1, 1, none⟩ = some (atC wx (w.heap.size + 1) 1))) ∧ CpS w k v wx)
    (first | exact HS.out | exact CpS.both (CpS.call (And.right (by assumption)) hb) | exact CpS.both (CpS.set (CpS.set (And.right (by assumption)) 0 _) 1 _))
    (first | (go_at_call 61; refine (clone_any _ _ (by first | exact hk | exact hv)).mono ?_; rintro e w' ⟨rfl, hb⟩))
  all_goals
    have hS := (‹_ ∧ CpS w k v (World.setCell _ _ _)›).2
    have Hb3 := Lib.hid hS.below
    obtain ⟨cs, h1, h2⟩ := hS.res
    obtain rfl := set2_vals h2 h1
    have p0 := h2.cell 0
    have p1 := h2.cell 1
    clear hb hS h1 h2
    clear ‹_ ∧ CpS w k v (World.setCell _ _ _)›
    obtain ⟨W3, hW3⟩ : ∃ W3, (w'.setCell ⟨w.heap.size + 1, 0, none⟩ (.string k)).setCell ⟨w.heap.size + 1, 1, none⟩ (.string v) = W3 := ⟨_, rfl⟩
    rw [hW3] at p0 p1 Hb3 ⊢
    clear hW3
    simp at p0 p1
    go_wp2
    refine bodyPost_ret (v := .agg #[.string k, .string v]) ?_ rfl ⟨rfl, Hb3.out⟩
    simp [results, Try.results96, go_sem, p0, p1]
theorem copyIt_any (s : ByteArray) (n : Int) (g : Bool) (w : World) (hs : s.size ≤ 140737488355328) :
    Calls Try.prog 98 #[.agg #[.string s, .int .i64 n, .bool g]] w fun e w' => e = .returned (.agg #[.string s, .int .i64 n, .bool g]) ∧ Below w.heap.size w w' := by
  have hb0 := Box.made w 96 #[.string s, .int .i64 n, .bool g]
  obtain ⟨w0, hw0⟩ : ∃ w0, (w.alloc (.cells #[.string s, .int .i64 n, .bool g] 96)).alloc (.cells #[.string ⟨#[]⟩, .int .i64 0, .bool false] 96) = w0 := ⟨_, rfl⟩
  have h1 : Box w0 w.heap.size 96 #[.string s, .int .i64 n, .bool g] := hw0 ▸ hb0.alloc _
  have h2 : Box w0 (w.heap.size + 1) 96 #[.string ⟨#[]⟩, .int .i64 0, .bool false] := by
    have := Box.made (w.alloc (.cells #[.string s, .int .i64 n, .bool g] 96)) 96 #[.string ⟨#[]⟩, .int .i64 0, .bool false]
    rw [World.size_alloc, hw0] at this
    exact this
  have hbl : Below w.heap.size w w0 := hw0 ▸ (below_box _).alloc (by simp) _
  have Hc := Lib.hid (clone_any s w0 hs)
  have q0 : w0.cell? ⟨w.heap.size, 0, none⟩ = some (.string s) := h1.cell 0
  have H := Lib.hid (And.intro h1 (And.intro h2 hbl))
  clear hb0 h1 h2 hbl
  go_enter Try.func98, Try.ntmps98
  go_wp2_with fail
  refine Hc.out.mono ?_
  rintro e w2 ⟨rfl, b2⟩
  obtain ⟨h1, h2, hbl⟩ := H.out
  have k1 := (h1.below b2 h1.lt).set_ 0 (.string s)
  have k2 := (h2.below b2 h2.lt).far (p := ⟨w.heap.size, 0, none⟩) (by show w.heap.size + 1 ≠ w.heap.size; omega) (.string s)
  have kb := (hbl.trans (b2.mono hbl.size)).setCell (p := ⟨w.heap.size, 0, none⟩) (Nat.le_refl _) (.string s)
  have a0 : w2.cell? ⟨w.heap.size, 0, none⟩ = some (.string s) := (h1.below b2 h1.lt).cell 0
  have a1 : w2.frozen? ⟨w.heap.size, 0, none⟩ = false := (h1.below b2 h1.lt).frozen 0
  obtain ⟨w3, hw3⟩ : ∃ w3, w2.setCell ⟨w.heap.size, 0, none⟩ (.string s) = w3 := ⟨_, rfl⟩
  rw [hw3] at k1 k2 kb
  have c0 : w3.cell? ⟨w.heap.size, 0, none⟩ = some (.string s) := k1.cell 0
  have c1 : w3.cell? ⟨w.heap.size, 1, none⟩ = some (.int .i64 n) := k1.cell 1
  have c2 : w3.cell? ⟨w.heap.size, 2, none⟩ = some (.bool g) := k1.cell 2
  have d0 : w3.cell? ⟨w.heap.size + 1, 0, none⟩ = some (.string ⟨#[]⟩) := k2.cell 0
  have d1 : w3.cell? ⟨w.heap.size + 1, 1, none⟩ = some (.int .i64 0) := k2.cell 1
  have d2 : w3.cell? ⟨w.heap.size + 1, 2, none⟩ = some (.bool false) := k2.cell 2
  have f0 : w3.frozen? ⟨w.heap.size + 1, 0, none⟩ = false := k2.frozen 0
  have f1 : w3.frozen? ⟨w.heap.size + 1, 1, none⟩ = false := k2.frozen 1
  have f2 : w3.frozen? ⟨w.heap.size + 1, 2, none⟩ = false := k2.frozen 2
  obtain ⟨W3, hW3⟩ : ∃ W3, ((w3.setCell ⟨w.heap.size + 1, 0, none⟩ (.string s)).setCell ⟨w.heap.size + 1, 1, none⟩ (.int .i64 n)).setCell ⟨w.heap.size + 1, 2, none⟩ (.bool g) = W3 := ⟨_, rfl⟩
  have hp := box_store (x' := .string s) (y' := .int .i64 n) (z' := .bool g) d0 d1 d2
  have Hbw : Hid (Below w.heap.size w W3) := Lib.hid (by rw [← hW3]; exact ((kb.setCell (Nat.le_succ _) _).setCell (Nat.le_succ _) _).setCell (Nat.le_succ _) _)
  rw [hW3] at hp
  obtain ⟨p0, p1, p2⟩ := hp
  clear k1 k2 kb h1 h2 hbl b2 Hc H
  go_wp2
  refine bodyPost_ret (v := .agg #[.string s, .int .i64 n, .bool g]) ?_ rfl ⟨rfl, Hbw.out⟩
  simp [results, Try.results98, go_sem, p0, p1, p2]
end Go.Proofs.Ytaljojjpgkmiiaa

namespace Go.Proofs.Ytaljojjpgkmiiaa
open Go.RowKit
open Go.Lib (strCells)

set_option maxRecDepth 100000 in
set_option maxHeartbeats 3200000 in
theorem copiesP_any (A : Option Addr) (n c B : Nat) (l : List LPr) (w : World) (h : HasLps w B A n l) (hn : n ≤ 1000000) (hw : B ≤ w.heap.size) (hs : ∀ p ∈ l, p.k.size ≤ 140737488355328 ∧ p.v.size ≤ 140737488355328) :
    Calls Try.prog 95 #[.slice A n c, .func (.func 96) #[] #[]] w fun e w' => ∃ v, e = .returned v ∧ OwnLps w' w.heap.size v l ∧ Below w.heap.size w w' := by
  have H := Lib.hid h
  have Hs := Lib.hid hs
  have Hl := Lib.hid h.1
  clear h hs
  go_enter Try.func95, Try.ntmps95
  go_wp2
  go_loopw [5, 7, 10] (fun cv _ i wr => ∃ k : Nat, k ≤ n ∧ i = .int .i64 (k : Int) ∧ wr.ownsRow w.heap.size 94 2 cv k (lpCells (l.take k)) ∧ Below w.heap.size w wr) (fun _ _ i _ => n - (intOf i).toNat)
  case atStart => exact ⟨0, by omega, rfl, World.ownsRow_nil _ _ _ _, Below.refl _ _⟩
  case round =>
    obtain ⟨k, hk, rfl, hown, hb⟩ := hrel
    have Hown := Lib.hid hown
    have Hb := Lib.hid hb
    have hsz := hb.size
    clear hown hb
    by_cases hlt : k < n
    · obtain ⟨a, v, rfl, hab, hv, c0, c1⟩ := (H.out.belowOf Hb.out hw).at_ hlt
      obtain ⟨vk, vv⟩ := v
      simp only at c0 c1
      have hvs := Hs.out _ (List.mem_of_getElem? hv)
      simp only at hvs
      obtain ⟨hv1, hv2⟩ := hvs
      have E : Hid (l.take (k + 1) = l.take k ++ [⟨vk, vv⟩]) := Lib.hid (by rw [List.take_add_one, hv]; rfl)
      have hk0 : (0 : Int) ≤ (k : Int) := by omega
      have hk1 : (k : Int) < (n : Int) := by omega
      clear hv
      go_wp2_with fail
      refine (copyPr_any vk vv _ hv1 hv2).mono ?_
      rintro e w2 ⟨rfl, hb2⟩
      have Hb3 : Hid (Below wr.heap.size wr w2) := Lib.hid ((below_box _).trans (hb2.mono (by simp)))
      have Hown3 := Lib.hid (own_belowN Hown.out Hb3.out)
      have Hb4 := Lib.hid (Hb.out.trans (Hb3.out.mono hsz))
      have hs3 := Hb4.out.size
      clear hb2 Hb3
      go_wp2_with (at_builtin; refine wpList_append_hasN rfl (.tmp 14) (.tmp 18) _ rfl 94 lp_elem (by omega) Try.underlying66 rfl (Hown3.out.alloc _) rfl (lp_lit w2 ⟨vk, vv⟩) (lpCells_one _) (by simp only [maxLen]; omega) (by omega) (le_alloc hs3 _) ?_; intro v4 w4 hown4 hg4 hz4; have Hb5 : Hid (Below w.heap.size w w4) := Lib.hid (below_ownN (Hb4.out.alloc hs3 _) (Hown3.out.alloc _) hg4 (le_alloc hs3 _)); clear hg4 hz4)
      go_roundw
      case rel =>
        refine ⟨k + 1, by omega, by go_num, ?_, Hb5.out⟩
        rw [E.out, lpCells_app]
        exact hown4
      case measure => simp [intOf]; omega
    · obtain rfl : k = n := by omega
      have E : Hid (l.take k = l) := Lib.hid (List.take_of_length_le (by have := Hl.out; omega))
      rw [E.out] at Hown
      go_wp2
      go_ret
      exact ⟨_, rfl, by unfold OwnLps; rw [Hl.out]; exact Hown.out, Hb.out⟩
set_option maxRecDepth 100000 in
set_option maxHeartbeats 3200000 in
theorem copiesI_any (A : Option Addr) (n c B : Nat) (l : List LIt) (w : World) (h : HasLis w B A n l) (hn : n ≤ 1000000) (hw : B ≤ w.heap.size) (hs : ∀ p ∈ l, p.e.size ≤ 140737488355328) :
    Calls Try.prog 97 #[.slice A n c, .func (.func 98) #[] #[]] w fun e w' => ∃ v, e = .returned v ∧ OwnLis w' w.heap.size v l ∧ Below w.heap.size w w' := by
  have H := Lib.hid h
  have Hs := Lib.hid hs
  have Hl := Lib.hid h.1
  clear h hs
  go_enter Try.func97, Try.ntmps97
  go_wp2
  go_loopw [5, 7, 10] (fun cv _ i wr => ∃ k : Nat, k ≤ n ∧ i = .int .i64 (k : Int) ∧ wr.ownsRow w.heap.size 96 3 cv k (liCells (l.take k)) ∧ Below w.heap.size w wr) (fun _ _ i _ => n - (intOf i).toNat)
  case atStart => exact ⟨0, by omega, rfl, World.ownsRow_nil _ _ _ _, Below.refl _ _⟩
  case round =>
    obtain ⟨k, hk, rfl, hown, hb⟩ := hrel
    have Hown := Lib.hid hown
    have Hb := Lib.hid hb
    have hsz := hb.size
    clear hown hb
    by_cases hlt : k < n
    · obtain ⟨a, v, rfl, hab, hv, c0, c1, c2⟩ := (H.out.belowOf Hb.out hw).at_ hlt
      obtain ⟨ve, vv, vg⟩ := v
      simp only at c0 c1 c2
      have hvs := Hs.out _ (List.mem_of_getElem? hv)
      simp only at hvs
      have E : Hid (l.take (k + 1) = l.take k ++ [⟨ve, vv, vg⟩]) := Lib.hid (by rw [List.take_add_one, hv]; rfl)
      have hk0 : (0 : Int) ≤ (k : Int) := by omega
      have hk1 : (k : Int) < (n : Int) := by omega
      clear hv
      go_wp2_with fail
      refine (copyIt_any ve vv vg _ hvs).mono ?_
      rintro e w2 ⟨rfl, hb2⟩
      have Hb3 : Hid (Below wr.heap.size wr w2) := Lib.hid ((below_box _).trans (hb2.mono (by simp)))
      have Hown3 := Lib.hid (own_belowN Hown.out Hb3.out)
      have Hb4 := Lib.hid (Hb.out.trans (Hb3.out.mono hsz))
      have hs3 := Hb4.out.size
      clear hb2 Hb3
      go_wp2_with (at_builtin; refine wpList_append_hasN rfl (.tmp 14) (.tmp 18) _ rfl 96 li_elem (by omega) Try.underlying67 rfl (Hown3.out.alloc _) rfl (li_lit w2 ⟨ve, vv, vg⟩) (liCells_one _) (by simp only [maxLen]; omega) (by omega) (le_alloc hs3 _) ?_; intro v4 w4 hown4 hg4 hz4; have Hb5 : Hid (Below w.heap.size w w4) := Lib.hid (below_ownN (Hb4.out.alloc hs3 _) (Hown3.out.alloc _) hg4 (le_alloc hs3 _)); clear hg4 hz4)
      go_roundw
      case rel =>
        refine ⟨k + 1, by omega, by go_num, ?_, Hb5.out⟩
        rw [E.out, liCells_app]
        exact hown4
      case measure => simp [intOf]; omega
    · obtain rfl : k = n := by omega
      have E : Hid (l.take k = l) := Lib.hid (List.take_of_length_le (by have := Hl.out; omega))
      rw [E.out] at Hown
      go_wp2
      go_ret
      exact ⟨_, rfl, by unfold OwnLis; rw [Hl.out]; exact Hown.out, Hb.out⟩
end Go.Proofs.Ytaljojjpgkmiiaa

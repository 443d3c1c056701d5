/- Rows of pairs and of intents of the call's own, written over; two copies of a letter side by side. No condition. -/
import Derived.Test.YtabcoidjbigdbaaLetU
import Derived.Laws.OwnMore
namespace Go.Proofs.Ytabcoidjbigdbaa
open Go.RowKit

theorem lpCells_set0 : ∀ (l : List LPr) (i : Nat) (p : LPr) (k : ByteArray), l[i]? = some p → (lpCells l).set (i * 2) (.string k) = lpCells (l.set i ⟨k, p.v⟩)
  | [], i, p, k, h => by simp at h
  | q :: l, 0, p, k, h => by simp at h; subst h; simp [lpCells]
  | q :: l, i + 1, p, k, h => by
    rw [show (i + 1) * 2 = i * 2 + 1 + 1 from by omega]
    simpa [lpCells] using lpCells_set0 l i p k (by simpa using h)
theorem lpCells_set1 : ∀ (l : List LPr) (i : Nat) (p : LPr) (v : ByteArray), l[i]? = some p → (lpCells l).set (i * 2 + 1) (.string v) = lpCells (l.set i ⟨p.k, v⟩)
  | [], i, p, k, h => by simp at h
  | q :: l, 0, p, k, h => by simp at h; subst h; simp [lpCells]
  | q :: l, i + 1, p, k, h => by
    rw [show (i + 1) * 2 + 1 = i * 2 + 1 + 1 + 1 from by omega]
    simpa [lpCells] using lpCells_set1 l i p k (by simpa using h)
theorem liCells_set2 : ∀ (l : List LIt) (i : Nat) (p : LIt) (b : Bool), l[i]? = some p → (liCells l).set (i * 3 + 2) (.bool b) = liCells (l.set i ⟨p.e, p.v, b⟩)
  | [], i, p, k, h => by simp at h
  | q :: l, 0, p, k, h => by simp at h; subst h; simp [liCells, licells]
  | q :: l, i + 1, p, k, h => by
    rw [show (i + 1) * 3 + 2 = i * 3 + 2 + 1 + 1 + 1 from by omega]
    simpa [liCells, licells] using liCells_set2 l i p k (by simpa using h)
theorem own_at0 {w : World} {B m size c : Nat} {e : TypeId} {A : Option Addr} {xs : List Value} (h : w.ownsRow B e size (.slice A m c) m xs) (hm : 0 < m) : ∃ g, A = some ⟨g, 0, none⟩ ∧ B ≤ g ∧ g < w.heap.size := by
  rcases h.2 with ⟨_, h0⟩ | ⟨g, cap, cur, hv, hb, hh, _⟩
  · omega
  · injection hv with hA _ _
    exact ⟨g, hA, hb, (Array.getElem?_eq_some_iff.1 hh).1⟩
/-- a text of pair i written over -/
theorem lp_edit {w : World} {B N c i : Nat} {A : Option Addr} {l : List LPr} (h : w.ownsRow B 38 2 (.slice A N c) N (lpCells l)) (hl : l.length = N) (hi : i < N) :
    ∃ g p, A = some ⟨g, 0, none⟩ ∧ B ≤ g ∧ g < w.heap.size ∧ l[i]? = some p ∧ w.cell? ⟨g, i * 2, none⟩ = some (.string p.k) ∧ w.cell? ⟨g, i * 2 + 1, none⟩ = some (.string p.v) ∧
      (∀ j, w.frozen? ⟨g, j, none⟩ = false) ∧
      (∀ k, (w.setCell ⟨g, i * 2, none⟩ (.string k)).ownsRow B 38 2 (.slice A N c) N (lpCells (l.set i ⟨k, p.v⟩)) ∧ w.grownBy (w.setCell ⟨g, i * 2, none⟩ (.string k)) (some g)) ∧
      (∀ v, (w.setCell ⟨g, i * 2 + 1, none⟩ (.string v)).ownsRow B 38 2 (.slice A N c) N (lpCells (l.set i ⟨p.k, v⟩)) ∧ w.grownBy (w.setCell ⟨g, i * 2 + 1, none⟩ (.string v)) (some g)) := by
  obtain ⟨g, rfl, hB, hg⟩ := own_at0 h (by omega)
  obtain ⟨c0, c1⟩ := lpCells_at l i l[i] (List.getElem?_eq_getElem (by omega))
  refine ⟨g, l[i], rfl, hB, hg, List.getElem?_eq_getElem (by omega), (h.cellAt (i * 2) (by omega)).trans c0, (h.cellAt (i * 2 + 1) (by omega)).trans c1, fun j => h.frozenAt j, fun k => ?_, fun v => ?_⟩
  · have h1 := h.stored (i * 2) (.string k)
    rwa [lpCells_set0 l i l[i] k (List.getElem?_eq_getElem (by omega))] at h1
  · have h1 := h.stored (i * 2 + 1) (.string v)
    rwa [lpCells_set1 l i l[i] v (List.getElem?_eq_getElem (by omega))] at h1
/-- the mark of intent i written over -/
theorem li_edit {w : World} {B N c i : Nat} {A : Option Addr} {l : List LIt} (h : w.ownsRow B 40 3 (.slice A N c) N (liCells l)) (hl : l.length = N) (hi : i < N) :
    ∃ g p, A = some ⟨g, 0, none⟩ ∧ B ≤ g ∧ g < w.heap.size ∧ l[i]? = some p ∧ w.cell? ⟨g, i * 3 + 2, none⟩ = some (.bool p.g) ∧
      (∀ j, w.frozen? ⟨g, j, none⟩ = false) ∧
      (∀ b, (w.setCell ⟨g, i * 3 + 2, none⟩ (.bool b)).ownsRow B 40 3 (.slice A N c) N (liCells (l.set i ⟨p.e, p.v, b⟩)) ∧ w.grownBy (w.setCell ⟨g, i * 3 + 2, none⟩ (.bool b)) (some g)) := by
  obtain ⟨g, rfl, hB, hg⟩ := own_at0 h (by omega)
  obtain ⟨-, -, c2⟩ := liCells_at l i l[i] (List.getElem?_eq_getElem (by omega))
  refine ⟨g, l[i], rfl, hB, hg, List.getElem?_eq_getElem (by omega), (h.cellAt (i * 3 + 2) (by omega)).trans c2, fun j => h.frozenAt j, fun b => ?_⟩
  have h1 := h.stored (i * 3 + 2) (.bool b)
  rwa [liCells_set2 l i l[i] b (List.getElem?_eq_getElem (by omega))] at h1
/-- a row lies in a block of its elements' type: not in a box of another type -/
theorem own_box_ne {w : World} {B m size g : Nat} {e t : TypeId} {v : Value} {xs : List Value} {cs : Array Value} (h : w.ownsRow B e size v m xs) (hb : Box w g t cs) (hne : e ≠ t) : ∀ b, v.ownBlock = some b → b ≠ g := by
  intro b hv e0
  subst e0
  rcases h.2 with ⟨rfl, _⟩ | ⟨g', cap, cur, rfl, hB, hh, rest⟩
  · cases hv
  · cases hv
    unfold Box at hb
    rw [hh] at hb
    injection hb with hb
    injection hb with _ hb
    exact hne hb
theorem own_grownT {w w' : World} {B m size g : Nat} {e : TypeId} {v : Value} {xs : List Value} (h : w.ownsRow B e size v m xs) (hg : w.grownBy w' (some g)) (hB : ∀ b, v.ownBlock = some b → b ≠ g) : w'.ownsRow B e size v m xs := by
  refine ⟨h.1, ?_⟩
  rcases h.2 with hn | ⟨b, cap, cur, rfl, hB', hb, rest⟩
  · exact .inl hn
  · exact .inr ⟨b, cap, cur, rfl, hB', (hg.block b (Array.getElem?_eq_some_iff.1 hb).1 (by intro e; injection e with e; exact hB b rfl e)).trans hb, rest⟩
/-- two copies of a letter in boxes of the call's own -/
structure KFin (w5 W : World) (L : Let) (g5 g6 : Nat) (P1 : Option Addr) (p1 : Nat) (I1 : Option Addr) (i1 : Nat) (P2 : Option Addr) (p2 : Nat) (I2 : Option Addr) (i2 : Nat) : Prop where
  b5 : Box W g5 26 #[.int .i64 L.kind, .int .i64 L.frm, .int .i64 L.to, .int .i64 L.a, .int .i64 L.b, .int .i64 L.c, .int .i64 L.d, .string L.s, .string L.t, .slice P1 L.ps.length p1, .slice I1 L.is.length i1, .int .i64 L.code, .bool L.yes, .string L.body]
  b6 : Box W g6 26 #[.int .i64 L.kind, .int .i64 L.frm, .int .i64 L.to, .int .i64 L.a, .int .i64 L.b, .int .i64 L.c, .int .i64 L.d, .string L.s, .string L.t, .slice P2 L.ps.length p2, .slice I2 L.is.length i2, .int .i64 L.code, .bool L.yes, .string L.body]
  ne : g5 ≠ g6
  h5 : w5.heap.size ≤ g5
  h6 : w5.heap.size ≤ g6
  op1 : OwnLps W w5.heap.size (.slice P1 L.ps.length p1) L.ps
  oi1 : OwnLis W w5.heap.size (.slice I1 L.is.length i1) L.is
  op2 : OwnLps W w5.heap.size (.slice P2 L.ps.length p2) L.ps
  oi2 : OwnLis W w5.heap.size (.slice I2 L.is.length i2) L.is
  sp : ∀ g, (Value.slice P1 L.ps.length p1).ownBlock = some g → (Value.slice P2 L.ps.length p2).ownBlock ≠ some g
  si : ∀ g, (Value.slice I1 L.is.length i1).ownBlock = some g → (Value.slice I2 L.is.length i2).ownBlock ≠ some g
  below : Below w5.heap.size w5 W
theorem kfin {w5 wx ws wt : World} {L : Let} {g5 g6 : Nat} {P1 : Option Addr} {p1 : Nat} {I1 : Option Addr} {i1 : Nat} {P2 : Option Addr} {p2 : Nat} {I2 : Option Addr} {i2 : Nat} {cs ds : Array Value}
    (b5 : Box ws g5 26 #[.int .i64 L.kind, .int .i64 L.frm, .int .i64 L.to, .int .i64 L.a, .int .i64 L.b, .int .i64 L.c, .int .i64 L.d, .string L.s, .string L.t, .slice P1 L.ps.length p1, .slice I1 L.is.length i1, .int .i64 L.code, .bool L.yes, .string L.body]) (b6 : Box wt g6 26 #[.int .i64 L.kind, .int .i64 L.frm, .int .i64 L.to, .int .i64 L.a, .int .i64 L.b, .int .i64 L.c, .int .i64 L.d, .string L.s, .string L.t, .slice P2 L.ps.length p2, .slice I2 L.is.length i2, .int .i64 L.code, .bool L.yes, .string L.body]) (ne : g5 ≠ g6) (h5 : w5.heap.size ≤ g5) (h6 : w5.heap.size ≤ g6)
    (op1 : OwnLps wx w5.heap.size (.slice P1 L.ps.length p1) L.ps) (oi1 : OwnLis wx w5.heap.size (.slice I1 L.is.length i1) L.is) (op2 : OwnLps wx w5.heap.size (.slice P2 L.ps.length p2) L.ps) (oi2 : OwnLis wx w5.heap.size (.slice I2 L.is.length i2) L.is)
    (sp : ∀ g, (Value.slice P1 L.ps.length p1).ownBlock = some g → (Value.slice P2 L.ps.length p2).ownBlock ≠ some g) (si : ∀ g, (Value.slice I1 L.is.length i1).ownBlock = some g → (Value.slice I2 L.is.length i2).ownBlock ≠ some g)
    (hb : Below w5.heap.size w5 wt) (z5 : Box wx g5 26 cs) (z6 : Box ws g6 26 ds) (gs : wx.grownBy ws (some g5)) (gt : ws.grownBy wt (some g6)) : KFin w5 wt L g5 g6 P1 p1 I1 i1 P2 p2 I2 i2 := by
  have n1 : (38 : TypeId) ≠ 26 := by decide
  have n2 : (40 : TypeId) ≠ 26 := by decide
  have a1 := own_grownT op1 gs (own_box_ne op1 z5 n1)
  have a2 := own_grownT oi1 gs (own_box_ne oi1 z5 n2)
  have a3 := own_grownT op2 gs (own_box_ne op2 z5 n1)
  have a4 := own_grownT oi2 gs (own_box_ne oi2 z5 n2)
  exact ⟨b5.grown gt (fun e => ne (by injection e)), b6, ne, h5, h6, own_grownT a1 gt (own_box_ne a1 z6 n1), own_grownT a2 gt (own_box_ne a2 z6 n2), own_grownT a3 gt (own_box_ne a3 z6 n1), own_grownT a4 gt (own_box_ne a4 z6 n2), sp, si, hb⟩
end Go.Proofs.Ytabcoidjbigdbaa

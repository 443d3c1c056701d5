/- engine's put: one change. Condition: the engine is in memory; the change is short. -/
import Derived.Test.YteioopcacpihpaaMBchB
namespace Go.Proofs.Yteioopcacpihpaa
open Go.RowKit
open Go.Lib (strCells compareBytes)

/-- what one change comes to; where the table has room no run is made -/
def PutPost2 (e H : Nat) (lim : Int) (tv rv : Value) (T : List Chg) (rs : Crs) (c : Chg) (w : World) (e' : Ending) (w' : World) : Prop :=
  e' = .returned (.tuple #[]) ∧ ∃ pairs' tv' rv' T' rs', EngAt w' e lim pairs' tv' rv' T' rs' ∧ EngP (H + 1) lim pairs' T' (crLists rs') ∧ absL (T' :: crLists rs') = mapP c (absL (T :: crLists rs)) ∧
    Frm (fun i => i = e ∨ tv.ownBlock = some i) w w' ∧ (tv'.ownBlock = tv.ownBlock ∨ ∀ g, tv'.ownBlock = some g → w.heap.size ≤ g) ∧ ((T.length : Int) < lim → rv' = rv ∧ rs' = rs ∧ T' = putC (tidy c) T) ∧ NewB w rv rv' rs rs'
/-- what stands while a change is put: the change's box, and the engine -/
structure PutS (w : World) (e cb : Nat) (lim p : Int) (tv rv : Value) (T : List Chg) (rs : Crs) (c : Chg) (wx : World) : Prop where
  cbox : Box wx cb 38 #[.string c.k, .string c.v, .bool c.g]
  eng : EngAt wx e lim p tv rv T rs
  frm : Frm (fun i => i = e) w wx
  cw : cb < w.heap.size + 1
  cge : w.heap.size ≤ cb
theorem PutS.below {w wx w' : World} {e cb : Nat} {lim p : Int} {tv rv : Value} {T : List Chg} {rs : Crs} {c : Chg} (h : PutS w e cb lim p tv rv T rs c wx) (hb : Below wx.heap.size wx w') : PutS w e cb lim p tv rv T rs c w' :=
  ⟨h.cbox.below hb h.cbox.lt, h.eng.below hb, h.frm.then hb, h.cw, h.cge⟩
theorem PutS.set1 {w wx : World} {e cb : Nat} {lim p : Int} {tv rv : Value} {T : List Chg} {rs : Crs} {c : Chg} (h : PutS w e cb lim p tv rv T rs c wx) (hne : cb ≠ e) (q : Int) : PutS w e cb lim q tv rv T rs c (wx.setCell ⟨e, 1, none⟩ (.int .i64 q)) := by
  obtain ⟨h1, h2⟩ := h.eng.set1 h.eng.apart q
  exact ⟨h.cbox.frm h2 hne, h1, h.frm.trans h2 fun i hi => .inl hi, h.cw, h.cge⟩
theorem PutS.cells {w wx : World} {e cb : Nat} {lim p : Int} {tv rv : Value} {T : List Chg} {rs : Crs} {c : Chg} (h : PutS w e cb lim p tv rv T rs c wx) :
    ((wx.cell? ⟨e, 0, none⟩ = some (.int .i64 lim) ∧ wx.cell? ⟨e, 1, none⟩ = some (.int .i64 p) ∧ wx.cell? ⟨e, 2, none⟩ = some tv ∧ wx.cell? ⟨e, 3, none⟩ = some rv) ∧ (wx.frozen? ⟨e, 1, none⟩ = false ∧ wx.frozen? ⟨e, 2, none⟩ = false ∧ wx.frozen? ⟨e, 3, none⟩ = false)) ∧
    (wx.cell? ⟨cb, 0, none⟩ = some (.string c.k) ∧ wx.cell? ⟨cb, 1, none⟩ = some (.string c.v) ∧ wx.cell? ⟨cb, 2, none⟩ = some (.bool c.g)) := ⟨eng_cells h.eng.box, h.cbox.cell 0, h.cbox.cell 1, h.cbox.cell 2⟩

theorem PutS.s5 {w wx : World} {e cb : Nat} {lim p : Int} {tv rv : Value} {T : List Chg} {rs : Crs} {c : Chg} (h : PutS w e cb lim p tv rv T rs c wx) : (wx.cell? ⟨e, 2, none⟩ = some tv ∧ wx.cell? ⟨cb, 0, none⟩ = some (.string c.k)) ∧ PutS w e cb lim p tv rv T rs c wx := ⟨⟨h.cells.1.1.2.2.1, h.cells.2.1⟩, h⟩
end Go.Proofs.Yteioopcacpihpaa

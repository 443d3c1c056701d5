/- A letter stored in a box, as one step of a drawn region that is walked by hand. No condition. -/
import Derived.Test.YtabcoidjbigdbaaLetX
namespace Go.Proofs.Ytabcoidjbigdbaa
open Go.RowKit

set_option maxRecDepth 100000 in
set_option maxHeartbeats 1600000 in
theorem step_storeL {w W : World} {ops : Array Oper} {o : Oper} {a : Act} {K : Act → World → Prop} {Q : Exit → Act → World → Prop} {E : Prop} (hgd : o.guard = none) (x v : Operand) (ho : o.op = Op.store 26 x v) {g : Nat} (hx : a.eval x = .pointer (some ⟨g, 0, none⟩))
    {L : Let} {Ap : Option Addr} {np cp : Nat} {Ai : Option Addr} {ni ci : Nat} (hv : a.eval v = .agg #[.int .i64 L.kind, .int .i64 L.frm, .int .i64 L.to, .int .i64 L.a, .int .i64 L.b, .int .i64 L.c, .int .i64 L.d, .string L.s, .string L.t, .slice Ap np cp, .slice Ai ni ci, .int .i64 L.code, .bool L.yes, .string L.body]) {y0 y1 y2 y3 y4 y5 y6 y7 y8 y9 y10 y11 y12 y13 : Value} (h : Box w g 26 #[y0, y1, y2, y3, y4, y5, y6, y7, y8, y9, y10, y11, y12, y13]) (hW : ((((((((((((((w.setCell ⟨g, 0, none⟩ (.int .i64 L.kind)).setCell ⟨g, 1, none⟩ (.int .i64 L.frm)).setCell ⟨g, 2, none⟩ (.int .i64 L.to)).setCell ⟨g, 3, none⟩ (.int .i64 L.a)).setCell ⟨g, 4, none⟩ (.int .i64 L.b)).setCell ⟨g, 5, none⟩ (.int .i64 L.c)).setCell ⟨g, 6, none⟩ (.int .i64 L.d)).setCell ⟨g, 7, none⟩ (.string L.s)).setCell ⟨g, 8, none⟩ (.string L.t)).setCell ⟨g, 9, none⟩ (.slice Ap np cp)).setCell ⟨g, 10, none⟩ (.slice Ai ni ci)).setCell ⟨g, 11, none⟩ (.int .i64 L.code)).setCell ⟨g, 12, none⟩ (.bool L.yes)).setCell ⟨g, 13, none⟩ (.string L.body)) = W) (hK : K (a.put o.dst undef) W) :
    if Region.wanted o (yielded ops a.tmps) = true then Oper.wp Try.prog o a w K Q else E := by
  have hw : Region.wanted o (yielded ops a.tmps) = true := by simp [Region.wanted, hgd]
  rw [if_pos hw]
  have d0 : w.cell? ⟨g, 0, none⟩ = some y0 := h.cell 0
  have f0 : w.frozen? ⟨g, 0, none⟩ = false := h.frozen 0
  have d1 : w.cell? ⟨g, 1, none⟩ = some y1 := h.cell 1
  have f1 : w.frozen? ⟨g, 1, none⟩ = false := h.frozen 1
  have d2 : w.cell? ⟨g, 2, none⟩ = some y2 := h.cell 2
  have f2 : w.frozen? ⟨g, 2, none⟩ = false := h.frozen 2
  have d3 : w.cell? ⟨g, 3, none⟩ = some y3 := h.cell 3
  have f3 : w.frozen? ⟨g, 3, none⟩ = false := h.frozen 3
  have d4 : w.cell? ⟨g, 4, none⟩ = some y4 := h.cell 4
  have f4 : w.frozen? ⟨g, 4, none⟩ = false := h.frozen 4
  have d5 : w.cell? ⟨g, 5, none⟩ = some y5 := h.cell 5
  have f5 : w.frozen? ⟨g, 5, none⟩ = false := h.frozen 5
  have d6 : w.cell? ⟨g, 6, none⟩ = some y6 := h.cell 6
  have f6 : w.frozen? ⟨g, 6, none⟩ = false := h.frozen 6
  have d7 : w.cell? ⟨g, 7, none⟩ = some y7 := h.cell 7
  have f7 : w.frozen? ⟨g, 7, none⟩ = false := h.frozen 7
  have d8 : w.cell? ⟨g, 8, none⟩ = some y8 := h.cell 8
  have f8 : w.frozen? ⟨g, 8, none⟩ = false := h.frozen 8
  have d9 : w.cell? ⟨g, 9, none⟩ = some y9 := h.cell 9
  have f9 : w.frozen? ⟨g, 9, none⟩ = false := h.frozen 9
  have d10 : w.cell? ⟨g, 10, none⟩ = some y10 := h.cell 10
  have f10 : w.frozen? ⟨g, 10, none⟩ = false := h.frozen 10
  have d11 : w.cell? ⟨g, 11, none⟩ = some y11 := h.cell 11
  have f11 : w.frozen? ⟨g, 11, none⟩ = false := h.frozen 11
  have d12 : w.cell? ⟨g, 12, none⟩ = some y12 := h.cell 12
  have f12 : w.frozen? ⟨g, 12, none⟩ = false := h.frozen 12
  have d13 : w.cell? ⟨g, 13, none⟩ = some y13 := h.cell 13
  have f13 : w.frozen? ⟨g, 13, none⟩ = false := h.frozen 13
  clear h
  unfold Oper.wp
  simp only [execOp, ho, hx, hv]
  go_simp
  exact hK
end Go.Proofs.Ytabcoidjbigdbaa

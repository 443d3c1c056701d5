/- A letter in memory, and the small functions of package letter: numbers, texts, oneIf, beyond. No condition. -/
import Derived.Test.YtabcoidjbigdbaaLpA
import Derived.Test.YtabcoidjbigdbaaLiA
namespace Go.Proofs.Ytabcoidjbigdbaa
open Go.RowKit
open Go.Lib (strCells)

/-- a letter's own copy stands at a block -/
theorem let_box {w wx : World} {L : Let} {Ap : Option Addr} {np cp : Nat} {Ai : Option Addr} {ni ci : Nat} (h : Below (w.alloc (.cells #[.int .i64 L.kind, .int .i64 L.frm, .int .i64 L.to, .int .i64 L.a, .int .i64 L.b, .int .i64 L.c, .int .i64 L.d, .string L.s, .string L.t, .slice Ap np cp, .slice Ai ni ci, .int .i64 L.code, .bool L.yes, .string L.body] 26)).heap.size (w.alloc (.cells #[.int .i64 L.kind, .int .i64 L.frm, .int .i64 L.to, .int .i64 L.a, .int .i64 L.b, .int .i64 L.c, .int .i64 L.d, .string L.s, .string L.t, .slice Ap np cp, .slice Ai ni ci, .int .i64 L.code, .bool L.yes, .string L.body] 26)) wx) :
    Box wx w.heap.size 26 #[.int .i64 L.kind, .int .i64 L.frm, .int .i64 L.to, .int .i64 L.a, .int .i64 L.b, .int .i64 L.c, .int .i64 L.d, .string L.s, .string L.t, .slice Ap np cp, .slice Ai ni ci, .int .i64 L.code, .bool L.yes, .string L.body] ∧ Below w.heap.size w wx :=
  ⟨(Box.made w 26 #[.int .i64 L.kind, .int .i64 L.frm, .int .i64 L.to, .int .i64 L.a, .int .i64 L.b, .int .i64 L.c, .int .i64 L.d, .string L.s, .string L.t, .slice Ap np cp, .slice Ai ni ci, .int .i64 L.code, .bool L.yes, .string L.body]).below h (by simp), (below_box _).trans (h.mono (by simp))⟩
/-- the cells of a letter's box -/
theorem let_cells {wx : World} {g : Nat} {L : Let} {Ap : Option Addr} {np cp : Nat} {Ai : Option Addr} {ni ci : Nat} (h : Box wx g 26 #[.int .i64 L.kind, .int .i64 L.frm, .int .i64 L.to, .int .i64 L.a, .int .i64 L.b, .int .i64 L.c, .int .i64 L.d, .string L.s, .string L.t, .slice Ap np cp, .slice Ai ni ci, .int .i64 L.code, .bool L.yes, .string L.body]) :
    (wx.cell? ⟨g, 0, none⟩ = some (.int .i64 L.kind) ∧ wx.cell? ⟨g, 1, none⟩ = some (.int .i64 L.frm) ∧ wx.cell? ⟨g, 2, none⟩ = some (.int .i64 L.to) ∧ wx.cell? ⟨g, 3, none⟩ = some (.int .i64 L.a) ∧ wx.cell? ⟨g, 4, none⟩ = some (.int .i64 L.b) ∧ wx.cell? ⟨g, 5, none⟩ = some (.int .i64 L.c) ∧ wx.cell? ⟨g, 6, none⟩ = some (.int .i64 L.d)) ∧
    (wx.cell? ⟨g, 7, none⟩ = some (.string L.s) ∧ wx.cell? ⟨g, 8, none⟩ = some (.string L.t)) ∧ (wx.cell? ⟨g, 9, none⟩ = some (.slice Ap np cp) ∧ wx.cell? ⟨g, 10, none⟩ = some (.slice Ai ni ci)) ∧ (wx.cell? ⟨g, 11, none⟩ = some (.int .i64 L.code) ∧ wx.cell? ⟨g, 12, none⟩ = some (.bool L.yes) ∧ wx.cell? ⟨g, 13, none⟩ = some (.string L.body)) :=
  ⟨⟨h.cell 0, h.cell 1, h.cell 2, h.cell 3, h.cell 4, h.cell 5, h.cell 6⟩, ⟨h.cell 7, h.cell 8⟩, ⟨h.cell 9, h.cell 10⟩, ⟨h.cell 11, h.cell 12, h.cell 13⟩⟩
set_option maxRecDepth 100000 in
theorem numbers_any (L : Let) (Ap : Option Addr) (np cp : Nat) (Ai : Option Addr) (ni ci : Nat) (w : World) : Calls Try.prog 53 #[.agg #[.int .i64 L.kind, .int .i64 L.frm, .int .i64 L.to, .int .i64 L.a, .int .i64 L.b, .int .i64 L.c, .int .i64 L.d, .string L.s, .string L.t, .slice Ap np cp, .slice Ai ni ci, .int .i64 L.code, .bool L.yes, .string L.body]] w fun e w' => e = .returned (.agg #[.int .i64 L.kind, .int .i64 L.frm, .int .i64 L.to, .int .i64 L.a, .int .i64 L.b, .int .i64 L.c, .int .i64 L.d, .int .i64 L.code]) ∧ Below w.heap.size w w' := by
  go_enter Try.func53, Try.ntmps53
  go_wp2
  refine bodyPost_ret (v := .agg #[.int .i64 L.kind, .int .i64 L.frm, .int .i64 L.to, .int .i64 L.a, .int .i64 L.b, .int .i64 L.c, .int .i64 L.d, .int .i64 L.code]) ?_ rfl ⟨rfl, ((below_box _).alloc (by simp) _)⟩
  simp [results, Try.results53, go_sem]
set_option maxRecDepth 100000 in
theorem texts_any13 (L : Let) (Ap : Option Addr) (np cp : Nat) (Ai : Option Addr) (ni ci : Nat) (w : World) : Calls Try.prog 54 #[.agg #[.int .i64 L.kind, .int .i64 L.frm, .int .i64 L.to, .int .i64 L.a, .int .i64 L.b, .int .i64 L.c, .int .i64 L.d, .string L.s, .string L.t, .slice Ap np cp, .slice Ai ni ci, .int .i64 L.code, .bool L.yes, .string L.body]] w fun e w' => e = .returned (.agg #[.string L.s, .string L.t, .string L.body]) ∧ Below w.heap.size w w' := by
  go_enter Try.func54, Try.ntmps54
  go_wp2
  refine bodyPost_ret (v := .agg #[.string L.s, .string L.t, .string L.body]) ?_ rfl ⟨rfl, ((below_box _).alloc (by simp) _)⟩
  simp [results, Try.results54, go_sem]
theorem oneIf_any (b : Bool) (w : World) : Calls Try.prog 66 #[.bool b] w fun e w' => e = .returned (.int .i64 (one b)) ∧ w' = w := by
  cases b with
  | true =>
    go_enter Try.func66, Try.ntmps66
    go_wp2
    go_ret
    exact ⟨rfl, rfl⟩
  | false =>
    go_enter Try.func66, Try.ntmps66
    go_wp2
    go_ret
    exact ⟨rfl, rfl⟩
theorem beyond_any (n : Int) (w : World) : Calls Try.prog 69 #[.int .i64 n] w fun e w' => e = .returned (.bool (decide (¬ okNum n))) ∧ w' = w := by
  by_cases h1 : n < 0
  · have e : decide (¬ okNum n) = true := decide_eq_true (fun h => by have := h.1; omega)
    rw [e]
    go_enter Try.func69, Try.ntmps69
    go_wp2
    go_ret
    exact ⟨rfl, rfl⟩
  · by_cases h2 : 1099511627776 < n
    · have e : decide (¬ okNum n) = true := decide_eq_true (fun h => by have := h.2; omega)
      rw [e]
      go_enter Try.func69, Try.ntmps69
      go_wp2
      go_ret
      exact ⟨rfl, rfl⟩
    · have e : decide (¬ okNum n) = false := decide_eq_false (fun h => h ⟨by omega, by omega⟩)
      rw [e]
      have h1' : 0 ≤ n := by omega
      have h2' : n ≤ 1099511627776 := by omega
      clear h1 h2
      go_enter Try.func69, Try.ntmps69
      go_wp2
      go_ret
      exact ⟨by simp; omega, rfl⟩
end Go.Proofs.Ytabcoidjbigdbaa

/- letter.Same: all fields of two letters are the same. Condition: rows in memory. -/
import Derived.Test.YtabcoidjbigdbaaLetP
import Derived.Test.YtabcoidjbigdbaaLetR
import Derived.Test.YtabcoidjbigdbaaRegion
import Derived.Laws.StructEq
namespace Go.Proofs.Ytabcoidjbigdbaa
open Go.RowKit
open Go.Lib (strCells)

theorem eqNums (x0 x1 x2 x3 x4 x5 x6 x7 y0 y1 y2 y3 y4 y5 y6 y7 : Int) (w : World) : (binOp .eql 90 (.agg #[.int .i64 x0, .int .i64 x1, .int .i64 x2, .int .i64 x3, .int .i64 x4, .int .i64 x5, .int .i64 x6, .int .i64 x7]) (.agg #[.int .i64 y0, .int .i64 y1, .int .i64 y2, .int .i64 y3, .int .i64 y4, .int .i64 y5, .int .i64 y6, .int .i64 y7])).run Try.prog w = .ok (.bool (decide ([x0, x1, x2, x3, x4, x5, x6, x7] = [y0, y1, y2, y3, y4, y5, y6, y7]))) w := by
  rw [run_eql_struct, show (10000 : Nat) = 9999 + 1 from rfl, Op.equalIn]
  simp only [Sem.run_bind, run_underlying Try.underlying90, Result.andThen_ok]
  simp only [Std.Legacy.Range.forIn_eq_forIn_range', Std.Legacy.Range.size, Nat.sub_zero, Nat.add_sub_cancel, Nat.div_one, List.range'_succ, List.range'_zero, List.forIn_cons, List.forIn_nil]
  go_simp
  by_cases h0 : x0 = y0
  case neg => simp [h0]
  simp only [h0, if_true, decide_true, Bool.true_and]
  by_cases h1 : x1 = y1
  case neg => simp [h1]
  simp only [h1, if_true, decide_true, Bool.true_and]
  by_cases h2 : x2 = y2
  case neg => simp [h2]
  simp only [h2, if_true, decide_true, Bool.true_and]
  by_cases h3 : x3 = y3
  case neg => simp [h3]
  simp only [h3, if_true, decide_true, Bool.true_and]
  by_cases h4 : x4 = y4
  case neg => simp [h4]
  simp only [h4, if_true, decide_true, Bool.true_and]
  by_cases h5 : x5 = y5
  case neg => simp [h5]
  simp only [h5, if_true, decide_true, Bool.true_and]
  by_cases h6 : x6 = y6
  case neg => simp [h6]
  simp only [h6, if_true, decide_true, Bool.true_and]
  by_cases h : x7 = y7 <;> simp [h]
theorem textL_eq (a b : ByteArray) : (a.toList = b.toList) = (a = b) := by
  have h := text_eqL a b
  by_cases e : a = b
  · subst e; simp
  · rw [decide_eq_false e] at h
    simpa [e] using h
theorem eqTxts (x0 x1 x2 y0 y1 y2 : ByteArray) (w : World) : (binOp .eql 92 (.agg #[.string x0, .string x1, .string x2]) (.agg #[.string y0, .string y1, .string y2])).run Try.prog w = .ok (.bool (decide ([x0, x1, x2] = [y0, y1, y2]))) w := by
  rw [run_eql_struct, show (10000 : Nat) = 9999 + 1 from rfl, Op.equalIn]
  simp only [Sem.run_bind, run_underlying Try.underlying92, Result.andThen_ok]
  simp only [Std.Legacy.Range.forIn_eq_forIn_range', Std.Legacy.Range.size, Nat.sub_zero, Nat.add_sub_cancel, Nat.div_one, List.range'_succ, List.range'_zero, List.forIn_cons, List.forIn_nil]
  go_simp
  simp only [textL_eq]
  by_cases h0 : x0 = y0
  case neg => simp [h0]
  simp only [h0, if_true, decide_true, Bool.true_and]
  by_cases h1 : x1 = y1
  case neg => simp [h1]
  simp only [h1, if_true, decide_true, Bool.true_and]
  by_cases h : x2 = y2 <;> simp [h]
def SS (w : World) (L M : Let) (Ap : Option Addr) (np cp : Nat) (Ai : Option Addr) (ni ci : Nat) (Bp : Option Addr) (mp dp : Nat) (Bi : Option Addr) (mi di : Nat) (wx : World) : Prop := (wx.cell? ⟨w.heap.size, 0, none⟩ = some (.int .i64 L.kind) ∧ wx.cell? ⟨w.heap.size, 1, none⟩ = some (.int .i64 L.frm) ∧ wx.cell? ⟨w.heap.size, 2, none⟩ = some (.int .i64 L.to) ∧ wx.cell? ⟨w.heap.size, 3, none⟩ = some (.int .i64 L.a) ∧ wx.cell? ⟨w.heap.size, 4, none⟩ = some (.int .i64 L.b) ∧ wx.cell? ⟨w.heap.size, 5, none⟩ = some (.int .i64 L.c) ∧ wx.cell? ⟨w.heap.size, 6, none⟩ = some (.int .i64 L.d) ∧ wx.cell? ⟨w.heap.size, 7, none⟩ = some (.string L.s) ∧ wx.cell? ⟨w.heap.size, 8, none⟩ = some (.string L.t) ∧ wx.cell? ⟨w.heap.size, 9, none⟩ = some (.slice Ap np cp) ∧ wx.cell? ⟨w.heap.size, 10, none⟩ = some (.slice Ai ni ci) ∧ wx.cell? ⟨w.heap.size, 11, none⟩ = some (.int .i64 L.code) ∧ wx.cell? ⟨w.heap.size, 12, none⟩ = some (.bool L.yes) ∧ wx.cell? ⟨w.heap.size, 13, none⟩ = some (.string L.body)) ∧ (wx.cell? ⟨w.heap.size + 1, 0, none⟩ = some (.int .i64 M.kind) ∧ wx.cell? ⟨w.heap.size + 1, 1, none⟩ = some (.int .i64 M.frm) ∧ wx.cell? ⟨w.heap.size + 1, 2, none⟩ = some (.int .i64 M.to) ∧ wx.cell? ⟨w.heap.size + 1, 3, none⟩ = some (.int .i64 M.a) ∧ wx.cell? ⟨w.heap.size + 1, 4, none⟩ = some (.int .i64 M.b) ∧ wx.cell? ⟨w.heap.size + 1, 5, none⟩ = some (.int .i64 M.c) ∧ wx.cell? ⟨w.heap.size + 1, 6, none⟩ = some (.int .i64 M.d) ∧ wx.cell? ⟨w.heap.size + 1, 7, none⟩ = some (.string M.s) ∧ wx.cell? ⟨w.heap.size + 1, 8, none⟩ = some (.string M.t) ∧ wx.cell? ⟨w.heap.size + 1, 9, none⟩ = some (.slice Bp mp dp) ∧ wx.cell? ⟨w.heap.size + 1, 10, none⟩ = some (.slice Bi mi di) ∧ wx.cell? ⟨w.heap.size + 1, 11, none⟩ = some (.int .i64 M.code) ∧ wx.cell? ⟨w.heap.size + 1, 12, none⟩ = some (.bool M.yes) ∧ wx.cell? ⟨w.heap.size + 1, 13, none⟩ = some (.string M.body))
set_option maxRecDepth 100000 in
set_option maxHeartbeats 12800000 in
theorem letSame_any (L M : Let) (Ap : Option Addr) (np cp : Nat) (Ai : Option Addr) (ni ci : Nat) (Bp : Option Addr) (mp dp : Nat) (Bi : Option Addr) (mi di : Nat) (C : Nat) (w : World) (hP : HasLps w C Ap np L.ps) (hI : HasLis w C Ai ni L.is) (hP' : HasLps w C Bp mp M.ps) (hI' : HasLis w C Bi mi M.is) (hC : C ≤ w.heap.size) (hn : np ≤ maxLen ∧ ni ≤ maxLen) (hm : mp ≤ maxLen ∧ mi ≤ maxLen) :
    Calls Try.prog 18 #[.agg #[.int .i64 L.kind, .int .i64 L.frm, .int .i64 L.to, .int .i64 L.a, .int .i64 L.b, .int .i64 L.c, .int .i64 L.d, .string L.s, .string L.t, .slice Ap np cp, .slice Ai ni ci, .int .i64 L.code, .bool L.yes, .string L.body], .agg #[.int .i64 M.kind, .int .i64 M.frm, .int .i64 M.to, .int .i64 M.a, .int .i64 M.b, .int .i64 M.c, .int .i64 M.d, .string M.s, .string M.t, .slice Bp mp dp, .slice Bi mi di, .int .i64 M.code, .bool M.yes, .string M.body]] w fun e w' => e = .returned (.bool (decide (L = M))) ∧ Below w.heap.size w w' := by
  have HBe : Hid (∀ wx, Below ((w.alloc (.cells #[.int .i64 L.kind, .int .i64 L.frm, .int .i64 L.to, .int .i64 L.a, .int .i64 L.b, .int .i64 L.c, .int .i64 L.d, .string L.s, .string L.t, .slice Ap np cp, .slice Ai ni ci, .int .i64 L.code, .bool L.yes, .string L.body] 26)).alloc (.cells #[.int .i64 M.kind, .int .i64 M.frm, .int .i64 M.to, .int .i64 M.a, .int .i64 M.b, .int .i64 M.c, .int .i64 M.d, .string M.s, .string M.t, .slice Bp mp dp, .slice Bi mi di, .int .i64 M.code, .bool M.yes, .string M.body] 26)).heap.size ((w.alloc (.cells #[.int .i64 L.kind, .int .i64 L.frm, .int .i64 L.to, .int .i64 L.a, .int .i64 L.b, .int .i64 L.c, .int .i64 L.d, .string L.s, .string L.t, .slice Ap np cp, .slice Ai ni ci, .int .i64 L.code, .bool L.yes, .string L.body] 26)).alloc (.cells #[.int .i64 M.kind, .int .i64 M.frm, .int .i64 M.to, .int .i64 M.a, .int .i64 M.b, .int .i64 M.c, .int .i64 M.d, .string M.s, .string M.t, .slice Bp mp dp, .slice Bi mi di, .int .i64 M.code, .bool M.yes, .string M.body] 26)) wx → Below w.heap.size w wx) := Lib.hid fun wx hx => (below_box _).trans (((below_box _).mono (by simp)).trans (hx.mono (by simp; omega)))
  have HL : Hid (∀ wx, Below ((w.alloc (.cells #[.int .i64 L.kind, .int .i64 L.frm, .int .i64 L.to, .int .i64 L.a, .int .i64 L.b, .int .i64 L.c, .int .i64 L.d, .string L.s, .string L.t, .slice Ap np cp, .slice Ai ni ci, .int .i64 L.code, .bool L.yes, .string L.body] 26)).alloc (.cells #[.int .i64 M.kind, .int .i64 M.frm, .int .i64 M.to, .int .i64 M.a, .int .i64 M.b, .int .i64 M.c, .int .i64 M.d, .string M.s, .string M.t, .slice Bp mp dp, .slice Bi mi di, .int .i64 M.code, .bool M.yes, .string M.body] 26)).heap.size ((w.alloc (.cells #[.int .i64 L.kind, .int .i64 L.frm, .int .i64 L.to, .int .i64 L.a, .int .i64 L.b, .int .i64 L.c, .int .i64 L.d, .string L.s, .string L.t, .slice Ap np cp, .slice Ai ni ci, .int .i64 L.code, .bool L.yes, .string L.body] 26)).alloc (.cells #[.int .i64 M.kind, .int .i64 M.frm, .int .i64 M.to, .int .i64 M.a, .int .i64 M.b, .int .i64 M.c, .int .i64 M.d, .string M.s, .string M.t, .slice Bp mp dp, .slice Bi mi di, .int .i64 M.code, .bool M.yes, .string M.body] 26)) wx → SS w L M Ap np cp Ai ni ci Bp mp dp Bi mi di wx) := Lib.hid fun wx hx => by
    have h1 := (Box.made w 26 #[.int .i64 L.kind, .int .i64 L.frm, .int .i64 L.to, .int .i64 L.a, .int .i64 L.b, .int .i64 L.c, .int .i64 L.d, .string L.s, .string L.t, .slice Ap np cp, .slice Ai ni ci, .int .i64 L.code, .bool L.yes, .string L.body]).alloc (.cells #[.int .i64 M.kind, .int .i64 M.frm, .int .i64 M.to, .int .i64 M.a, .int .i64 M.b, .int .i64 M.c, .int .i64 M.d, .string M.s, .string M.t, .slice Bp mp dp, .slice Bi mi di, .int .i64 M.code, .bool M.yes, .string M.body] 26)
    have h2 := Box.made (w.alloc (.cells #[.int .i64 L.kind, .int .i64 L.frm, .int .i64 L.to, .int .i64 L.a, .int .i64 L.b, .int .i64 L.c, .int .i64 L.d, .string L.s, .string L.t, .slice Ap np cp, .slice Ai ni ci, .int .i64 L.code, .bool L.yes, .string L.body] 26)) 26 #[.int .i64 M.kind, .int .i64 M.frm, .int .i64 M.to, .int .i64 M.a, .int .i64 M.b, .int .i64 M.c, .int .i64 M.d, .string M.s, .string M.t, .slice Bp mp dp, .slice Bi mi di, .int .i64 M.code, .bool M.yes, .string M.body]
    have h3 := h1.below hx (by simp; omega)
    have h4 := h2.below hx (by simp)
    rw [World.size_alloc] at h4
    exact ⟨⟨h3.cell 0, h3.cell 1, h3.cell 2, h3.cell 3, h3.cell 4, h3.cell 5, h3.cell 6, h3.cell 7, h3.cell 8, h3.cell 9, h3.cell 10, h3.cell 11, h3.cell 12, h3.cell 13⟩, h4.cell 0, h4.cell 1, h4.cell 2, h4.cell 3, h4.cell 4, h4.cell 5, h4.cell 6, h4.cell 7, h4.cell 8, h4.cell 9, h4.cell 10, h4.cell 11, h4.cell 12, h4.cell 13⟩
  have HN := Lib.hid (fun wx (hx : Below ((w.alloc (.cells #[.int .i64 L.kind, .int .i64 L.frm, .int .i64 L.to, .int .i64 L.a, .int .i64 L.b, .int .i64 L.c, .int .i64 L.d, .string L.s, .string L.t, .slice Ap np cp, .slice Ai ni ci, .int .i64 L.code, .bool L.yes, .string L.body] 26)).alloc (.cells #[.int .i64 M.kind, .int .i64 M.frm, .int .i64 M.to, .int .i64 M.a, .int .i64 M.b, .int .i64 M.c, .int .i64 M.d, .string M.s, .string M.t, .slice Bp mp dp, .slice Bi mi di, .int .i64 M.code, .bool M.yes, .string M.body] 26)).heap.size ((w.alloc (.cells #[.int .i64 L.kind, .int .i64 L.frm, .int .i64 L.to, .int .i64 L.a, .int .i64 L.b, .int .i64 L.c, .int .i64 L.d, .string L.s, .string L.t, .slice Ap np cp, .slice Ai ni ci, .int .i64 L.code, .bool L.yes, .string L.body] 26)).alloc (.cells #[.int .i64 M.kind, .int .i64 M.frm, .int .i64 M.to, .int .i64 M.a, .int .i64 M.b, .int .i64 M.c, .int .i64 M.d, .string M.s, .string M.t, .slice Bp mp dp, .slice Bi mi di, .int .i64 M.code, .bool M.yes, .string M.body] 26)) wx) => And.intro (numbers_any L Ap np cp Ai ni ci wx) (numbers_any M Bp mp dp Bi mi di wx))
  have HT := Lib.hid (fun wx (hx : Below ((w.alloc (.cells #[.int .i64 L.kind, .int .i64 L.frm, .int .i64 L.to, .int .i64 L.a, .int .i64 L.b, .int .i64 L.c, .int .i64 L.d, .string L.s, .string L.t, .slice Ap np cp, .slice Ai ni ci, .int .i64 L.code, .bool L.yes, .string L.body] 26)).alloc (.cells #[.int .i64 M.kind, .int .i64 M.frm, .int .i64 M.to, .int .i64 M.a, .int .i64 M.b, .int .i64 M.c, .int .i64 M.d, .string M.s, .string M.t, .slice Bp mp dp, .slice Bi mi di, .int .i64 M.code, .bool M.yes, .string M.body] 26)).heap.size ((w.alloc (.cells #[.int .i64 L.kind, .int .i64 L.frm, .int .i64 L.to, .int .i64 L.a, .int .i64 L.b, .int .i64 L.c, .int .i64 L.d, .string L.s, .string L.t, .slice Ap np cp, .slice Ai ni ci, .int .i64 L.code, .bool L.yes, .string L.body] 26)).alloc (.cells #[.int .i64 M.kind, .int .i64 M.frm, .int .i64 M.to, .int .i64 M.a, .int .i64 M.b, .int .i64 M.c, .int .i64 M.d, .string M.s, .string M.t, .slice Bp mp dp, .slice Bi mi di, .int .i64 M.code, .bool M.yes, .string M.body] 26)) wx) => And.intro (texts_any13 L Ap np cp Ai ni ci wx) (texts_any13 M Bp mp dp Bi mi di wx))
  obtain ⟨ep, hep⟩ : ∃ ep, decide (L.ps = M.ps) = ep := ⟨_, rfl⟩
  obtain ⟨ei, hei⟩ : ∃ ei, decide (L.is = M.is) = ei := ⟨_, rfl⟩
  have HEP : Hid (∀ wx, Below ((w.alloc (.cells #[.int .i64 L.kind, .int .i64 L.frm, .int .i64 L.to, .int .i64 L.a, .int .i64 L.b, .int .i64 L.c, .int .i64 L.d, .string L.s, .string L.t, .slice Ap np cp, .slice Ai ni ci, .int .i64 L.code, .bool L.yes, .string L.body] 26)).alloc (.cells #[.int .i64 M.kind, .int .i64 M.frm, .int .i64 M.to, .int .i64 M.a, .int .i64 M.b, .int .i64 M.c, .int .i64 M.d, .string M.s, .string M.t, .slice Bp mp dp, .slice Bi mi di, .int .i64 M.code, .bool M.yes, .string M.body] 26)).heap.size ((w.alloc (.cells #[.int .i64 L.kind, .int .i64 L.frm, .int .i64 L.to, .int .i64 L.a, .int .i64 L.b, .int .i64 L.c, .int .i64 L.d, .string L.s, .string L.t, .slice Ap np cp, .slice Ai ni ci, .int .i64 L.code, .bool L.yes, .string L.body] 26)).alloc (.cells #[.int .i64 M.kind, .int .i64 M.frm, .int .i64 M.to, .int .i64 M.a, .int .i64 M.b, .int .i64 M.c, .int .i64 M.d, .string M.s, .string M.t, .slice Bp mp dp, .slice Bi mi di, .int .i64 M.code, .bool M.yes, .string M.body] 26)) wx → Calls Try.prog 55 #[.slice Ap np cp, .slice Bp mp dp] wx fun e w' => e = .returned (.bool ep) ∧ Below wx.heap.size wx w') := Lib.hid fun wx hx => by
    rw [← hep]
    exact eqPrs_any Ap Bp np mp cp dp C C L.ps M.ps wx (hP.belowOf (HBe.out wx hx) hC) (hP'.belowOf (HBe.out wx hx) hC) hn.1 hm.1
  have HEI : Hid (∀ wx, Below ((w.alloc (.cells #[.int .i64 L.kind, .int .i64 L.frm, .int .i64 L.to, .int .i64 L.a, .int .i64 L.b, .int .i64 L.c, .int .i64 L.d, .string L.s, .string L.t, .slice Ap np cp, .slice Ai ni ci, .int .i64 L.code, .bool L.yes, .string L.body] 26)).alloc (.cells #[.int .i64 M.kind, .int .i64 M.frm, .int .i64 M.to, .int .i64 M.a, .int .i64 M.b, .int .i64 M.c, .int .i64 M.d, .string M.s, .string M.t, .slice Bp mp dp, .slice Bi mi di, .int .i64 M.code, .bool M.yes, .string M.body] 26)).heap.size ((w.alloc (.cells #[.int .i64 L.kind, .int .i64 L.frm, .int .i64 L.to, .int .i64 L.a, .int .i64 L.b, .int .i64 L.c, .int .i64 L.d, .string L.s, .string L.t, .slice Ap np cp, .slice Ai ni ci, .int .i64 L.code, .bool L.yes, .string L.body] 26)).alloc (.cells #[.int .i64 M.kind, .int .i64 M.frm, .int .i64 M.to, .int .i64 M.a, .int .i64 M.b, .int .i64 M.c, .int .i64 M.d, .string M.s, .string M.t, .slice Bp mp dp, .slice Bi mi di, .int .i64 M.code, .bool M.yes, .string M.body] 26)) wx → Calls Try.prog 56 #[.slice Ai ni ci, .slice Bi mi di] wx fun e w' => e = .returned (.bool ei) ∧ Below wx.heap.size wx w') := Lib.hid fun wx hx => by
    rw [← hei]
    exact eqIts_any Ai Bi ni mi ci di C C L.is M.is wx (hI.belowOf (HBe.out wx hx) hC) (hI'.belowOf (HBe.out wx hx) hC) hn.2 hm.2
  have heN : ∀ wx, (binOp .eql 90 (.agg #[.int .i64 L.kind, .int .i64 L.frm, .int .i64 L.to, .int .i64 L.a, .int .i64 L.b, .int .i64 L.c, .int .i64 L.d, .int .i64 L.code]) (.agg #[.int .i64 M.kind, .int .i64 M.frm, .int .i64 M.to, .int .i64 M.a, .int .i64 M.b, .int .i64 M.c, .int .i64 M.d, .int .i64 M.code])).run Try.prog wx = .ok (.bool (decide (L.nums = M.nums))) wx := fun wx => eqNums _ _ _ _ _ _ _ _ _ _ _ _ _ _ _ _ wx
  have heT : ∀ wx, (binOp .eql 92 (.agg #[.string L.s, .string L.t, .string L.body]) (.agg #[.string M.s, .string M.t, .string M.body])).run Try.prog wx = .ok (.bool (decide (L.txts = M.txts))) wx := fun wx => eqTxts _ _ _ _ _ _ wx
  clear hP hI hP' hI' hC hn hm
  by_cases e1 : L.nums = M.nums
  case neg =>
    have E : Hid (decide (L = M) = false) := Lib.hid (decide_eq_false fun e => e1 (by rw [e]))
    rw [decide_eq_false e1] at heN
    clear e1 heT hep hei
    go_enter Try.func18, Try.ntmps18
    go_upto_region 1 with fail
    have hS0 := HL.out ((w.alloc (.cells #[.int .i64 L.kind, .int .i64 L.frm, .int .i64 L.to, .int .i64 L.a, .int .i64 L.b, .int .i64 L.c, .int .i64 L.d, .string L.s, .string L.t, .slice Ap np cp, .slice Ai ni ci, .int .i64 L.code, .bool L.yes, .string L.body] 26)).alloc (.cells #[.int .i64 M.kind, .int .i64 M.frm, .int .i64 M.to, .int .i64 M.a, .int .i64 M.b, .int .i64 M.c, .int .i64 M.d, .string M.s, .string M.t, .slice Bp mp dp, .slice Bi mi di, .int .i64 M.code, .bool M.yes, .string M.body] 26)) (Below.refl _ _)
    refine wp_region_held_drew (S := SS w L M Ap np cp Ai ni ci Bp mp dp Bi mi di) (by kernel_rfl) hS0 (fun hHeld => ?_)
    clear hS0
    refine wpAnyH_take (i := 0) (oi := ⟨some 5, _, _, _, _, _⟩) (v := .agg #[.int .i64 L.kind, .int .i64 L.frm, .int .i64 L.to, .int .i64 L.a, .int .i64 L.b, .int .i64 L.c, .int .i64 L.d, .string L.s, .string L.t, .slice Ap np cp, .slice Ai ni ci, .int .i64 L.code, .bool L.yes, .string L.body]) rfl (by kernel_rfl) (by kernel_rfl) (by kernel_rfl) (fun _ _ _ h => h) (Or.inl ⟨by rfl, ?_⟩) (by assumption) ?_
    · intro w hSw; (try (unfold SS at hSw)); go_simp
    simp only [Act.put, List.setIfInBounds_toArray, List.set_cons_zero, List.set_cons_succ]
    refine wpAnyH_take (i := 2) (oi := ⟨some 7, _, _, _, _, _⟩) (v := .agg #[.int .i64 M.kind, .int .i64 M.frm, .int .i64 M.to, .int .i64 M.a, .int .i64 M.b, .int .i64 M.c, .int .i64 M.d, .string M.s, .string M.t, .slice Bp mp dp, .slice Bi mi di, .int .i64 M.code, .bool M.yes, .string M.body]) rfl (by kernel_rfl) (by kernel_rfl) (by kernel_rfl) (fun _ _ _ h => h) (Or.inl ⟨by rfl, ?_⟩) (by assumption) ?_
    · intro w hSw; (try (unfold SS at hSw)); go_simp
    simp only [Act.put, List.setIfInBounds_toArray, List.set_cons_zero, List.set_cons_succ]
    refine wpAnyH_ready (rs := [1]) (by kernel_rfl) (by simp) (AllReadyH.cons (o := ⟨some 6, _, _, _, _, _⟩) rfl (fun K hK => ?_) AllReadyH.nil)
    go_simp
    refine (HN.out _ ((Below.refl ((w.alloc (.cells #[.int .i64 L.kind, .int .i64 L.frm, .int .i64 L.to, .int .i64 L.a, .int .i64 L.b, .int .i64 L.c, .int .i64 L.d, .string L.s, .string L.t, .slice Ap np cp, .slice Ai ni ci, .int .i64 L.code, .bool L.yes, .string L.body] 26)).alloc (.cells #[.int .i64 M.kind, .int .i64 M.frm, .int .i64 M.to, .int .i64 M.a, .int .i64 M.b, .int .i64 M.c, .int .i64 M.d, .string M.s, .string M.t, .slice Bp mp dp, .slice Bi mi di, .int .i64 M.code, .bool M.yes, .string M.body] 26)).heap.size ((w.alloc (.cells #[.int .i64 L.kind, .int .i64 L.frm, .int .i64 L.to, .int .i64 L.a, .int .i64 L.b, .int .i64 L.c, .int .i64 L.d, .string L.s, .string L.t, .slice Ap np cp, .slice Ai ni ci, .int .i64 L.code, .bool L.yes, .string L.body] 26)).alloc (.cells #[.int .i64 M.kind, .int .i64 M.frm, .int .i64 M.to, .int .i64 M.a, .int .i64 M.b, .int .i64 M.c, .int .i64 M.d, .string M.s, .string M.t, .slice Bp mp dp, .slice Bi mi di, .int .i64 M.code, .bool M.yes, .string M.body] 26))).drew) ).1.mono ?_
    rintro e z1 ⟨rfl, hz1⟩
    have Hz1 : Hid (Below ((w.alloc (.cells #[.int .i64 L.kind, .int .i64 L.frm, .int .i64 L.to, .int .i64 L.a, .int .i64 L.b, .int .i64 L.c, .int .i64 L.d, .string L.s, .string L.t, .slice Ap np cp, .slice Ai ni ci, .int .i64 L.code, .bool L.yes, .string L.body] 26)).alloc (.cells #[.int .i64 M.kind, .int .i64 M.frm, .int .i64 M.to, .int .i64 M.a, .int .i64 M.b, .int .i64 M.c, .int .i64 M.d, .string M.s, .string M.t, .slice Bp mp dp, .slice Bi mi di, .int .i64 M.code, .bool M.yes, .string M.body] 26)).heap.size ((w.alloc (.cells #[.int .i64 L.kind, .int .i64 L.frm, .int .i64 L.to, .int .i64 L.a, .int .i64 L.b, .int .i64 L.c, .int .i64 L.d, .string L.s, .string L.t, .slice Ap np cp, .slice Ai ni ci, .int .i64 L.code, .bool L.yes, .string L.body] 26)).alloc (.cells #[.int .i64 M.kind, .int .i64 M.frm, .int .i64 M.to, .int .i64 M.a, .int .i64 M.b, .int .i64 M.c, .int .i64 M.d, .string M.s, .string M.t, .slice Bp mp dp, .slice Bi mi di, .int .i64 M.code, .bool M.yes, .string M.body] 26)) z1) := Lib.hid (((Below.refl ((w.alloc (.cells #[.int .i64 L.kind, .int .i64 L.frm, .int .i64 L.to, .int .i64 L.a, .int .i64 L.b, .int .i64 L.c, .int .i64 L.d, .string L.s, .string L.t, .slice Ap np cp, .slice Ai ni ci, .int .i64 L.code, .bool L.yes, .string L.body] 26)).alloc (.cells #[.int .i64 M.kind, .int .i64 M.frm, .int .i64 M.to, .int .i64 M.a, .int .i64 M.b, .int .i64 M.c, .int .i64 M.d, .string M.s, .string M.t, .slice Bp mp dp, .slice Bi mi di, .int .i64 M.code, .bool M.yes, .string M.body] 26)).heap.size ((w.alloc (.cells #[.int .i64 L.kind, .int .i64 L.frm, .int .i64 L.to, .int .i64 L.a, .int .i64 L.b, .int .i64 L.c, .int .i64 L.d, .string L.s, .string L.t, .slice Ap np cp, .slice Ai ni ci, .int .i64 L.code, .bool L.yes, .string L.body] 26)).alloc (.cells #[.int .i64 M.kind, .int .i64 M.frm, .int .i64 M.to, .int .i64 M.a, .int .i64 M.b, .int .i64 M.c, .int .i64 M.d, .string M.s, .string M.t, .slice Bp mp dp, .slice Bi mi di, .int .i64 M.code, .bool M.yes, .string M.body] 26))).drew).trans (hz1.mono ((Below.refl ((w.alloc (.cells #[.int .i64 L.kind, .int .i64 L.frm, .int .i64 L.to, .int .i64 L.a, .int .i64 L.b, .int .i64 L.c, .int .i64 L.d, .string L.s, .string L.t, .slice Ap np cp, .slice Ai ni ci, .int .i64 L.code, .bool L.yes, .string L.body] 26)).alloc (.cells #[.int .i64 M.kind, .int .i64 M.frm, .int .i64 M.to, .int .i64 M.a, .int .i64 M.b, .int .i64 M.c, .int .i64 M.d, .string M.s, .string M.t, .slice Bp mp dp, .slice Bi mi di, .int .i64 M.code, .bool M.yes, .string M.body] 26)).heap.size ((w.alloc (.cells #[.int .i64 L.kind, .int .i64 L.frm, .int .i64 L.to, .int .i64 L.a, .int .i64 L.b, .int .i64 L.c, .int .i64 L.d, .string L.s, .string L.t, .slice Ap np cp, .slice Ai ni ci, .int .i64 L.code, .bool L.yes, .string L.body] 26)).alloc (.cells #[.int .i64 M.kind, .int .i64 M.frm, .int .i64 M.to, .int .i64 M.a, .int .i64 M.b, .int .i64 M.c, .int .i64 M.d, .string M.s, .string M.t, .slice Bp mp dp, .slice Bi mi di, .int .i64 M.code, .bool M.yes, .string M.body] 26))).drew).size))
    clear hz1
    refine hK.out _ _ (HL.out z1 Hz1.out) (fun _ => ?_)
    clear hK K
    refine wpAnyH_ready (rs := [3]) (by kernel_rfl) (by simp) (AllReadyH.cons (o := ⟨some 8, _, _, _, _, _⟩) rfl (fun K hK => ?_) AllReadyH.nil)
    go_simp
    refine (HN.out _ (Hz1.out) ).2.mono ?_
    rintro e z2 ⟨rfl, hz2⟩
    have Hz2 : Hid (Below ((w.alloc (.cells #[.int .i64 L.kind, .int .i64 L.frm, .int .i64 L.to, .int .i64 L.a, .int .i64 L.b, .int .i64 L.c, .int .i64 L.d, .string L.s, .string L.t, .slice Ap np cp, .slice Ai ni ci, .int .i64 L.code, .bool L.yes, .string L.body] 26)).alloc (.cells #[.int .i64 M.kind, .int .i64 M.frm, .int .i64 M.to, .int .i64 M.a, .int .i64 M.b, .int .i64 M.c, .int .i64 M.d, .string M.s, .string M.t, .slice Bp mp dp, .slice Bi mi di, .int .i64 M.code, .bool M.yes, .string M.body] 26)).heap.size ((w.alloc (.cells #[.int .i64 L.kind, .int .i64 L.frm, .int .i64 L.to, .int .i64 L.a, .int .i64 L.b, .int .i64 L.c, .int .i64 L.d, .string L.s, .string L.t, .slice Ap np cp, .slice Ai ni ci, .int .i64 L.code, .bool L.yes, .string L.body] 26)).alloc (.cells #[.int .i64 M.kind, .int .i64 M.frm, .int .i64 M.to, .int .i64 M.a, .int .i64 M.b, .int .i64 M.c, .int .i64 M.d, .string M.s, .string M.t, .slice Bp mp dp, .slice Bi mi di, .int .i64 M.code, .bool M.yes, .string M.body] 26)) z2) := Lib.hid ((Hz1.out).trans (hz2.mono (Hz1.out).size))
    clear hz2
    refine hK.out _ _ (HL.out z2 Hz2.out) (fun _ => ?_)
    clear hK K
    refine wpAnyH_take (i := 4) (oi := ⟨some 9, _, _, _, _, _⟩) (v := .bool false) rfl (by kernel_rfl) (by kernel_rfl) (by kernel_rfl) (fun _ _ _ h => h) (Or.inl ⟨by rfl, ?_⟩) (by assumption) ?_
    · intro w hSw; (try (unfold SS at hSw)); go_simp
    simp only [Act.put, List.setIfInBounds_toArray, List.set_cons_zero, List.set_cons_succ]
    refine wpAnyH_take (i := 5) (oi := ⟨some 10, _, _, _, _, _⟩) (v := .bool false) rfl (by kernel_rfl) (by kernel_rfl) (by kernel_rfl) (fun _ _ _ h => h) (Or.inl ⟨by rfl, ?_⟩) (by assumption) ?_
    · intro w hSw; (try (unfold SS at hSw)); go_simp
    simp only [Act.put, List.setIfInBounds_toArray, List.set_cons_zero, List.set_cons_succ]
    refine wpAnyH_take (i := 6) (oi := ⟨some 11, _, _, _, _, _⟩) (v := undef) rfl (by kernel_rfl) (by kernel_rfl) (by kernel_rfl) (fun _ _ _ h => h) (Or.inr ⟨by rfl, rfl⟩) (by assumption) ?_
    simp only [Act.put, List.setIfInBounds_toArray, List.set_cons_zero, List.set_cons_succ]
    refine wpAnyH_take (i := 7) (oi := ⟨some 12, _, _, _, _, _⟩) (v := undef) rfl (by kernel_rfl) (by kernel_rfl) (by kernel_rfl) (fun _ _ _ h => h) (Or.inr ⟨by rfl, rfl⟩) (by assumption) ?_
    simp only [Act.put, List.setIfInBounds_toArray, List.set_cons_zero, List.set_cons_succ]
    refine wpAnyH_take (i := 8) (oi := ⟨some 13, _, _, _, _, _⟩) (v := undef) rfl (by kernel_rfl) (by kernel_rfl) (by kernel_rfl) (fun _ _ _ h => h) (Or.inr ⟨by rfl, rfl⟩) (by assumption) ?_
    simp only [Act.put, List.setIfInBounds_toArray, List.set_cons_zero, List.set_cons_succ]
    refine wpAnyH_take (i := 9) (oi := ⟨some 14, _, _, _, _, _⟩) (v := undef) rfl (by kernel_rfl) (by kernel_rfl) (by kernel_rfl) (fun _ _ _ h => h) (Or.inr ⟨by rfl, rfl⟩) (by assumption) ?_
    simp only [Act.put, List.setIfInBounds_toArray, List.set_cons_zero, List.set_cons_succ]
    refine wpAnyH_take (i := 10) (oi := ⟨some 15, _, _, _, _, _⟩) (v := undef) rfl (by kernel_rfl) (by kernel_rfl) (by kernel_rfl) (fun _ _ _ h => h) (Or.inr ⟨by rfl, rfl⟩) (by assumption) ?_
    simp only [Act.put, List.setIfInBounds_toArray, List.set_cons_zero, List.set_cons_succ]
    refine wpAnyH_take (i := 11) (oi := ⟨some 16, _, _, _, _, _⟩) (v := .bool false) rfl (by kernel_rfl) (by kernel_rfl) (by kernel_rfl) (fun _ _ _ h => h) (Or.inl ⟨by rfl, ?_⟩) (by assumption) ?_
    · intro w hSw; (try (unfold SS at hSw)); go_simp
    simp only [Act.put, List.setIfInBounds_toArray, List.set_cons_zero, List.set_cons_succ]
    refine wpAnyH_take (i := 12) (oi := ⟨some 17, _, _, _, _, _⟩) (v := .bool false) rfl (by kernel_rfl) (by kernel_rfl) (by kernel_rfl) (fun _ _ _ h => h) (Or.inl ⟨by rfl, ?_⟩) (by assumption) ?_
    · intro w hSw; (try (unfold SS at hSw)); go_simp
    simp only [Act.put, List.setIfInBounds_toArray, List.set_cons_zero, List.set_cons_succ]
    refine wpAnyH_take (i := 13) (oi := ⟨some 18, _, _, _, _, _⟩) (v := undef) rfl (by kernel_rfl) (by kernel_rfl) (by kernel_rfl) (fun _ _ _ h => h) (Or.inr ⟨by rfl, rfl⟩) (by assumption) ?_
    simp only [Act.put, List.setIfInBounds_toArray, List.set_cons_zero, List.set_cons_succ]
    refine wpAnyH_take (i := 15) (oi := ⟨some 20, _, _, _, _, _⟩) (v := undef) rfl (by kernel_rfl) (by kernel_rfl) (by kernel_rfl) (fun _ _ _ h => h) (Or.inr ⟨by rfl, rfl⟩) (by assumption) ?_
    simp only [Act.put, List.setIfInBounds_toArray, List.set_cons_zero, List.set_cons_succ]
    refine wpAnyH_take (i := 14) (oi := ⟨some 19, _, _, _, _, _⟩) (v := undef) rfl (by kernel_rfl) (by kernel_rfl) (by kernel_rfl) (fun _ _ _ h => h) (Or.inr ⟨by rfl, rfl⟩) (by assumption) ?_
    simp only [Act.put, List.setIfInBounds_toArray, List.set_cons_zero, List.set_cons_succ]
    refine wpAnyH_take (i := 16) (oi := ⟨some 21, _, _, _, _, _⟩) (v := undef) rfl (by kernel_rfl) (by kernel_rfl) (by kernel_rfl) (fun _ _ _ h => h) (Or.inr ⟨by rfl, rfl⟩) (by assumption) ?_
    simp only [Act.put, List.setIfInBounds_toArray, List.set_cons_zero, List.set_cons_succ]
    refine wpAnyH_take (i := 17) (oi := ⟨some 22, _, _, _, _, _⟩) (v := undef) rfl (by kernel_rfl) (by kernel_rfl) (by kernel_rfl) (fun _ _ _ h => h) (Or.inr ⟨by rfl, rfl⟩) (by assumption) ?_
    simp only [Act.put, List.setIfInBounds_toArray, List.set_cons_zero, List.set_cons_succ]
    refine wpAnyH_take (i := 18) (oi := ⟨some 23, _, _, _, _, _⟩) (v := .bool false) rfl (by kernel_rfl) (by kernel_rfl) (by kernel_rfl) (fun _ _ _ h => h) (Or.inl ⟨by rfl, ?_⟩) (by assumption) ?_
    · intro w hSw; (try (unfold SS at hSw)); go_simp
    simp only [Act.put, List.setIfInBounds_toArray, List.set_cons_zero, List.set_cons_succ]
    refine wpAnyH_take (i := 19) (oi := ⟨some 24, _, _, _, _, _⟩) (v := .bool false) rfl (by kernel_rfl) (by kernel_rfl) (by kernel_rfl) (fun _ _ _ h => h) (Or.inl ⟨by rfl, ?_⟩) (by assumption) ?_
    · intro w hSw; (try (unfold SS at hSw)); go_simp
    simp only [Act.put, List.setIfInBounds_toArray, List.set_cons_zero, List.set_cons_succ]
    refine wpAnyH_take (i := 20) (oi := ⟨some 25, _, _, _, _, _⟩) (v := undef) rfl (by kernel_rfl) (by kernel_rfl) (by kernel_rfl) (fun _ _ _ h => h) (Or.inr ⟨by rfl, rfl⟩) (by assumption) ?_
    simp only [Act.put, List.setIfInBounds_toArray, List.set_cons_zero, List.set_cons_succ]
    refine wpAnyH_take (i := 21) (oi := ⟨some 26, _, _, _, _, _⟩) (v := undef) rfl (by kernel_rfl) (by kernel_rfl) (by kernel_rfl) (fun _ _ _ h => h) (Or.inr ⟨by rfl, rfl⟩) (by assumption) ?_
    simp only [Act.put, List.setIfInBounds_toArray, List.set_cons_zero, List.set_cons_succ]
    refine wpAnyH_take (i := 22) (oi := ⟨some 27, _, _, _, _, _⟩) (v := undef) rfl (by kernel_rfl) (by kernel_rfl) (by kernel_rfl) (fun _ _ _ h => h) (Or.inr ⟨by rfl, rfl⟩) (by assumption) ?_
    simp only [Act.put, List.setIfInBounds_toArray, List.set_cons_zero, List.set_cons_succ]
    refine wpAnyH_take (i := 23) (oi := ⟨some 28, _, _, _, _, _⟩) (v := undef) rfl (by kernel_rfl) (by kernel_rfl) (by kernel_rfl) (fun _ _ _ h => h) (Or.inr ⟨by rfl, rfl⟩) (by assumption) ?_
    simp only [Act.put, List.setIfInBounds_toArray, List.set_cons_zero, List.set_cons_succ]
    refine wpAnyH_take (i := 24) (oi := ⟨some 29, _, _, _, _, _⟩) (v := undef) rfl (by kernel_rfl) (by kernel_rfl) (by kernel_rfl) (fun _ _ _ h => h) (Or.inr ⟨by rfl, rfl⟩) (by assumption) ?_
    simp only [Act.put, List.setIfInBounds_toArray, List.set_cons_zero, List.set_cons_succ]
    refine wpAnyH_take (i := 25) (oi := ⟨some 30, _, _, _, _, _⟩) (v := .bool false) rfl (by kernel_rfl) (by kernel_rfl) (by kernel_rfl) (fun _ _ _ h => h) (Or.inl ⟨by rfl, ?_⟩) (by assumption) ?_
    · intro w hSw; (try (unfold SS at hSw)); go_simp
    simp only [Act.put, List.setIfInBounds_toArray, List.set_cons_zero, List.set_cons_succ]
    refine wpAnyH_take (i := 26) (oi := ⟨some 31, _, _, _, _, _⟩) (v := .bool false) rfl (by kernel_rfl) (by kernel_rfl) (by kernel_rfl) (fun _ _ _ h => h) (Or.inl ⟨by rfl, ?_⟩) (by assumption) ?_
    · intro w hSw; (try (unfold SS at hSw)); go_simp
    simp only [Act.put, List.setIfInBounds_toArray, List.set_cons_zero, List.set_cons_succ]
    refine wpAnyH_take (i := 27) (oi := ⟨some 32, _, _, _, _, _⟩) (v := undef) rfl (by kernel_rfl) (by kernel_rfl) (by kernel_rfl) (fun _ _ _ h => h) (Or.inr ⟨by rfl, rfl⟩) (by assumption) ?_
    simp only [Act.put, List.setIfInBounds_toArray, List.set_cons_zero, List.set_cons_succ]
    refine wpAnyH_take (i := 28) (oi := ⟨some 33, _, _, _, _, _⟩) (v := undef) rfl (by kernel_rfl) (by kernel_rfl) (by kernel_rfl) (fun _ _ _ h => h) (Or.inr ⟨by rfl, rfl⟩) (by assumption) ?_
    simp only [Act.put, List.setIfInBounds_toArray, List.set_cons_zero, List.set_cons_succ]
    refine wpAnyH_take (i := 29) (oi := ⟨some 34, _, _, _, _, _⟩) (v := undef) rfl (by kernel_rfl) (by kernel_rfl) (by kernel_rfl) (fun _ _ _ h => h) (Or.inr ⟨by rfl, rfl⟩) (by assumption) ?_
    simp only [Act.put, List.setIfInBounds_toArray, List.set_cons_zero, List.set_cons_succ]
    refine wpAnyH_take (i := 30) (oi := ⟨some 35, _, _, _, _, _⟩) (v := undef) rfl (by kernel_rfl) (by kernel_rfl) (by kernel_rfl) (fun _ _ _ h => h) (Or.inr ⟨by rfl, rfl⟩) (by assumption) ?_
    simp only [Act.put, List.setIfInBounds_toArray, List.set_cons_zero, List.set_cons_succ]
    refine wpAnyH_take (i := 31) (oi := ⟨some 36, _, _, _, _, _⟩) (v := undef) rfl (by kernel_rfl) (by kernel_rfl) (by kernel_rfl) (fun _ _ _ h => h) (Or.inr ⟨by rfl, rfl⟩) (by assumption) ?_
    simp only [Act.put, List.setIfInBounds_toArray, List.set_cons_zero, List.set_cons_succ]
    refine wpAnyH_take (i := 32) (oi := ⟨some 37, _, _, _, _, _⟩) (v := .bool false) rfl (by kernel_rfl) (by kernel_rfl) (by kernel_rfl) (fun _ _ _ h => h) (Or.inl ⟨by rfl, ?_⟩) (by assumption) ?_
    · intro w hSw; (try (unfold SS at hSw)); go_simp
    simp only [Act.put, List.setIfInBounds_toArray, List.set_cons_zero, List.set_cons_succ]
    refine wpAnyH_take (i := 33) (oi := ⟨some 4, _, _, _, _, _⟩) (v := .bool false) rfl (by kernel_rfl) (by kernel_rfl) (by kernel_rfl) (fun _ _ _ h => h) (Or.inl ⟨by rfl, ?_⟩) (by assumption) ?_
    · intro w hSw; (try (unfold SS at hSw)); go_simp
    simp only [Act.put, List.setIfInBounds_toArray, List.set_cons_zero, List.set_cons_succ]
    refine wpAnyH_done (by kernel_rfl) ?_ _
    go_wp2
    go_ret
    exact ⟨ret_bool (by rw [E.out]), HBe.out _ Hz2.out⟩
  rw [decide_eq_true e1] at heN
  by_cases e2 : L.yes = M.yes
  case neg =>
    have E : Hid (decide (L = M) = false) := Lib.hid (decide_eq_false fun e => e2 (by rw [e]))
    have hy : (L.yes == M.yes) = false := by simpa using e2
    clear e1 e2 heT hep hei
    go_enter Try.func18, Try.ntmps18
    go_upto_region 1 with fail
    have hS0 := HL.out ((w.alloc (.cells #[.int .i64 L.kind, .int .i64 L.frm, .int .i64 L.to, .int .i64 L.a, .int .i64 L.b, .int .i64 L.c, .int .i64 L.d, .string L.s, .string L.t, .slice Ap np cp, .slice Ai ni ci, .int .i64 L.code, .bool L.yes, .string L.body] 26)).alloc (.cells #[.int .i64 M.kind, .int .i64 M.frm, .int .i64 M.to, .int .i64 M.a, .int .i64 M.b, .int .i64 M.c, .int .i64 M.d, .string M.s, .string M.t, .slice Bp mp dp, .slice Bi mi di, .int .i64 M.code, .bool M.yes, .string M.body] 26)) (Below.refl _ _)
    refine wp_region_held_drew (S := SS w L M Ap np cp Ai ni ci Bp mp dp Bi mi di) (by kernel_rfl) hS0 (fun hHeld => ?_)
    clear hS0
    refine wpAnyH_take (i := 0) (oi := ⟨some 5, _, _, _, _, _⟩) (v := .agg #[.int .i64 L.kind, .int .i64 L.frm, .int .i64 L.to, .int .i64 L.a, .int .i64 L.b, .int .i64 L.c, .int .i64 L.d, .string L.s, .string L.t, .slice Ap np cp, .slice Ai ni ci, .int .i64 L.code, .bool L.yes, .string L.body]) rfl (by kernel_rfl) (by kernel_rfl) (by kernel_rfl) (fun _ _ _ h => h) (Or.inl ⟨by rfl, ?_⟩) (by assumption) ?_
    · intro w hSw; (try (unfold SS at hSw)); go_simp
    simp only [Act.put, List.setIfInBounds_toArray, List.set_cons_zero, List.set_cons_succ]
    refine wpAnyH_take (i := 2) (oi := ⟨some 7, _, _, _, _, _⟩) (v := .agg #[.int .i64 M.kind, .int .i64 M.frm, .int .i64 M.to, .int .i64 M.a, .int .i64 M.b, .int .i64 M.c, .int .i64 M.d, .string M.s, .string M.t, .slice Bp mp dp, .slice Bi mi di, .int .i64 M.code, .bool M.yes, .string M.body]) rfl (by kernel_rfl) (by kernel_rfl) (by kernel_rfl) (fun _ _ _ h => h) (Or.inl ⟨by rfl, ?_⟩) (by assumption) ?_
    · intro w hSw; (try (unfold SS at hSw)); go_simp
    simp only [Act.put, List.setIfInBounds_toArray, List.set_cons_zero, List.set_cons_succ]
    refine wpAnyH_ready (rs := [1]) (by kernel_rfl) (by simp) (AllReadyH.cons (o := ⟨some 6, _, _, _, _, _⟩) rfl (fun K hK => ?_) AllReadyH.nil)
    go_simp
    refine (HN.out _ ((Below.refl ((w.alloc (.cells #[.int .i64 L.kind, .int .i64 L.frm, .int .i64 L.to, .int .i64 L.a, .int .i64 L.b, .int .i64 L.c, .int .i64 L.d, .string L.s, .string L.t, .slice Ap np cp, .slice Ai ni ci, .int .i64 L.code, .bool L.yes, .string L.body] 26)).alloc (.cells #[.int .i64 M.kind, .int .i64 M.frm, .int .i64 M.to, .int .i64 M.a, .int .i64 M.b, .int .i64 M.c, .int .i64 M.d, .string M.s, .string M.t, .slice Bp mp dp, .slice Bi mi di, .int .i64 M.code, .bool M.yes, .string M.body] 26)).heap.size ((w.alloc (.cells #[.int .i64 L.kind, .int .i64 L.frm, .int .i64 L.to, .int .i64 L.a, .int .i64 L.b, .int .i64 L.c, .int .i64 L.d, .string L.s, .string L.t, .slice Ap np cp, .slice Ai ni ci, .int .i64 L.code, .bool L.yes, .string L.body] 26)).alloc (.cells #[.int .i64 M.kind, .int .i64 M.frm, .int .i64 M.to, .int .i64 M.a, .int .i64 M.b, .int .i64 M.c, .int .i64 M.d, .string M.s, .string M.t, .slice Bp mp dp, .slice Bi mi di, .int .i64 M.code, .bool M.yes, .string M.body] 26))).drew) ).1.mono ?_
    rintro e z1 ⟨rfl, hz1⟩
    have Hz1 : Hid (Below ((w.alloc (.cells #[.int .i64 L.kind, .int .i64 L.frm, .int .i64 L.to, .int .i64 L.a, .int .i64 L.b, .int .i64 L.c, .int .i64 L.d, .string L.s, .string L.t, .slice Ap np cp, .slice Ai ni ci, .int .i64 L.code, .bool L.yes, .string L.body] 26)).alloc (.cells #[.int .i64 M.kind, .int .i64 M.frm, .int .i64 M.to, .int .i64 M.a, .int .i64 M.b, .int .i64 M.c, .int .i64 M.d, .string M.s, .string M.t, .slice Bp mp dp, .slice Bi mi di, .int .i64 M.code, .bool M.yes, .string M.body] 26)).heap.size ((w.alloc (.cells #[.int .i64 L.kind, .int .i64 L.frm, .int .i64 L.to, .int .i64 L.a, .int .i64 L.b, .int .i64 L.c, .int .i64 L.d, .string L.s, .string L.t, .slice Ap np cp, .slice Ai ni ci, .int .i64 L.code, .bool L.yes, .string L.body] 26)).alloc (.cells #[.int .i64 M.kind, .int .i64 M.frm, .int .i64 M.to, .int .i64 M.a, .int .i64 M.b, .int .i64 M.c, .int .i64 M.d, .string M.s, .string M.t, .slice Bp mp dp, .slice Bi mi di, .int .i64 M.code, .bool M.yes, .string M.body] 26)) z1) := Lib.hid (((Below.refl ((w.alloc (.cells #[.int .i64 L.kind, .int .i64 L.frm, .int .i64 L.to, .int .i64 L.a, .int .i64 L.b, .int .i64 L.c, .int .i64 L.d, .string L.s, .string L.t, .slice Ap np cp, .slice Ai ni ci, .int .i64 L.code, .bool L.yes, .string L.body] 26)).alloc (.cells #[.int .i64 M.kind, .int .i64 M.frm, .int .i64 M.to, .int .i64 M.a, .int .i64 M.b, .int .i64 M.c, .int .i64 M.d, .string M.s, .string M.t, .slice Bp mp dp, .slice Bi mi di, .int .i64 M.code, .bool M.yes, .string M.body] 26)).heap.size ((w.alloc (.cells #[.int .i64 L.kind, .int .i64 L.frm, .int .i64 L.to, .int .i64 L.a, .int .i64 L.b, .int .i64 L.c, .int .i64 L.d, .string L.s, .string L.t, .slice Ap np cp, .slice Ai ni ci, .int .i64 L.code, .bool L.yes, .string L.body] 26)).alloc (.cells #[.int .i64 M.kind, .int .i64 M.frm, .int .i64 M.to, .int .i64 M.a, .int .i64 M.b, .int .i64 M.c, .int .i64 M.d, .string M.s, .string M.t, .slice Bp mp dp, .slice Bi mi di, .int .i64 M.code, .bool M.yes, .string M.body] 26))).drew).trans (hz1.mono ((Below.refl ((w.alloc (.cells #[.int .i64 L.kind, .int .i64 L.frm, .int .i64 L.to, .int .i64 L.a, .int .i64 L.b, .int .i64 L.c, .int .i64 L.d, .string L.s, .string L.t, .slice Ap np cp, .slice Ai ni ci, .int .i64 L.code, .bool L.yes, .string L.body] 26)).alloc (.cells #[.int .i64 M.kind, .int .i64 M.frm, .int .i64 M.to, .int .i64 M.a, .int .i64 M.b, .int .i64 M.c, .int .i64 M.d, .string M.s, .string M.t, .slice Bp mp dp, .slice Bi mi di, .int .i64 M.code, .bool M.yes, .string M.body] 26)).heap.size ((w.alloc (.cells #[.int .i64 L.kind, .int .i64 L.frm, .int .i64 L.to, .int .i64 L.a, .int .i64 L.b, .int .i64 L.c, .int .i64 L.d, .string L.s, .string L.t, .slice Ap np cp, .slice Ai ni ci, .int .i64 L.code, .bool L.yes, .string L.body] 26)).alloc (.cells #[.int .i64 M.kind, .int .i64 M.frm, .int .i64 M.to, .int .i64 M.a, .int .i64 M.b, .int .i64 M.c, .int .i64 M.d, .string M.s, .string M.t, .slice Bp mp dp, .slice Bi mi di, .int .i64 M.code, .bool M.yes, .string M.body] 26))).drew).size))
    clear hz1
    refine hK.out _ _ (HL.out z1 Hz1.out) (fun _ => ?_)
    clear hK K
    refine wpAnyH_ready (rs := [3]) (by kernel_rfl) (by simp) (AllReadyH.cons (o := ⟨some 8, _, _, _, _, _⟩) rfl (fun K hK => ?_) AllReadyH.nil)
    go_simp
    refine (HN.out _ (Hz1.out) ).2.mono ?_
    rintro e z2 ⟨rfl, hz2⟩
    have Hz2 : Hid (Below ((w.alloc (.cells #[.int .i64 L.kind, .int .i64 L.frm, .int .i64 L.to, .int .i64 L.a, .int .i64 L.b, .int .i64 L.c, .int .i64 L.d, .string L.s, .string L.t, .slice Ap np cp, .slice Ai ni ci, .int .i64 L.code, .bool L.yes, .string L.body] 26)).alloc (.cells #[.int .i64 M.kind, .int .i64 M.frm, .int .i64 M.to, .int .i64 M.a, .int .i64 M.b, .int .i64 M.c, .int .i64 M.d, .string M.s, .string M.t, .slice Bp mp dp, .slice Bi mi di, .int .i64 M.code, .bool M.yes, .string M.body] 26)).heap.size ((w.alloc (.cells #[.int .i64 L.kind, .int .i64 L.frm, .int .i64 L.to, .int .i64 L.a, .int .i64 L.b, .int .i64 L.c, .int .i64 L.d, .string L.s, .string L.t, .slice Ap np cp, .slice Ai ni ci, .int .i64 L.code, .bool L.yes, .string L.body] 26)).alloc (.cells #[.int .i64 M.kind, .int .i64 M.frm, .int .i64 M.to, .int .i64 M.a, .int .i64 M.b, .int .i64 M.c, .int .i64 M.d, .string M.s, .string M.t, .slice Bp mp dp, .slice Bi mi di, .int .i64 M.code, .bool M.yes, .string M.body] 26)) z2) := Lib.hid ((Hz1.out).trans (hz2.mono (Hz1.out).size))
    clear hz2
    refine hK.out _ _ (HL.out z2 Hz2.out) (fun _ => ?_)
    clear hK K
    refine wpAnyH_take (i := 4) (oi := ⟨some 9, _, _, _, _, _⟩) (v := .bool true) rfl (by kernel_rfl) (by kernel_rfl) (by kernel_rfl) (fun _ _ _ h => h) (Or.inl ⟨by rfl, ?_⟩) (by assumption) ?_
    · intro w hSw; (try (unfold SS at hSw)); go_simp
    simp only [Act.put, List.setIfInBounds_toArray, List.set_cons_zero, List.set_cons_succ]
    refine wpAnyH_take (i := 5) (oi := ⟨some 10, _, _, _, _, _⟩) (v := .bool true) rfl (by kernel_rfl) (by kernel_rfl) (by kernel_rfl) (fun _ _ _ h => h) (Or.inl ⟨by rfl, ?_⟩) (by assumption) ?_
    · intro w hSw; (try (unfold SS at hSw)); go_simp
    simp only [Act.put, List.setIfInBounds_toArray, List.set_cons_zero, List.set_cons_succ]
    refine wpAnyH_take (i := 6) (oi := ⟨some 11, _, _, _, _, _⟩) (v := .pointer (some ⟨w.heap.size, 12, none⟩)) rfl (by kernel_rfl) (by kernel_rfl) (by kernel_rfl) (fun _ _ _ h => h) (Or.inl ⟨by rfl, ?_⟩) (by assumption) ?_
    · intro w hSw; (try (unfold SS at hSw)); go_simp
    simp only [Act.put, List.setIfInBounds_toArray, List.set_cons_zero, List.set_cons_succ]
    refine wpAnyH_take (i := 7) (oi := ⟨some 12, _, _, _, _, _⟩) (v := .bool L.yes) rfl (by kernel_rfl) (by kernel_rfl) (by kernel_rfl) (fun _ _ _ h => h) (Or.inl ⟨by rfl, ?_⟩) (by assumption) ?_
    · intro w hSw; (try (unfold SS at hSw)); go_simp
    simp only [Act.put, List.setIfInBounds_toArray, List.set_cons_zero, List.set_cons_succ]
    refine wpAnyH_take (i := 8) (oi := ⟨some 13, _, _, _, _, _⟩) (v := .pointer (some ⟨w.heap.size + 1, 12, none⟩)) rfl (by kernel_rfl) (by kernel_rfl) (by kernel_rfl) (fun _ _ _ h => h) (Or.inl ⟨by rfl, ?_⟩) (by assumption) ?_
    · intro w hSw; (try (unfold SS at hSw)); go_simp
    simp only [Act.put, List.setIfInBounds_toArray, List.set_cons_zero, List.set_cons_succ]
    refine wpAnyH_take (i := 9) (oi := ⟨some 14, _, _, _, _, _⟩) (v := .bool M.yes) rfl (by kernel_rfl) (by kernel_rfl) (by kernel_rfl) (fun _ _ _ h => h) (Or.inl ⟨by rfl, ?_⟩) (by assumption) ?_
    · intro w hSw; (try (unfold SS at hSw)); go_simp
    simp only [Act.put, List.setIfInBounds_toArray, List.set_cons_zero, List.set_cons_succ]
    refine wpAnyH_take (i := 10) (oi := ⟨some 15, _, _, _, _, _⟩) (v := .bool false) rfl (by kernel_rfl) (by kernel_rfl) (by kernel_rfl) (fun _ _ _ h => h) (Or.inl ⟨by rfl, ?_⟩) (by assumption) ?_
    · intro w hSw; (try (unfold SS at hSw)); go_simp
    simp only [Act.put, List.setIfInBounds_toArray, List.set_cons_zero, List.set_cons_succ]
    refine wpAnyH_take (i := 11) (oi := ⟨some 16, _, _, _, _, _⟩) (v := .bool false) rfl (by kernel_rfl) (by kernel_rfl) (by kernel_rfl) (fun _ _ _ h => h) (Or.inl ⟨by rfl, ?_⟩) (by assumption) ?_
    · intro w hSw; (try (unfold SS at hSw)); go_simp
    simp only [Act.put, List.setIfInBounds_toArray, List.set_cons_zero, List.set_cons_succ]
    refine wpAnyH_take (i := 12) (oi := ⟨some 17, _, _, _, _, _⟩) (v := .bool false) rfl (by kernel_rfl) (by kernel_rfl) (by kernel_rfl) (fun _ _ _ h => h) (Or.inl ⟨by rfl, ?_⟩) (by assumption) ?_
    · intro w hSw; (try (unfold SS at hSw)); go_simp
    simp only [Act.put, List.setIfInBounds_toArray, List.set_cons_zero, List.set_cons_succ]
    refine wpAnyH_take (i := 13) (oi := ⟨some 18, _, _, _, _, _⟩) (v := undef) rfl (by kernel_rfl) (by kernel_rfl) (by kernel_rfl) (fun _ _ _ h => h) (Or.inr ⟨by rfl, rfl⟩) (by assumption) ?_
    simp only [Act.put, List.setIfInBounds_toArray, List.set_cons_zero, List.set_cons_succ]
    refine wpAnyH_take (i := 15) (oi := ⟨some 20, _, _, _, _, _⟩) (v := undef) rfl (by kernel_rfl) (by kernel_rfl) (by kernel_rfl) (fun _ _ _ h => h) (Or.inr ⟨by rfl, rfl⟩) (by assumption) ?_
    simp only [Act.put, List.setIfInBounds_toArray, List.set_cons_zero, List.set_cons_succ]
    refine wpAnyH_take (i := 14) (oi := ⟨some 19, _, _, _, _, _⟩) (v := undef) rfl (by kernel_rfl) (by kernel_rfl) (by kernel_rfl) (fun _ _ _ h => h) (Or.inr ⟨by rfl, rfl⟩) (by assumption) ?_
    simp only [Act.put, List.setIfInBounds_toArray, List.set_cons_zero, List.set_cons_succ]
    refine wpAnyH_take (i := 16) (oi := ⟨some 21, _, _, _, _, _⟩) (v := undef) rfl (by kernel_rfl) (by kernel_rfl) (by kernel_rfl) (fun _ _ _ h => h) (Or.inr ⟨by rfl, rfl⟩) (by assumption) ?_
    simp only [Act.put, List.setIfInBounds_toArray, List.set_cons_zero, List.set_cons_succ]
    refine wpAnyH_take (i := 17) (oi := ⟨some 22, _, _, _, _, _⟩) (v := undef) rfl (by kernel_rfl) (by kernel_rfl) (by kernel_rfl) (fun _ _ _ h => h) (Or.inr ⟨by rfl, rfl⟩) (by assumption) ?_
    simp only [Act.put, List.setIfInBounds_toArray, List.set_cons_zero, List.set_cons_succ]
    refine wpAnyH_take (i := 18) (oi := ⟨some 23, _, _, _, _, _⟩) (v := .bool false) rfl (by kernel_rfl) (by kernel_rfl) (by kernel_rfl) (fun _ _ _ h => h) (Or.inl ⟨by rfl, ?_⟩) (by assumption) ?_
    · intro w hSw; (try (unfold SS at hSw)); go_simp
    simp only [Act.put, List.setIfInBounds_toArray, List.set_cons_zero, List.set_cons_succ]
    refine wpAnyH_take (i := 19) (oi := ⟨some 24, _, _, _, _, _⟩) (v := .bool false) rfl (by kernel_rfl) (by kernel_rfl) (by kernel_rfl) (fun _ _ _ h => h) (Or.inl ⟨by rfl, ?_⟩) (by assumption) ?_
    · intro w hSw; (try (unfold SS at hSw)); go_simp
    simp only [Act.put, List.setIfInBounds_toArray, List.set_cons_zero, List.set_cons_succ]
    refine wpAnyH_take (i := 20) (oi := ⟨some 25, _, _, _, _, _⟩) (v := undef) rfl (by kernel_rfl) (by kernel_rfl) (by kernel_rfl) (fun _ _ _ h => h) (Or.inr ⟨by rfl, rfl⟩) (by assumption) ?_
    simp only [Act.put, List.setIfInBounds_toArray, List.set_cons_zero, List.set_cons_succ]
    refine wpAnyH_take (i := 21) (oi := ⟨some 26, _, _, _, _, _⟩) (v := undef) rfl (by kernel_rfl) (by kernel_rfl) (by kernel_rfl) (fun _ _ _ h => h) (Or.inr ⟨by rfl, rfl⟩) (by assumption) ?_
    simp only [Act.put, List.setIfInBounds_toArray, List.set_cons_zero, List.set_cons_succ]
    refine wpAnyH_take (i := 22) (oi := ⟨some 27, _, _, _, _, _⟩) (v := undef) rfl (by kernel_rfl) (by kernel_rfl) (by kernel_rfl) (fun _ _ _ h => h) (Or.inr ⟨by rfl, rfl⟩) (by assumption) ?_
    simp only [Act.put, List.setIfInBounds_toArray, List.set_cons_zero, List.set_cons_succ]
    refine wpAnyH_take (i := 23) (oi := ⟨some 28, _, _, _, _, _⟩) (v := undef) rfl (by kernel_rfl) (by kernel_rfl) (by kernel_rfl) (fun _ _ _ h => h) (Or.inr ⟨by rfl, rfl⟩) (by assumption) ?_
    simp only [Act.put, List.setIfInBounds_toArray, List.set_cons_zero, List.set_cons_succ]
    refine wpAnyH_take (i := 24) (oi := ⟨some 29, _, _, _, _, _⟩) (v := undef) rfl (by kernel_rfl) (by kernel_rfl) (by kernel_rfl) (fun _ _ _ h => h) (Or.inr ⟨by rfl, rfl⟩) (by assumption) ?_
    simp only [Act.put, List.setIfInBounds_toArray, List.set_cons_zero, List.set_cons_succ]
    refine wpAnyH_take (i := 25) (oi := ⟨some 30, _, _, _, _, _⟩) (v := .bool false) rfl (by kernel_rfl) (by kernel_rfl) (by kernel_rfl) (fun _ _ _ h => h) (Or.inl ⟨by rfl, ?_⟩) (by assumption) ?_
    · intro w hSw; (try (unfold SS at hSw)); go_simp
    simp only [Act.put, List.setIfInBounds_toArray, List.set_cons_zero, List.set_cons_succ]
    refine wpAnyH_take (i := 26) (oi := ⟨some 31, _, _, _, _, _⟩) (v := .bool false) rfl (by kernel_rfl) (by kernel_rfl) (by kernel_rfl) (fun _ _ _ h => h) (Or.inl ⟨by rfl, ?_⟩) (by assumption) ?_
    · intro w hSw; (try (unfold SS at hSw)); go_simp
    simp only [Act.put, List.setIfInBounds_toArray, List.set_cons_zero, List.set_cons_succ]
    refine wpAnyH_take (i := 27) (oi := ⟨some 32, _, _, _, _, _⟩) (v := undef) rfl (by kernel_rfl) (by kernel_rfl) (by kernel_rfl) (fun _ _ _ h => h) (Or.inr ⟨by rfl, rfl⟩) (by assumption) ?_
    simp only [Act.put, List.setIfInBounds_toArray, List.set_cons_zero, List.set_cons_succ]
    refine wpAnyH_take (i := 28) (oi := ⟨some 33, _, _, _, _, _⟩) (v := undef) rfl (by kernel_rfl) (by kernel_rfl) (by kernel_rfl) (fun _ _ _ h => h) (Or.inr ⟨by rfl, rfl⟩) (by assumption) ?_
    simp only [Act.put, List.setIfInBounds_toArray, List.set_cons_zero, List.set_cons_succ]
    refine wpAnyH_take (i := 29) (oi := ⟨some 34, _, _, _, _, _⟩) (v := undef) rfl (by kernel_rfl) (by kernel_rfl) (by kernel_rfl) (fun _ _ _ h => h) (Or.inr ⟨by rfl, rfl⟩) (by assumption) ?_
    simp only [Act.put, List.setIfInBounds_toArray, List.set_cons_zero, List.set_cons_succ]
    refine wpAnyH_take (i := 30) (oi := ⟨some 35, _, _, _, _, _⟩) (v := undef) rfl (by kernel_rfl) (by kernel_rfl) (by kernel_rfl) (fun _ _ _ h => h) (Or.inr ⟨by rfl, rfl⟩) (by assumption) ?_
    simp only [Act.put, List.setIfInBounds_toArray, List.set_cons_zero, List.set_cons_succ]
    refine wpAnyH_take (i := 31) (oi := ⟨some 36, _, _, _, _, _⟩) (v := undef) rfl (by kernel_rfl) (by kernel_rfl) (by kernel_rfl) (fun _ _ _ h => h) (Or.inr ⟨by rfl, rfl⟩) (by assumption) ?_
    simp only [Act.put, List.setIfInBounds_toArray, List.set_cons_zero, List.set_cons_succ]
    refine wpAnyH_take (i := 32) (oi := ⟨some 37, _, _, _, _, _⟩) (v := .bool false) rfl (by kernel_rfl) (by kernel_rfl) (by kernel_rfl) (fun _ _ _ h => h) (Or.inl ⟨by rfl, ?_⟩) (by assumption) ?_
    · intro w hSw; (try (unfold SS at hSw)); go_simp
    simp only [Act.put, List.setIfInBounds_toArray, List.set_cons_zero, List.set_cons_succ]
    refine wpAnyH_take (i := 33) (oi := ⟨some 4, _, _, _, _, _⟩) (v := .bool false) rfl (by kernel_rfl) (by kernel_rfl) (by kernel_rfl) (fun _ _ _ h => h) (Or.inl ⟨by rfl, ?_⟩) (by assumption) ?_
    · intro w hSw; (try (unfold SS at hSw)); go_simp
    simp only [Act.put, List.setIfInBounds_toArray, List.set_cons_zero, List.set_cons_succ]
    refine wpAnyH_done (by kernel_rfl) ?_ _
    go_wp2
    go_ret
    exact ⟨ret_bool (by rw [E.out]), HBe.out _ Hz2.out⟩
  have hy : (L.yes == M.yes) = true := by simpa using e2
  by_cases e3 : L.txts = M.txts
  case neg =>
    have E : Hid (decide (L = M) = false) := Lib.hid (decide_eq_false fun e => e3 (by rw [e]))
    rw [decide_eq_false e3] at heT
    clear e1 e2 e3 hep hei
    go_enter Try.func18, Try.ntmps18
    go_upto_region 1 with fail
    have hS0 := HL.out ((w.alloc (.cells #[.int .i64 L.kind, .int .i64 L.frm, .int .i64 L.to, .int .i64 L.a, .int .i64 L.b, .int .i64 L.c, .int .i64 L.d, .string L.s, .string L.t, .slice Ap np cp, .slice Ai ni ci, .int .i64 L.code, .bool L.yes, .string L.body] 26)).alloc (.cells #[.int .i64 M.kind, .int .i64 M.frm, .int .i64 M.to, .int .i64 M.a, .int .i64 M.b, .int .i64 M.c, .int .i64 M.d, .string M.s, .string M.t, .slice Bp mp dp, .slice Bi mi di, .int .i64 M.code, .bool M.yes, .string M.body] 26)) (Below.refl _ _)
    refine wp_region_held_drew (S := SS w L M Ap np cp Ai ni ci Bp mp dp Bi mi di) (by kernel_rfl) hS0 (fun hHeld => ?_)
    clear hS0
    refine wpAnyH_take (i := 0) (oi := ⟨some 5, _, _, _, _, _⟩) (v := .agg #[.int .i64 L.kind, .int .i64 L.frm, .int .i64 L.to, .int .i64 L.a, .int .i64 L.b, .int .i64 L.c, .int .i64 L.d, .string L.s, .string L.t, .slice Ap np cp, .slice Ai ni ci, .int .i64 L.code, .bool L.yes, .string L.body]) rfl (by kernel_rfl) (by kernel_rfl) (by kernel_rfl) (fun _ _ _ h => h) (Or.inl ⟨by rfl, ?_⟩) (by assumption) ?_
    · intro w hSw; (try (unfold SS at hSw)); go_simp
    simp only [Act.put, List.setIfInBounds_toArray, List.set_cons_zero, List.set_cons_succ]
    refine wpAnyH_take (i := 2) (oi := ⟨some 7, _, _, _, _, _⟩) (v := .agg #[.int .i64 M.kind, .int .i64 M.frm, .int .i64 M.to, .int .i64 M.a, .int .i64 M.b, .int .i64 M.c, .int .i64 M.d, .string M.s, .string M.t, .slice Bp mp dp, .slice Bi mi di, .int .i64 M.code, .bool M.yes, .string M.body]) rfl (by kernel_rfl) (by kernel_rfl) (by kernel_rfl) (fun _ _ _ h => h) (Or.inl ⟨by rfl, ?_⟩) (by assumption) ?_
    · intro w hSw; (try (unfold SS at hSw)); go_simp
    simp only [Act.put, List.setIfInBounds_toArray, List.set_cons_zero, List.set_cons_succ]
    refine wpAnyH_ready (rs := [1]) (by kernel_rfl) (by simp) (AllReadyH.cons (o := ⟨some 6, _, _, _, _, _⟩) rfl (fun K hK => ?_) AllReadyH.nil)
    go_simp
    refine (HN.out _ ((Below.refl ((w.alloc (.cells #[.int .i64 L.kind, .int .i64 L.frm, .int .i64 L.to, .int .i64 L.a, .int .i64 L.b, .int .i64 L.c, .int .i64 L.d, .string L.s, .string L.t, .slice Ap np cp, .slice Ai ni ci, .int .i64 L.code, .bool L.yes, .string L.body] 26)).alloc (.cells #[.int .i64 M.kind, .int .i64 M.frm, .int .i64 M.to, .int .i64 M.a, .int .i64 M.b, .int .i64 M.c, .int .i64 M.d, .string M.s, .string M.t, .slice Bp mp dp, .slice Bi mi di, .int .i64 M.code, .bool M.yes, .string M.body] 26)).heap.size ((w.alloc (.cells #[.int .i64 L.kind, .int .i64 L.frm, .int .i64 L.to, .int .i64 L.a, .int .i64 L.b, .int .i64 L.c, .int .i64 L.d, .string L.s, .string L.t, .slice Ap np cp, .slice Ai ni ci, .int .i64 L.code, .bool L.yes, .string L.body] 26)).alloc (.cells #[.int .i64 M.kind, .int .i64 M.frm, .int .i64 M.to, .int .i64 M.a, .int .i64 M.b, .int .i64 M.c, .int .i64 M.d, .string M.s, .string M.t, .slice Bp mp dp, .slice Bi mi di, .int .i64 M.code, .bool M.yes, .string M.body] 26))).drew) ).1.mono ?_
    rintro e z1 ⟨rfl, hz1⟩
    have Hz1 : Hid (Below ((w.alloc (.cells #[.int .i64 L.kind, .int .i64 L.frm, .int .i64 L.to, .int .i64 L.a, .int .i64 L.b, .int .i64 L.c, .int .i64 L.d, .string L.s, .string L.t, .slice Ap np cp, .slice Ai ni ci, .int .i64 L.code, .bool L.yes, .string L.body] 26)).alloc (.cells #[.int .i64 M.kind, .int .i64 M.frm, .int .i64 M.to, .int .i64 M.a, .int .i64 M.b, .int .i64 M.c, .int .i64 M.d, .string M.s, .string M.t, .slice Bp mp dp, .slice Bi mi di, .int .i64 M.code, .bool M.yes, .string M.body] 26)).heap.size ((w.alloc (.cells #[.int .i64 L.kind, .int .i64 L.frm, .int .i64 L.to, .int .i64 L.a, .int .i64 L.b, .int .i64 L.c, .int .i64 L.d, .string L.s, .string L.t, .slice Ap np cp, .slice Ai ni ci, .int .i64 L.code, .bool L.yes, .string L.body] 26)).alloc (.cells #[.int .i64 M.kind, .int .i64 M.frm, .int .i64 M.to, .int .i64 M.a, .int .i64 M.b, .int .i64 M.c, .int .i64 M.d, .string M.s, .string M.t, .slice Bp mp dp, .slice Bi mi di, .int .i64 M.code, .bool M.yes, .string M.body] 26)) z1) := Lib.hid (((Below.refl ((w.alloc (.cells #[.int .i64 L.kind, .int .i64 L.frm, .int .i64 L.to, .int .i64 L.a, .int .i64 L.b, .int .i64 L.c, .int .i64 L.d, .string L.s, .string L.t, .slice Ap np cp, .slice Ai ni ci, .int .i64 L.code, .bool L.yes, .string L.body] 26)).alloc (.cells #[.int .i64 M.kind, .int .i64 M.frm, .int .i64 M.to, .int .i64 M.a, .int .i64 M.b, .int .i64 M.c, .int .i64 M.d, .string M.s, .string M.t, .slice Bp mp dp, .slice Bi mi di, .int .i64 M.code, .bool M.yes, .string M.body] 26)).heap.size ((w.alloc (.cells #[.int .i64 L.kind, .int .i64 L.frm, .int .i64 L.to, .int .i64 L.a, .int .i64 L.b, .int .i64 L.c, .int .i64 L.d, .string L.s, .string L.t, .slice Ap np cp, .slice Ai ni ci, .int .i64 L.code, .bool L.yes, .string L.body] 26)).alloc (.cells #[.int .i64 M.kind, .int .i64 M.frm, .int .i64 M.to, .int .i64 M.a, .int .i64 M.b, .int .i64 M.c, .int .i64 M.d, .string M.s, .string M.t, .slice Bp mp dp, .slice Bi mi di, .int .i64 M.code, .bool M.yes, .string M.body] 26))).drew).trans (hz1.mono ((Below.refl ((w.alloc (.cells #[.int .i64 L.kind, .int .i64 L.frm, .int .i64 L.to, .int .i64 L.a, .int .i64 L.b, .int .i64 L.c, .int .i64 L.d, .string L.s, .string L.t, .slice Ap np cp, .slice Ai ni ci, .int .i64 L.code, .bool L.yes, .string L.body] 26)).alloc (.cells #[.int .i64 M.kind, .int .i64 M.frm, .int .i64 M.to, .int .i64 M.a, .int .i64 M.b, .int .i64 M.c, .int .i64 M.d, .string M.s, .string M.t, .slice Bp mp dp, .slice Bi mi di, .int .i64 M.code, .bool M.yes, .string M.body] 26)).heap.size ((w.alloc (.cells #[.int .i64 L.kind, .int .i64 L.frm, .int .i64 L.to, .int .i64 L.a, .int .i64 L.b, .int .i64 L.c, .int .i64 L.d, .string L.s, .string L.t, .slice Ap np cp, .slice Ai ni ci, .int .i64 L.code, .bool L.yes, .string L.body] 26)).alloc (.cells #[.int .i64 M.kind, .int .i64 M.frm, .int .i64 M.to, .int .i64 M.a, .int .i64 M.b, .int .i64 M.c, .int .i64 M.d, .string M.s, .string M.t, .slice Bp mp dp, .slice Bi mi di, .int .i64 M.code, .bool M.yes, .string M.body] 26))).drew).size))
    clear hz1
    refine hK.out _ _ (HL.out z1 Hz1.out) (fun _ => ?_)
    clear hK K
    refine wpAnyH_ready (rs := [3]) (by kernel_rfl) (by simp) (AllReadyH.cons (o := ⟨some 8, _, _, _, _, _⟩) rfl (fun K hK => ?_) AllReadyH.nil)
    go_simp
    refine (HN.out _ (Hz1.out) ).2.mono ?_
    rintro e z2 ⟨rfl, hz2⟩
    have Hz2 : Hid (Below ((w.alloc (.cells #[.int .i64 L.kind, .int .i64 L.frm, .int .i64 L.to, .int .i64 L.a, .int .i64 L.b, .int .i64 L.c, .int .i64 L.d, .string L.s, .string L.t, .slice Ap np cp, .slice Ai ni ci, .int .i64 L.code, .bool L.yes, .string L.body] 26)).alloc (.cells #[.int .i64 M.kind, .int .i64 M.frm, .int .i64 M.to, .int .i64 M.a, .int .i64 M.b, .int .i64 M.c, .int .i64 M.d, .string M.s, .string M.t, .slice Bp mp dp, .slice Bi mi di, .int .i64 M.code, .bool M.yes, .string M.body] 26)).heap.size ((w.alloc (.cells #[.int .i64 L.kind, .int .i64 L.frm, .int .i64 L.to, .int .i64 L.a, .int .i64 L.b, .int .i64 L.c, .int .i64 L.d, .string L.s, .string L.t, .slice Ap np cp, .slice Ai ni ci, .int .i64 L.code, .bool L.yes, .string L.body] 26)).alloc (.cells #[.int .i64 M.kind, .int .i64 M.frm, .int .i64 M.to, .int .i64 M.a, .int .i64 M.b, .int .i64 M.c, .int .i64 M.d, .string M.s, .string M.t, .slice Bp mp dp, .slice Bi mi di, .int .i64 M.code, .bool M.yes, .string M.body] 26)) z2) := Lib.hid ((Hz1.out).trans (hz2.mono (Hz1.out).size))
    clear hz2
    refine hK.out _ _ (HL.out z2 Hz2.out) (fun _ => ?_)
    clear hK K
    refine wpAnyH_take (i := 4) (oi := ⟨some 9, _, _, _, _, _⟩) (v := .bool true) rfl (by kernel_rfl) (by kernel_rfl) (by kernel_rfl) (fun _ _ _ h => h) (Or.inl ⟨by rfl, ?_⟩) (by assumption) ?_
    · intro w hSw; (try (unfold SS at hSw)); go_simp
    simp only [Act.put, List.setIfInBounds_toArray, List.set_cons_zero, List.set_cons_succ]
    refine wpAnyH_take (i := 5) (oi := ⟨some 10, _, _, _, _, _⟩) (v := .bool true) rfl (by kernel_rfl) (by kernel_rfl) (by kernel_rfl) (fun _ _ _ h => h) (Or.inl ⟨by rfl, ?_⟩) (by assumption) ?_
    · intro w hSw; (try (unfold SS at hSw)); go_simp
    simp only [Act.put, List.setIfInBounds_toArray, List.set_cons_zero, List.set_cons_succ]
    refine wpAnyH_take (i := 6) (oi := ⟨some 11, _, _, _, _, _⟩) (v := .pointer (some ⟨w.heap.size, 12, none⟩)) rfl (by kernel_rfl) (by kernel_rfl) (by kernel_rfl) (fun _ _ _ h => h) (Or.inl ⟨by rfl, ?_⟩) (by assumption) ?_
    · intro w hSw; (try (unfold SS at hSw)); go_simp
    simp only [Act.put, List.setIfInBounds_toArray, List.set_cons_zero, List.set_cons_succ]
    refine wpAnyH_take (i := 7) (oi := ⟨some 12, _, _, _, _, _⟩) (v := .bool L.yes) rfl (by kernel_rfl) (by kernel_rfl) (by kernel_rfl) (fun _ _ _ h => h) (Or.inl ⟨by rfl, ?_⟩) (by assumption) ?_
    · intro w hSw; (try (unfold SS at hSw)); go_simp
    simp only [Act.put, List.setIfInBounds_toArray, List.set_cons_zero, List.set_cons_succ]
    refine wpAnyH_take (i := 8) (oi := ⟨some 13, _, _, _, _, _⟩) (v := .pointer (some ⟨w.heap.size + 1, 12, none⟩)) rfl (by kernel_rfl) (by kernel_rfl) (by kernel_rfl) (fun _ _ _ h => h) (Or.inl ⟨by rfl, ?_⟩) (by assumption) ?_
    · intro w hSw; (try (unfold SS at hSw)); go_simp
    simp only [Act.put, List.setIfInBounds_toArray, List.set_cons_zero, List.set_cons_succ]
    refine wpAnyH_take (i := 9) (oi := ⟨some 14, _, _, _, _, _⟩) (v := .bool M.yes) rfl (by kernel_rfl) (by kernel_rfl) (by kernel_rfl) (fun _ _ _ h => h) (Or.inl ⟨by rfl, ?_⟩) (by assumption) ?_
    · intro w hSw; (try (unfold SS at hSw)); go_simp
    simp only [Act.put, List.setIfInBounds_toArray, List.set_cons_zero, List.set_cons_succ]
    refine wpAnyH_take (i := 10) (oi := ⟨some 15, _, _, _, _, _⟩) (v := .bool true) rfl (by kernel_rfl) (by kernel_rfl) (by kernel_rfl) (fun _ _ _ h => h) (Or.inl ⟨by rfl, ?_⟩) (by assumption) ?_
    · intro w hSw; (try (unfold SS at hSw)); go_simp
    simp only [Act.put, List.setIfInBounds_toArray, List.set_cons_zero, List.set_cons_succ]
    refine wpAnyH_take (i := 11) (oi := ⟨some 16, _, _, _, _, _⟩) (v := .bool true) rfl (by kernel_rfl) (by kernel_rfl) (by kernel_rfl) (fun _ _ _ h => h) (Or.inl ⟨by rfl, ?_⟩) (by assumption) ?_
    · intro w hSw; (try (unfold SS at hSw)); go_simp
    simp only [Act.put, List.setIfInBounds_toArray, List.set_cons_zero, List.set_cons_succ]
    refine wpAnyH_take (i := 12) (oi := ⟨some 17, _, _, _, _, _⟩) (v := .bool true) rfl (by kernel_rfl) (by kernel_rfl) (by kernel_rfl) (fun _ _ _ h => h) (Or.inl ⟨by rfl, ?_⟩) (by assumption) ?_
    · intro w hSw; (try (unfold SS at hSw)); go_simp
    simp only [Act.put, List.setIfInBounds_toArray, List.set_cons_zero, List.set_cons_succ]
    refine wpAnyH_take (i := 13) (oi := ⟨some 18, _, _, _, _, _⟩) (v := .agg #[.int .i64 L.kind, .int .i64 L.frm, .int .i64 L.to, .int .i64 L.a, .int .i64 L.b, .int .i64 L.c, .int .i64 L.d, .string L.s, .string L.t, .slice Ap np cp, .slice Ai ni ci, .int .i64 L.code, .bool L.yes, .string L.body]) rfl (by kernel_rfl) (by kernel_rfl) (by kernel_rfl) (fun _ _ _ h => h) (Or.inl ⟨by rfl, ?_⟩) (by assumption) ?_
    · intro w hSw; (try (unfold SS at hSw)); go_simp
    simp only [Act.put, List.setIfInBounds_toArray, List.set_cons_zero, List.set_cons_succ]
    refine wpAnyH_take (i := 15) (oi := ⟨some 20, _, _, _, _, _⟩) (v := .agg #[.int .i64 M.kind, .int .i64 M.frm, .int .i64 M.to, .int .i64 M.a, .int .i64 M.b, .int .i64 M.c, .int .i64 M.d, .string M.s, .string M.t, .slice Bp mp dp, .slice Bi mi di, .int .i64 M.code, .bool M.yes, .string M.body]) rfl (by kernel_rfl) (by kernel_rfl) (by kernel_rfl) (fun _ _ _ h => h) (Or.inl ⟨by rfl, ?_⟩) (by assumption) ?_
    · intro w hSw; (try (unfold SS at hSw)); go_simp
    simp only [Act.put, List.setIfInBounds_toArray, List.set_cons_zero, List.set_cons_succ]
    refine wpAnyH_ready (rs := [14]) (by kernel_rfl) (by simp) (AllReadyH.cons (o := ⟨some 19, _, _, _, _, _⟩) rfl (fun K hK => ?_) AllReadyH.nil)
    go_simp
    refine (HT.out _ (Hz2.out) ).1.mono ?_
    rintro e z3 ⟨rfl, hz3⟩
    have Hz3 : Hid (Below ((w.alloc (.cells #[.int .i64 L.kind, .int .i64 L.frm, .int .i64 L.to, .int .i64 L.a, .int .i64 L.b, .int .i64 L.c, .int .i64 L.d, .string L.s, .string L.t, .slice Ap np cp, .slice Ai ni ci, .int .i64 L.code, .bool L.yes, .string L.body] 26)).alloc (.cells #[.int .i64 M.kind, .int .i64 M.frm, .int .i64 M.to, .int .i64 M.a, .int .i64 M.b, .int .i64 M.c, .int .i64 M.d, .string M.s, .string M.t, .slice Bp mp dp, .slice Bi mi di, .int .i64 M.code, .bool M.yes, .string M.body] 26)).heap.size ((w.alloc (.cells #[.int .i64 L.kind, .int .i64 L.frm, .int .i64 L.to, .int .i64 L.a, .int .i64 L.b, .int .i64 L.c, .int .i64 L.d, .string L.s, .string L.t, .slice Ap np cp, .slice Ai ni ci, .int .i64 L.code, .bool L.yes, .string L.body] 26)).alloc (.cells #[.int .i64 M.kind, .int .i64 M.frm, .int .i64 M.to, .int .i64 M.a, .int .i64 M.b, .int .i64 M.c, .int .i64 M.d, .string M.s, .string M.t, .slice Bp mp dp, .slice Bi mi di, .int .i64 M.code, .bool M.yes, .string M.body] 26)) z3) := Lib.hid ((Hz2.out).trans (hz3.mono (Hz2.out).size))
    clear hz3
    refine hK.out _ _ (HL.out z3 Hz3.out) (fun _ => ?_)
    clear hK K
    refine wpAnyH_ready (rs := [16]) (by kernel_rfl) (by simp) (AllReadyH.cons (o := ⟨some 21, _, _, _, _, _⟩) rfl (fun K hK => ?_) AllReadyH.nil)
    go_simp
    refine (HT.out _ (Hz3.out) ).2.mono ?_
    rintro e z4 ⟨rfl, hz4⟩
    have Hz4 : Hid (Below ((w.alloc (.cells #[.int .i64 L.kind, .int .i64 L.frm, .int .i64 L.to, .int .i64 L.a, .int .i64 L.b, .int .i64 L.c, .int .i64 L.d, .string L.s, .string L.t, .slice Ap np cp, .slice Ai ni ci, .int .i64 L.code, .bool L.yes, .string L.body] 26)).alloc (.cells #[.int .i64 M.kind, .int .i64 M.frm, .int .i64 M.to, .int .i64 M.a, .int .i64 M.b, .int .i64 M.c, .int .i64 M.d, .string M.s, .string M.t, .slice Bp mp dp, .slice Bi mi di, .int .i64 M.code, .bool M.yes, .string M.body] 26)).heap.size ((w.alloc (.cells #[.int .i64 L.kind, .int .i64 L.frm, .int .i64 L.to, .int .i64 L.a, .int .i64 L.b, .int .i64 L.c, .int .i64 L.d, .string L.s, .string L.t, .slice Ap np cp, .slice Ai ni ci, .int .i64 L.code, .bool L.yes, .string L.body] 26)).alloc (.cells #[.int .i64 M.kind, .int .i64 M.frm, .int .i64 M.to, .int .i64 M.a, .int .i64 M.b, .int .i64 M.c, .int .i64 M.d, .string M.s, .string M.t, .slice Bp mp dp, .slice Bi mi di, .int .i64 M.code, .bool M.yes, .string M.body] 26)) z4) := Lib.hid ((Hz3.out).trans (hz4.mono (Hz3.out).size))
    clear hz4
    refine hK.out _ _ (HL.out z4 Hz4.out) (fun _ => ?_)
    clear hK K
    refine wpAnyH_take (i := 17) (oi := ⟨some 22, _, _, _, _, _⟩) (v := .bool false) rfl (by kernel_rfl) (by kernel_rfl) (by kernel_rfl) (fun _ _ _ h => h) (Or.inl ⟨by rfl, ?_⟩) (by assumption) ?_
    · intro w hSw; (try (unfold SS at hSw)); go_simp
    simp only [Act.put, List.setIfInBounds_toArray, List.set_cons_zero, List.set_cons_succ]
    refine wpAnyH_take (i := 18) (oi := ⟨some 23, _, _, _, _, _⟩) (v := .bool false) rfl (by kernel_rfl) (by kernel_rfl) (by kernel_rfl) (fun _ _ _ h => h) (Or.inl ⟨by rfl, ?_⟩) (by assumption) ?_
    · intro w hSw; (try (unfold SS at hSw)); go_simp
    simp only [Act.put, List.setIfInBounds_toArray, List.set_cons_zero, List.set_cons_succ]
    refine wpAnyH_take (i := 19) (oi := ⟨some 24, _, _, _, _, _⟩) (v := .bool false) rfl (by kernel_rfl) (by kernel_rfl) (by kernel_rfl) (fun _ _ _ h => h) (Or.inl ⟨by rfl, ?_⟩) (by assumption) ?_
    · intro w hSw; (try (unfold SS at hSw)); go_simp
    simp only [Act.put, List.setIfInBounds_toArray, List.set_cons_zero, List.set_cons_succ]
    refine wpAnyH_take (i := 20) (oi := ⟨some 25, _, _, _, _, _⟩) (v := undef) rfl (by kernel_rfl) (by kernel_rfl) (by kernel_rfl) (fun _ _ _ h => h) (Or.inr ⟨by rfl, rfl⟩) (by assumption) ?_
    simp only [Act.put, List.setIfInBounds_toArray, List.set_cons_zero, List.set_cons_succ]
    refine wpAnyH_take (i := 21) (oi := ⟨some 26, _, _, _, _, _⟩) (v := undef) rfl (by kernel_rfl) (by kernel_rfl) (by kernel_rfl) (fun _ _ _ h => h) (Or.inr ⟨by rfl, rfl⟩) (by assumption) ?_
    simp only [Act.put, List.setIfInBounds_toArray, List.set_cons_zero, List.set_cons_succ]
    refine wpAnyH_take (i := 22) (oi := ⟨some 27, _, _, _, _, _⟩) (v := undef) rfl (by kernel_rfl) (by kernel_rfl) (by kernel_rfl) (fun _ _ _ h => h) (Or.inr ⟨by rfl, rfl⟩) (by assumption) ?_
    simp only [Act.put, List.setIfInBounds_toArray, List.set_cons_zero, List.set_cons_succ]
    refine wpAnyH_take (i := 23) (oi := ⟨some 28, _, _, _, _, _⟩) (v := undef) rfl (by kernel_rfl) (by kernel_rfl) (by kernel_rfl) (fun _ _ _ h => h) (Or.inr ⟨by rfl, rfl⟩) (by assumption) ?_
    simp only [Act.put, List.setIfInBounds_toArray, List.set_cons_zero, List.set_cons_succ]
    refine wpAnyH_take (i := 24) (oi := ⟨some 29, _, _, _, _, _⟩) (v := undef) rfl (by kernel_rfl) (by kernel_rfl) (by kernel_rfl) (fun _ _ _ h => h) (Or.inr ⟨by rfl, rfl⟩) (by assumption) ?_
    simp only [Act.put, List.setIfInBounds_toArray, List.set_cons_zero, List.set_cons_succ]
    refine wpAnyH_take (i := 25) (oi := ⟨some 30, _, _, _, _, _⟩) (v := .bool false) rfl (by kernel_rfl) (by kernel_rfl) (by kernel_rfl) (fun _ _ _ h => h) (Or.inl ⟨by rfl, ?_⟩) (by assumption) ?_
    · intro w hSw; (try (unfold SS at hSw)); go_simp
    simp only [Act.put, List.setIfInBounds_toArray, List.set_cons_zero, List.set_cons_succ]
    refine wpAnyH_take (i := 26) (oi := ⟨some 31, _, _, _, _, _⟩) (v := .bool false) rfl (by kernel_rfl) (by kernel_rfl) (by kernel_rfl) (fun _ _ _ h => h) (Or.inl ⟨by rfl, ?_⟩) (by assumption) ?_
    · intro w hSw; (try (unfold SS at hSw)); go_simp
    simp only [Act.put, List.setIfInBounds_toArray, List.set_cons_zero, List.set_cons_succ]
    refine wpAnyH_take (i := 27) (oi := ⟨some 32, _, _, _, _, _⟩) (v := undef) rfl (by kernel_rfl) (by kernel_rfl) (by kernel_rfl) (fun _ _ _ h => h) (Or.inr ⟨by rfl, rfl⟩) (by assumption) ?_
    simp only [Act.put, List.setIfInBounds_toArray, List.set_cons_zero, List.set_cons_succ]
    refine wpAnyH_take (i := 28) (oi := ⟨some 33, _, _, _, _, _⟩) (v := undef) rfl (by kernel_rfl) (by kernel_rfl) (by kernel_rfl) (fun _ _ _ h => h) (Or.inr ⟨by rfl, rfl⟩) (by assumption) ?_
    simp only [Act.put, List.setIfInBounds_toArray, List.set_cons_zero, List.set_cons_succ]
    refine wpAnyH_take (i := 29) (oi := ⟨some 34, _, _, _, _, _⟩) (v := undef) rfl (by kernel_rfl) (by kernel_rfl) (by kernel_rfl) (fun _ _ _ h => h) (Or.inr ⟨by rfl, rfl⟩) (by assumption) ?_
    simp only [Act.put, List.setIfInBounds_toArray, List.set_cons_zero, List.set_cons_succ]
    refine wpAnyH_take (i := 30) (oi := ⟨some 35, _, _, _, _, _⟩) (v := undef) rfl (by kernel_rfl) (by kernel_rfl) (by kernel_rfl) (fun _ _ _ h => h) (Or.inr ⟨by rfl, rfl⟩) (by assumption) ?_
    simp only [Act.put, List.setIfInBounds_toArray, List.set_cons_zero, List.set_cons_succ]
    refine wpAnyH_take (i := 31) (oi := ⟨some 36, _, _, _, _, _⟩) (v := undef) rfl (by kernel_rfl) (by kernel_rfl) (by kernel_rfl) (fun _ _ _ h => h) (Or.inr ⟨by rfl, rfl⟩) (by assumption) ?_
    simp only [Act.put, List.setIfInBounds_toArray, List.set_cons_zero, List.set_cons_succ]
    refine wpAnyH_take (i := 32) (oi := ⟨some 37, _, _, _, _, _⟩) (v := .bool false) rfl (by kernel_rfl) (by kernel_rfl) (by kernel_rfl) (fun _ _ _ h => h) (Or.inl ⟨by rfl, ?_⟩) (by assumption) ?_
    · intro w hSw; (try (unfold SS at hSw)); go_simp
    simp only [Act.put, List.setIfInBounds_toArray, List.set_cons_zero, List.set_cons_succ]
    refine wpAnyH_take (i := 33) (oi := ⟨some 4, _, _, _, _, _⟩) (v := .bool false) rfl (by kernel_rfl) (by kernel_rfl) (by kernel_rfl) (fun _ _ _ h => h) (Or.inl ⟨by rfl, ?_⟩) (by assumption) ?_
    · intro w hSw; (try (unfold SS at hSw)); go_simp
    simp only [Act.put, List.setIfInBounds_toArray, List.set_cons_zero, List.set_cons_succ]
    refine wpAnyH_done (by kernel_rfl) ?_ _
    go_wp2
    go_ret
    exact ⟨ret_bool (by rw [E.out]), HBe.out _ Hz4.out⟩
  rw [decide_eq_true e3] at heT
  cases ep with
  | false =>
    have E : Hid (decide (L = M) = false) := Lib.hid (decide_eq_false fun e => of_decide_eq_false hep (by rw [e]))
    clear e1 e2 e3 hep hei
    go_enter Try.func18, Try.ntmps18
    go_upto_region 1 with fail
    have hS0 := HL.out ((w.alloc (.cells #[.int .i64 L.kind, .int .i64 L.frm, .int .i64 L.to, .int .i64 L.a, .int .i64 L.b, .int .i64 L.c, .int .i64 L.d, .string L.s, .string L.t, .slice Ap np cp, .slice Ai ni ci, .int .i64 L.code, .bool L.yes, .string L.body] 26)).alloc (.cells #[.int .i64 M.kind, .int .i64 M.frm, .int .i64 M.to, .int .i64 M.a, .int .i64 M.b, .int .i64 M.c, .int .i64 M.d, .string M.s, .string M.t, .slice Bp mp dp, .slice Bi mi di, .int .i64 M.code, .bool M.yes, .string M.body] 26)) (Below.refl _ _)
    refine wp_region_held_drew (S := SS w L M Ap np cp Ai ni ci Bp mp dp Bi mi di) (by kernel_rfl) hS0 (fun hHeld => ?_)
    clear hS0
    refine wpAnyH_take (i := 0) (oi := ⟨some 5, _, _, _, _, _⟩) (v := .agg #[.int .i64 L.kind, .int .i64 L.frm, .int .i64 L.to, .int .i64 L.a, .int .i64 L.b, .int .i64 L.c, .int .i64 L.d, .string L.s, .string L.t, .slice Ap np cp, .slice Ai ni ci, .int .i64 L.code, .bool L.yes, .string L.body]) rfl (by kernel_rfl) (by kernel_rfl) (by kernel_rfl) (fun _ _ _ h => h) (Or.inl ⟨by rfl, ?_⟩) (by assumption) ?_
    · intro w hSw; (try (unfold SS at hSw)); go_simp
    simp only [Act.put, List.setIfInBounds_toArray, List.set_cons_zero, List.set_cons_succ]
    refine wpAnyH_take (i := 2) (oi := ⟨some 7, _, _, _, _, _⟩) (v := .agg #[.int .i64 M.kind, .int .i64 M.frm, .int .i64 M.to, .int .i64 M.a, .int .i64 M.b, .int .i64 M.c, .int .i64 M.d, .string M.s, .string M.t, .slice Bp mp dp, .slice Bi mi di, .int .i64 M.code, .bool M.yes, .string M.body]) rfl (by kernel_rfl) (by kernel_rfl) (by kernel_rfl) (fun _ _ _ h => h) (Or.inl ⟨by rfl, ?_⟩) (by assumption) ?_
    · intro w hSw; (try (unfold SS at hSw)); go_simp
    simp only [Act.put, List.setIfInBounds_toArray, List.set_cons_zero, List.set_cons_succ]
    refine wpAnyH_ready (rs := [1]) (by kernel_rfl) (by simp) (AllReadyH.cons (o := ⟨some 6, _, _, _, _, _⟩) rfl (fun K hK => ?_) AllReadyH.nil)
    go_simp
    refine (HN.out _ ((Below.refl ((w.alloc (.cells #[.int .i64 L.kind, .int .i64 L.frm, .int .i64 L.to, .int .i64 L.a, .int .i64 L.b, .int .i64 L.c, .int .i64 L.d, .string L.s, .string L.t, .slice Ap np cp, .slice Ai ni ci, .int .i64 L.code, .bool L.yes, .string L.body] 26)).alloc (.cells #[.int .i64 M.kind, .int .i64 M.frm, .int .i64 M.to, .int .i64 M.a, .int .i64 M.b, .int .i64 M.c, .int .i64 M.d, .string M.s, .string M.t, .slice Bp mp dp, .slice Bi mi di, .int .i64 M.code, .bool M.yes, .string M.body] 26)).heap.size ((w.alloc (.cells #[.int .i64 L.kind, .int .i64 L.frm, .int .i64 L.to, .int .i64 L.a, .int .i64 L.b, .int .i64 L.c, .int .i64 L.d, .string L.s, .string L.t, .slice Ap np cp, .slice Ai ni ci, .int .i64 L.code, .bool L.yes, .string L.body] 26)).alloc (.cells #[.int .i64 M.kind, .int .i64 M.frm, .int .i64 M.to, .int .i64 M.a, .int .i64 M.b, .int .i64 M.c, .int .i64 M.d, .string M.s, .string M.t, .slice Bp mp dp, .slice Bi mi di, .int .i64 M.code, .bool M.yes, .string M.body] 26))).drew) ).1.mono ?_
    rintro e z1 ⟨rfl, hz1⟩
    have Hz1 : Hid (Below ((w.alloc (.cells #[.int .i64 L.kind, .int .i64 L.frm, .int .i64 L.to, .int .i64 L.a, .int .i64 L.b, .int .i64 L.c, .int .i64 L.d, .string L.s, .string L.t, .slice Ap np cp, .slice Ai ni ci, .int .i64 L.code, .bool L.yes, .string L.body] 26)).alloc (.cells #[.int .i64 M.kind, .int .i64 M.frm, .int .i64 M.to, .int .i64 M.a, .int .i64 M.b, .int .i64 M.c, .int .i64 M.d, .string M.s, .string M.t, .slice Bp mp dp, .slice Bi mi di, .int .i64 M.code, .bool M.yes, .string M.body] 26)).heap.size ((w.alloc (.cells #[.int .i64 L.kind, .int .i64 L.frm, .int .i64 L.to, .int .i64 L.a, .int .i64 L.b, .int .i64 L.c, .int .i64 L.d, .string L.s, .string L.t, .slice Ap np cp, .slice Ai ni ci, .int .i64 L.code, .bool L.yes, .string L.body] 26)).alloc (.cells #[.int .i64 M.kind, .int .i64 M.frm, .int .i64 M.to, .int .i64 M.a, .int .i64 M.b, .int .i64 M.c, .int .i64 M.d, .string M.s, .string M.t, .slice Bp mp dp, .slice Bi mi di, .int .i64 M.code, .bool M.yes, .string M.body] 26)) z1) := Lib.hid (((Below.refl ((w.alloc (.cells #[.int .i64 L.kind, .int .i64 L.frm, .int .i64 L.to, .int .i64 L.a, .int .i64 L.b, .int .i64 L.c, .int .i64 L.d, .string L.s, .string L.t, .slice Ap np cp, .slice Ai ni ci, .int .i64 L.code, .bool L.yes, .string L.body] 26)).alloc (.cells #[.int .i64 M.kind, .int .i64 M.frm, .int .i64 M.to, .int .i64 M.a, .int .i64 M.b, .int .i64 M.c, .int .i64 M.d, .string M.s, .string M.t, .slice Bp mp dp, .slice Bi mi di, .int .i64 M.code, .bool M.yes, .string M.body] 26)).heap.size ((w.alloc (.cells #[.int .i64 L.kind, .int .i64 L.frm, .int .i64 L.to, .int .i64 L.a, .int .i64 L.b, .int .i64 L.c, .int .i64 L.d, .string L.s, .string L.t, .slice Ap np cp, .slice Ai ni ci, .int .i64 L.code, .bool L.yes, .string L.body] 26)).alloc (.cells #[.int .i64 M.kind, .int .i64 M.frm, .int .i64 M.to, .int .i64 M.a, .int .i64 M.b, .int .i64 M.c, .int .i64 M.d, .string M.s, .string M.t, .slice Bp mp dp, .slice Bi mi di, .int .i64 M.code, .bool M.yes, .string M.body] 26))).drew).trans (hz1.mono ((Below.refl ((w.alloc (.cells #[.int .i64 L.kind, .int .i64 L.frm, .int .i64 L.to, .int .i64 L.a, .int .i64 L.b, .int .i64 L.c, .int .i64 L.d, .string L.s, .string L.t, .slice Ap np cp, .slice Ai ni ci, .int .i64 L.code, .bool L.yes, .string L.body] 26)).alloc (.cells #[.int .i64 M.kind, .int .i64 M.frm, .int .i64 M.to, .int .i64 M.a, .int .i64 M.b, .int .i64 M.c, .int .i64 M.d, .string M.s, .string M.t, .slice Bp mp dp, .slice Bi mi di, .int .i64 M.code, .bool M.yes, .string M.body] 26)).heap.size ((w.alloc (.cells #[.int .i64 L.kind, .int .i64 L.frm, .int .i64 L.to, .int .i64 L.a, .int .i64 L.b, .int .i64 L.c, .int .i64 L.d, .string L.s, .string L.t, .slice Ap np cp, .slice Ai ni ci, .int .i64 L.code, .bool L.yes, .string L.body] 26)).alloc (.cells #[.int .i64 M.kind, .int .i64 M.frm, .int .i64 M.to, .int .i64 M.a, .int .i64 M.b, .int .i64 M.c, .int .i64 M.d, .string M.s, .string M.t, .slice Bp mp dp, .slice Bi mi di, .int .i64 M.code, .bool M.yes, .string M.body] 26))).drew).size))
    clear hz1
    refine hK.out _ _ (HL.out z1 Hz1.out) (fun _ => ?_)
    clear hK K
    refine wpAnyH_ready (rs := [3]) (by kernel_rfl) (by simp) (AllReadyH.cons (o := ⟨some 8, _, _, _, _, _⟩) rfl (fun K hK => ?_) AllReadyH.nil)
    go_simp
    refine (HN.out _ (Hz1.out) ).2.mono ?_
    rintro e z2 ⟨rfl, hz2⟩
    have Hz2 : Hid (Below ((w.alloc (.cells #[.int .i64 L.kind, .int .i64 L.frm, .int .i64 L.to, .int .i64 L.a, .int .i64 L.b, .int .i64 L.c, .int .i64 L.d, .string L.s, .string L.t, .slice Ap np cp, .slice Ai ni ci, .int .i64 L.code, .bool L.yes, .string L.body] 26)).alloc (.cells #[.int .i64 M.kind, .int .i64 M.frm, .int .i64 M.to, .int .i64 M.a, .int .i64 M.b, .int .i64 M.c, .int .i64 M.d, .string M.s, .string M.t, .slice Bp mp dp, .slice Bi mi di, .int .i64 M.code, .bool M.yes, .string M.body] 26)).heap.size ((w.alloc (.cells #[.int .i64 L.kind, .int .i64 L.frm, .int .i64 L.to, .int .i64 L.a, .int .i64 L.b, .int .i64 L.c, .int .i64 L.d, .string L.s, .string L.t, .slice Ap np cp, .slice Ai ni ci, .int .i64 L.code, .bool L.yes, .string L.body] 26)).alloc (.cells #[.int .i64 M.kind, .int .i64 M.frm, .int .i64 M.to, .int .i64 M.a, .int .i64 M.b, .int .i64 M.c, .int .i64 M.d, .string M.s, .string M.t, .slice Bp mp dp, .slice Bi mi di, .int .i64 M.code, .bool M.yes, .string M.body] 26)) z2) := Lib.hid ((Hz1.out).trans (hz2.mono (Hz1.out).size))
    clear hz2
    refine hK.out _ _ (HL.out z2 Hz2.out) (fun _ => ?_)
    clear hK K
    refine wpAnyH_take (i := 4) (oi := ⟨some 9, _, _, _, _, _⟩) (v := .bool true) rfl (by kernel_rfl) (by kernel_rfl) (by kernel_rfl) (fun _ _ _ h => h) (Or.inl ⟨by rfl, ?_⟩) (by assumption) ?_
    · intro w hSw; (try (unfold SS at hSw)); go_simp
    simp only [Act.put, List.setIfInBounds_toArray, List.set_cons_zero, List.set_cons_succ]
    refine wpAnyH_take (i := 5) (oi := ⟨some 10, _, _, _, _, _⟩) (v := .bool true) rfl (by kernel_rfl) (by kernel_rfl) (by kernel_rfl) (fun _ _ _ h => h) (Or.inl ⟨by rfl, ?_⟩) (by assumption) ?_
    · intro w hSw; (try (unfold SS at hSw)); go_simp
    simp only [Act.put, List.setIfInBounds_toArray, List.set_cons_zero, List.set_cons_succ]
    refine wpAnyH_take (i := 6) (oi := ⟨some 11, _, _, _, _, _⟩) (v := .pointer (some ⟨w.heap.size, 12, none⟩)) rfl (by kernel_rfl) (by kernel_rfl) (by kernel_rfl) (fun _ _ _ h => h) (Or.inl ⟨by rfl, ?_⟩) (by assumption) ?_
    · intro w hSw; (try (unfold SS at hSw)); go_simp
    simp only [Act.put, List.setIfInBounds_toArray, List.set_cons_zero, List.set_cons_succ]
    refine wpAnyH_take (i := 7) (oi := ⟨some 12, _, _, _, _, _⟩) (v := .bool L.yes) rfl (by kernel_rfl) (by kernel_rfl) (by kernel_rfl) (fun _ _ _ h => h) (Or.inl ⟨by rfl, ?_⟩) (by assumption) ?_
    · intro w hSw; (try (unfold SS at hSw)); go_simp
    simp only [Act.put, List.setIfInBounds_toArray, List.set_cons_zero, List.set_cons_succ]
    refine wpAnyH_take (i := 8) (oi := ⟨some 13, _, _, _, _, _⟩) (v := .pointer (some ⟨w.heap.size + 1, 12, none⟩)) rfl (by kernel_rfl) (by kernel_rfl) (by kernel_rfl) (fun _ _ _ h => h) (Or.inl ⟨by rfl, ?_⟩) (by assumption) ?_
    · intro w hSw; (try (unfold SS at hSw)); go_simp
    simp only [Act.put, List.setIfInBounds_toArray, List.set_cons_zero, List.set_cons_succ]
    refine wpAnyH_take (i := 9) (oi := ⟨some 14, _, _, _, _, _⟩) (v := .bool M.yes) rfl (by kernel_rfl) (by kernel_rfl) (by kernel_rfl) (fun _ _ _ h => h) (Or.inl ⟨by rfl, ?_⟩) (by assumption) ?_
    · intro w hSw; (try (unfold SS at hSw)); go_simp
    simp only [Act.put, List.setIfInBounds_toArray, List.set_cons_zero, List.set_cons_succ]
    refine wpAnyH_take (i := 10) (oi := ⟨some 15, _, _, _, _, _⟩) (v := .bool true) rfl (by kernel_rfl) (by kernel_rfl) (by kernel_rfl) (fun _ _ _ h => h) (Or.inl ⟨by rfl, ?_⟩) (by assumption) ?_
    · intro w hSw; (try (unfold SS at hSw)); go_simp
    simp only [Act.put, List.setIfInBounds_toArray, List.set_cons_zero, List.set_cons_succ]
    refine wpAnyH_take (i := 11) (oi := ⟨some 16, _, _, _, _, _⟩) (v := .bool true) rfl (by kernel_rfl) (by kernel_rfl) (by kernel_rfl) (fun _ _ _ h => h) (Or.inl ⟨by rfl, ?_⟩) (by assumption) ?_
    · intro w hSw; (try (unfold SS at hSw)); go_simp
    simp only [Act.put, List.setIfInBounds_toArray, List.set_cons_zero, List.set_cons_succ]
    refine wpAnyH_take (i := 12) (oi := ⟨some 17, _, _, _, _, _⟩) (v := .bool true) rfl (by kernel_rfl) (by kernel_rfl) (by kernel_rfl) (fun _ _ _ h => h) (Or.inl ⟨by rfl, ?_⟩) (by assumption) ?_
    · intro w hSw; (try (unfold SS at hSw)); go_simp
    simp only [Act.put, List.setIfInBounds_toArray, List.set_cons_zero, List.set_cons_succ]
    refine wpAnyH_take (i := 13) (oi := ⟨some 18, _, _, _, _, _⟩) (v := .agg #[.int .i64 L.kind, .int .i64 L.frm, .int .i64 L.to, .int .i64 L.a, .int .i64 L.b, .int .i64 L.c, .int .i64 L.d, .string L.s, .string L.t, .slice Ap np cp, .slice Ai ni ci, .int .i64 L.code, .bool L.yes, .string L.body]) rfl (by kernel_rfl) (by kernel_rfl) (by kernel_rfl) (fun _ _ _ h => h) (Or.inl ⟨by rfl, ?_⟩) (by assumption) ?_
    · intro w hSw; (try (unfold SS at hSw)); go_simp
    simp only [Act.put, List.setIfInBounds_toArray, List.set_cons_zero, List.set_cons_succ]
    refine wpAnyH_take (i := 15) (oi := ⟨some 20, _, _, _, _, _⟩) (v := .agg #[.int .i64 M.kind, .int .i64 M.frm, .int .i64 M.to, .int .i64 M.a, .int .i64 M.b, .int .i64 M.c, .int .i64 M.d, .string M.s, .string M.t, .slice Bp mp dp, .slice Bi mi di, .int .i64 M.code, .bool M.yes, .string M.body]) rfl (by kernel_rfl) (by kernel_rfl) (by kernel_rfl) (fun _ _ _ h => h) (Or.inl ⟨by rfl, ?_⟩) (by assumption) ?_
    · intro w hSw; (try (unfold SS at hSw)); go_simp
    simp only [Act.put, List.setIfInBounds_toArray, List.set_cons_zero, List.set_cons_succ]
    refine wpAnyH_ready (rs := [14]) (by kernel_rfl) (by simp) (AllReadyH.cons (o := ⟨some 19, _, _, _, _, _⟩) rfl (fun K hK => ?_) AllReadyH.nil)
    go_simp
    refine (HT.out _ (Hz2.out) ).1.mono ?_
    rintro e z3 ⟨rfl, hz3⟩
    have Hz3 : Hid (Below ((w.alloc (.cells #[.int .i64 L.kind, .int .i64 L.frm, .int .i64 L.to, .int .i64 L.a, .int .i64 L.b, .int .i64 L.c, .int .i64 L.d, .string L.s, .string L.t, .slice Ap np cp, .slice Ai ni ci, .int .i64 L.code, .bool L.yes, .string L.body] 26)).alloc (.cells #[.int .i64 M.kind, .int .i64 M.frm, .int .i64 M.to, .int .i64 M.a, .int .i64 M.b, .int .i64 M.c, .int .i64 M.d, .string M.s, .string M.t, .slice Bp mp dp, .slice Bi mi di, .int .i64 M.code, .bool M.yes, .string M.body] 26)).heap.size ((w.alloc (.cells #[.int .i64 L.kind, .int .i64 L.frm, .int .i64 L.to, .int .i64 L.a, .int .i64 L.b, .int .i64 L.c, .int .i64 L.d, .string L.s, .string L.t, .slice Ap np cp, .slice Ai ni ci, .int .i64 L.code, .bool L.yes, .string L.body] 26)).alloc (.cells #[.int .i64 M.kind, .int .i64 M.frm, .int .i64 M.to, .int .i64 M.a, .int .i64 M.b, .int .i64 M.c, .int .i64 M.d, .string M.s, .string M.t, .slice Bp mp dp, .slice Bi mi di, .int .i64 M.code, .bool M.yes, .string M.body] 26)) z3) := Lib.hid ((Hz2.out).trans (hz3.mono (Hz2.out).size))
    clear hz3
    refine hK.out _ _ (HL.out z3 Hz3.out) (fun _ => ?_)
    clear hK K
    refine wpAnyH_ready (rs := [16]) (by kernel_rfl) (by simp) (AllReadyH.cons (o := ⟨some 21, _, _, _, _, _⟩) rfl (fun K hK => ?_) AllReadyH.nil)
    go_simp
    refine (HT.out _ (Hz3.out) ).2.mono ?_
    rintro e z4 ⟨rfl, hz4⟩
    have Hz4 : Hid (Below ((w.alloc (.cells #[.int .i64 L.kind, .int .i64 L.frm, .int .i64 L.to, .int .i64 L.a, .int .i64 L.b, .int .i64 L.c, .int .i64 L.d, .string L.s, .string L.t, .slice Ap np cp, .slice Ai ni ci, .int .i64 L.code, .bool L.yes, .string L.body] 26)).alloc (.cells #[.int .i64 M.kind, .int .i64 M.frm, .int .i64 M.to, .int .i64 M.a, .int .i64 M.b, .int .i64 M.c, .int .i64 M.d, .string M.s, .string M.t, .slice Bp mp dp, .slice Bi mi di, .int .i64 M.code, .bool M.yes, .string M.body] 26)).heap.size ((w.alloc (.cells #[.int .i64 L.kind, .int .i64 L.frm, .int .i64 L.to, .int .i64 L.a, .int .i64 L.b, .int .i64 L.c, .int .i64 L.d, .string L.s, .string L.t, .slice Ap np cp, .slice Ai ni ci, .int .i64 L.code, .bool L.yes, .string L.body] 26)).alloc (.cells #[.int .i64 M.kind, .int .i64 M.frm, .int .i64 M.to, .int .i64 M.a, .int .i64 M.b, .int .i64 M.c, .int .i64 M.d, .string M.s, .string M.t, .slice Bp mp dp, .slice Bi mi di, .int .i64 M.code, .bool M.yes, .string M.body] 26)) z4) := Lib.hid ((Hz3.out).trans (hz4.mono (Hz3.out).size))
    clear hz4
    refine hK.out _ _ (HL.out z4 Hz4.out) (fun _ => ?_)
    clear hK K
    refine wpAnyH_take (i := 17) (oi := ⟨some 22, _, _, _, _, _⟩) (v := .bool true) rfl (by kernel_rfl) (by kernel_rfl) (by kernel_rfl) (fun _ _ _ h => h) (Or.inl ⟨by rfl, ?_⟩) (by assumption) ?_
    · intro w hSw; (try (unfold SS at hSw)); go_simp
    simp only [Act.put, List.setIfInBounds_toArray, List.set_cons_zero, List.set_cons_succ]
    refine wpAnyH_take (i := 18) (oi := ⟨some 23, _, _, _, _, _⟩) (v := .bool true) rfl (by kernel_rfl) (by kernel_rfl) (by kernel_rfl) (fun _ _ _ h => h) (Or.inl ⟨by rfl, ?_⟩) (by assumption) ?_
    · intro w hSw; (try (unfold SS at hSw)); go_simp
    simp only [Act.put, List.setIfInBounds_toArray, List.set_cons_zero, List.set_cons_succ]
    refine wpAnyH_take (i := 19) (oi := ⟨some 24, _, _, _, _, _⟩) (v := .bool true) rfl (by kernel_rfl) (by kernel_rfl) (by kernel_rfl) (fun _ _ _ h => h) (Or.inl ⟨by rfl, ?_⟩) (by assumption) ?_
    · intro w hSw; (try (unfold SS at hSw)); go_simp
    simp only [Act.put, List.setIfInBounds_toArray, List.set_cons_zero, List.set_cons_succ]
    refine wpAnyH_take (i := 20) (oi := ⟨some 25, _, _, _, _, _⟩) (v := .pointer (some ⟨w.heap.size, 9, none⟩)) rfl (by kernel_rfl) (by kernel_rfl) (by kernel_rfl) (fun _ _ _ h => h) (Or.inl ⟨by rfl, ?_⟩) (by assumption) ?_
    · intro w hSw; (try (unfold SS at hSw)); go_simp
    simp only [Act.put, List.setIfInBounds_toArray, List.set_cons_zero, List.set_cons_succ]
    refine wpAnyH_take (i := 21) (oi := ⟨some 26, _, _, _, _, _⟩) (v := .slice Ap np cp) rfl (by kernel_rfl) (by kernel_rfl) (by kernel_rfl) (fun _ _ _ h => h) (Or.inl ⟨by rfl, ?_⟩) (by assumption) ?_
    · intro w hSw; (try (unfold SS at hSw)); go_simp
    simp only [Act.put, List.setIfInBounds_toArray, List.set_cons_zero, List.set_cons_succ]
    refine wpAnyH_take (i := 22) (oi := ⟨some 27, _, _, _, _, _⟩) (v := .pointer (some ⟨w.heap.size + 1, 9, none⟩)) rfl (by kernel_rfl) (by kernel_rfl) (by kernel_rfl) (fun _ _ _ h => h) (Or.inl ⟨by rfl, ?_⟩) (by assumption) ?_
    · intro w hSw; (try (unfold SS at hSw)); go_simp
    simp only [Act.put, List.setIfInBounds_toArray, List.set_cons_zero, List.set_cons_succ]
    refine wpAnyH_take (i := 23) (oi := ⟨some 28, _, _, _, _, _⟩) (v := .slice Bp mp dp) rfl (by kernel_rfl) (by kernel_rfl) (by kernel_rfl) (fun _ _ _ h => h) (Or.inl ⟨by rfl, ?_⟩) (by assumption) ?_
    · intro w hSw; (try (unfold SS at hSw)); go_simp
    simp only [Act.put, List.setIfInBounds_toArray, List.set_cons_zero, List.set_cons_succ]
    refine wpAnyH_ready (rs := [24]) (by kernel_rfl) (by simp) (AllReadyH.cons (o := ⟨some 29, _, _, _, _, _⟩) rfl (fun K hK => ?_) AllReadyH.nil)
    go_simp
    refine (HEP.out _ (Hz4.out)).mono ?_
    rintro e z5 ⟨rfl, hz5⟩
    have Hz5 : Hid (Below ((w.alloc (.cells #[.int .i64 L.kind, .int .i64 L.frm, .int .i64 L.to, .int .i64 L.a, .int .i64 L.b, .int .i64 L.c, .int .i64 L.d, .string L.s, .string L.t, .slice Ap np cp, .slice Ai ni ci, .int .i64 L.code, .bool L.yes, .string L.body] 26)).alloc (.cells #[.int .i64 M.kind, .int .i64 M.frm, .int .i64 M.to, .int .i64 M.a, .int .i64 M.b, .int .i64 M.c, .int .i64 M.d, .string M.s, .string M.t, .slice Bp mp dp, .slice Bi mi di, .int .i64 M.code, .bool M.yes, .string M.body] 26)).heap.size ((w.alloc (.cells #[.int .i64 L.kind, .int .i64 L.frm, .int .i64 L.to, .int .i64 L.a, .int .i64 L.b, .int .i64 L.c, .int .i64 L.d, .string L.s, .string L.t, .slice Ap np cp, .slice Ai ni ci, .int .i64 L.code, .bool L.yes, .string L.body] 26)).alloc (.cells #[.int .i64 M.kind, .int .i64 M.frm, .int .i64 M.to, .int .i64 M.a, .int .i64 M.b, .int .i64 M.c, .int .i64 M.d, .string M.s, .string M.t, .slice Bp mp dp, .slice Bi mi di, .int .i64 M.code, .bool M.yes, .string M.body] 26)) z5) := Lib.hid ((Hz4.out).trans (hz5.mono (Hz4.out).size))
    clear hz5
    refine hK.out _ _ (HL.out z5 Hz5.out) (fun _ => ?_)
    clear hK K
    refine wpAnyH_take (i := 25) (oi := ⟨some 30, _, _, _, _, _⟩) (v := .bool false) rfl (by kernel_rfl) (by kernel_rfl) (by kernel_rfl) (fun _ _ _ h => h) (Or.inl ⟨by rfl, ?_⟩) (by assumption) ?_
    · intro w hSw; (try (unfold SS at hSw)); go_simp
    simp only [Act.put, List.setIfInBounds_toArray, List.set_cons_zero, List.set_cons_succ]
    refine wpAnyH_take (i := 26) (oi := ⟨some 31, _, _, _, _, _⟩) (v := .bool false) rfl (by kernel_rfl) (by kernel_rfl) (by kernel_rfl) (fun _ _ _ h => h) (Or.inl ⟨by rfl, ?_⟩) (by assumption) ?_
    · intro w hSw; (try (unfold SS at hSw)); go_simp
    simp only [Act.put, List.setIfInBounds_toArray, List.set_cons_zero, List.set_cons_succ]
    refine wpAnyH_take (i := 27) (oi := ⟨some 32, _, _, _, _, _⟩) (v := undef) rfl (by kernel_rfl) (by kernel_rfl) (by kernel_rfl) (fun _ _ _ h => h) (Or.inr ⟨by rfl, rfl⟩) (by assumption) ?_
    simp only [Act.put, List.setIfInBounds_toArray, List.set_cons_zero, List.set_cons_succ]
    refine wpAnyH_take (i := 28) (oi := ⟨some 33, _, _, _, _, _⟩) (v := undef) rfl (by kernel_rfl) (by kernel_rfl) (by kernel_rfl) (fun _ _ _ h => h) (Or.inr ⟨by rfl, rfl⟩) (by assumption) ?_
    simp only [Act.put, List.setIfInBounds_toArray, List.set_cons_zero, List.set_cons_succ]
    refine wpAnyH_take (i := 29) (oi := ⟨some 34, _, _, _, _, _⟩) (v := undef) rfl (by kernel_rfl) (by kernel_rfl) (by kernel_rfl) (fun _ _ _ h => h) (Or.inr ⟨by rfl, rfl⟩) (by assumption) ?_
    simp only [Act.put, List.setIfInBounds_toArray, List.set_cons_zero, List.set_cons_succ]
    refine wpAnyH_take (i := 30) (oi := ⟨some 35, _, _, _, _, _⟩) (v := undef) rfl (by kernel_rfl) (by kernel_rfl) (by kernel_rfl) (fun _ _ _ h => h) (Or.inr ⟨by rfl, rfl⟩) (by assumption) ?_
    simp only [Act.put, List.setIfInBounds_toArray, List.set_cons_zero, List.set_cons_succ]
    refine wpAnyH_take (i := 31) (oi := ⟨some 36, _, _, _, _, _⟩) (v := undef) rfl (by kernel_rfl) (by kernel_rfl) (by kernel_rfl) (fun _ _ _ h => h) (Or.inr ⟨by rfl, rfl⟩) (by assumption) ?_
    simp only [Act.put, List.setIfInBounds_toArray, List.set_cons_zero, List.set_cons_succ]
    refine wpAnyH_take (i := 32) (oi := ⟨some 37, _, _, _, _, _⟩) (v := .bool false) rfl (by kernel_rfl) (by kernel_rfl) (by kernel_rfl) (fun _ _ _ h => h) (Or.inl ⟨by rfl, ?_⟩) (by assumption) ?_
    · intro w hSw; (try (unfold SS at hSw)); go_simp
    simp only [Act.put, List.setIfInBounds_toArray, List.set_cons_zero, List.set_cons_succ]
    refine wpAnyH_take (i := 33) (oi := ⟨some 4, _, _, _, _, _⟩) (v := .bool false) rfl (by kernel_rfl) (by kernel_rfl) (by kernel_rfl) (fun _ _ _ h => h) (Or.inl ⟨by rfl, ?_⟩) (by assumption) ?_
    · intro w hSw; (try (unfold SS at hSw)); go_simp
    simp only [Act.put, List.setIfInBounds_toArray, List.set_cons_zero, List.set_cons_succ]
    refine wpAnyH_done (by kernel_rfl) ?_ _
    go_wp2
    go_ret
    exact ⟨ret_bool (by rw [E.out]), HBe.out _ Hz5.out⟩
  | true =>
    have E : Hid (decide (L = M) = ei) := Lib.hid (by
      rw [← hei]
      refine decide_eq_decide.2 ⟨fun e => by rw [e], fun h4 => ?_⟩
      have h5 := of_decide_eq_true hep
      obtain ⟨k1, k2, k3, k4, k5, k6, k7, k8, k9, k10, k11, k12, k13, k14⟩ := L
      obtain ⟨m1, m2, m3, m4, m5, m6, m7, m8, m9, m10, m11, m12, m13, m14⟩ := M
      simp only [Let.nums, Let.txts, List.cons.injEq, and_true] at e1 e3
      simp only at e2 h4 h5
      simp [e1, e2, e3, h4, h5])
    clear e1 e2 e3 hep hei
    go_enter Try.func18, Try.ntmps18
    go_upto_region 1 with fail
    have hS0 := HL.out ((w.alloc (.cells #[.int .i64 L.kind, .int .i64 L.frm, .int .i64 L.to, .int .i64 L.a, .int .i64 L.b, .int .i64 L.c, .int .i64 L.d, .string L.s, .string L.t, .slice Ap np cp, .slice Ai ni ci, .int .i64 L.code, .bool L.yes, .string L.body] 26)).alloc (.cells #[.int .i64 M.kind, .int .i64 M.frm, .int .i64 M.to, .int .i64 M.a, .int .i64 M.b, .int .i64 M.c, .int .i64 M.d, .string M.s, .string M.t, .slice Bp mp dp, .slice Bi mi di, .int .i64 M.code, .bool M.yes, .string M.body] 26)) (Below.refl _ _)
    refine wp_region_held_drew (S := SS w L M Ap np cp Ai ni ci Bp mp dp Bi mi di) (by kernel_rfl) hS0 (fun hHeld => ?_)
    clear hS0
    refine wpAnyH_take (i := 0) (oi := ⟨some 5, _, _, _, _, _⟩) (v := .agg #[.int .i64 L.kind, .int .i64 L.frm, .int .i64 L.to, .int .i64 L.a, .int .i64 L.b, .int .i64 L.c, .int .i64 L.d, .string L.s, .string L.t, .slice Ap np cp, .slice Ai ni ci, .int .i64 L.code, .bool L.yes, .string L.body]) rfl (by kernel_rfl) (by kernel_rfl) (by kernel_rfl) (fun _ _ _ h => h) (Or.inl ⟨by rfl, ?_⟩) (by assumption) ?_
    · intro w hSw; (try (unfold SS at hSw)); go_simp
    simp only [Act.put, List.setIfInBounds_toArray, List.set_cons_zero, List.set_cons_succ]
    refine wpAnyH_take (i := 2) (oi := ⟨some 7, _, _, _, _, _⟩) (v := .agg #[.int .i64 M.kind, .int .i64 M.frm, .int .i64 M.to, .int .i64 M.a, .int .i64 M.b, .int .i64 M.c, .int .i64 M.d, .string M.s, .string M.t, .slice Bp mp dp, .slice Bi mi di, .int .i64 M.code, .bool M.yes, .string M.body]) rfl (by kernel_rfl) (by kernel_rfl) (by kernel_rfl) (fun _ _ _ h => h) (Or.inl ⟨by rfl, ?_⟩) (by assumption) ?_
    · intro w hSw; (try (unfold SS at hSw)); go_simp
    simp only [Act.put, List.setIfInBounds_toArray, List.set_cons_zero, List.set_cons_succ]
    refine wpAnyH_ready (rs := [1]) (by kernel_rfl) (by simp) (AllReadyH.cons (o := ⟨some 6, _, _, _, _, _⟩) rfl (fun K hK => ?_) AllReadyH.nil)
    go_simp
    refine (HN.out _ ((Below.refl ((w.alloc (.cells #[.int .i64 L.kind, .int .i64 L.frm, .int .i64 L.to, .int .i64 L.a, .int .i64 L.b, .int .i64 L.c, .int .i64 L.d, .string L.s, .string L.t, .slice Ap np cp, .slice Ai ni ci, .int .i64 L.code, .bool L.yes, .string L.body] 26)).alloc (.cells #[.int .i64 M.kind, .int .i64 M.frm, .int .i64 M.to, .int .i64 M.a, .int .i64 M.b, .int .i64 M.c, .int .i64 M.d, .string M.s, .string M.t, .slice Bp mp dp, .slice Bi mi di, .int .i64 M.code, .bool M.yes, .string M.body] 26)).heap.size ((w.alloc (.cells #[.int .i64 L.kind, .int .i64 L.frm, .int .i64 L.to, .int .i64 L.a, .int .i64 L.b, .int .i64 L.c, .int .i64 L.d, .string L.s, .string L.t, .slice Ap np cp, .slice Ai ni ci, .int .i64 L.code, .bool L.yes, .string L.body] 26)).alloc (.cells #[.int .i64 M.kind, .int .i64 M.frm, .int .i64 M.to, .int .i64 M.a, .int .i64 M.b, .int .i64 M.c, .int .i64 M.d, .string M.s, .string M.t, .slice Bp mp dp, .slice Bi mi di, .int .i64 M.code, .bool M.yes, .string M.body] 26))).drew) ).1.mono ?_
    rintro e z1 ⟨rfl, hz1⟩
    have Hz1 : Hid (Below ((w.alloc (.cells #[.int .i64 L.kind, .int .i64 L.frm, .int .i64 L.to, .int .i64 L.a, .int .i64 L.b, .int .i64 L.c, .int .i64 L.d, .string L.s, .string L.t, .slice Ap np cp, .slice Ai ni ci, .int .i64 L.code, .bool L.yes, .string L.body] 26)).alloc (.cells #[.int .i64 M.kind, .int .i64 M.frm, .int .i64 M.to, .int .i64 M.a, .int .i64 M.b, .int .i64 M.c, .int .i64 M.d, .string M.s, .string M.t, .slice Bp mp dp, .slice Bi mi di, .int .i64 M.code, .bool M.yes, .string M.body] 26)).heap.size ((w.alloc (.cells #[.int .i64 L.kind, .int .i64 L.frm, .int .i64 L.to, .int .i64 L.a, .int .i64 L.b, .int .i64 L.c, .int .i64 L.d, .string L.s, .string L.t, .slice Ap np cp, .slice Ai ni ci, .int .i64 L.code, .bool L.yes, .string L.body] 26)).alloc (.cells #[.int .i64 M.kind, .int .i64 M.frm, .int .i64 M.to, .int .i64 M.a, .int .i64 M.b, .int .i64 M.c, .int .i64 M.d, .string M.s, .string M.t, .slice Bp mp dp, .slice Bi mi di, .int .i64 M.code, .bool M.yes, .string M.body] 26)) z1) := Lib.hid (((Below.refl ((w.alloc (.cells #[.int .i64 L.kind, .int .i64 L.frm, .int .i64 L.to, .int .i64 L.a, .int .i64 L.b, .int .i64 L.c, .int .i64 L.d, .string L.s, .string L.t, .slice Ap np cp, .slice Ai ni ci, .int .i64 L.code, .bool L.yes, .string L.body] 26)).alloc (.cells #[.int .i64 M.kind, .int .i64 M.frm, .int .i64 M.to, .int .i64 M.a, .int .i64 M.b, .int .i64 M.c, .int .i64 M.d, .string M.s, .string M.t, .slice Bp mp dp, .slice Bi mi di, .int .i64 M.code, .bool M.yes, .string M.body] 26)).heap.size ((w.alloc (.cells #[.int .i64 L.kind, .int .i64 L.frm, .int .i64 L.to, .int .i64 L.a, .int .i64 L.b, .int .i64 L.c, .int .i64 L.d, .string L.s, .string L.t, .slice Ap np cp, .slice Ai ni ci, .int .i64 L.code, .bool L.yes, .string L.body] 26)).alloc (.cells #[.int .i64 M.kind, .int .i64 M.frm, .int .i64 M.to, .int .i64 M.a, .int .i64 M.b, .int .i64 M.c, .int .i64 M.d, .string M.s, .string M.t, .slice Bp mp dp, .slice Bi mi di, .int .i64 M.code, .bool M.yes, .string M.body] 26))).drew).trans (hz1.mono ((Below.refl ((w.alloc (.cells #[.int .i64 L.kind, .int .i64 L.frm, .int .i64 L.to, .int .i64 L.a, .int .i64 L.b, .int .i64 L.c, .int .i64 L.d, .string L.s, .string L.t, .slice Ap np cp, .slice Ai ni ci, .int .i64 L.code, .bool L.yes, .string L.body] 26)).alloc (.cells #[.int .i64 M.kind, .int .i64 M.frm, .int .i64 M.to, .int .i64 M.a, .int .i64 M.b, .int .i64 M.c, .int .i64 M.d, .string M.s, .string M.t, .slice Bp mp dp, .slice Bi mi di, .int .i64 M.code, .bool M.yes, .string M.body] 26)).heap.size ((w.alloc (.cells #[.int .i64 L.kind, .int .i64 L.frm, .int .i64 L.to, .int .i64 L.a, .int .i64 L.b, .int .i64 L.c, .int .i64 L.d, .string L.s, .string L.t, .slice Ap np cp, .slice Ai ni ci, .int .i64 L.code, .bool L.yes, .string L.body] 26)).alloc (.cells #[.int .i64 M.kind, .int .i64 M.frm, .int .i64 M.to, .int .i64 M.a, .int .i64 M.b, .int .i64 M.c, .int .i64 M.d, .string M.s, .string M.t, .slice Bp mp dp, .slice Bi mi di, .int .i64 M.code, .bool M.yes, .string M.body] 26))).drew).size))
    clear hz1
    refine hK.out _ _ (HL.out z1 Hz1.out) (fun _ => ?_)
    clear hK K
    refine wpAnyH_ready (rs := [3]) (by kernel_rfl) (by simp) (AllReadyH.cons (o := ⟨some 8, _, _, _, _, _⟩) rfl (fun K hK => ?_) AllReadyH.nil)
    go_simp
    refine (HN.out _ (Hz1.out) ).2.mono ?_
    rintro e z2 ⟨rfl, hz2⟩
    have Hz2 : Hid (Below ((w.alloc (.cells #[.int .i64 L.kind, .int .i64 L.frm, .int .i64 L.to, .int .i64 L.a, .int .i64 L.b, .int .i64 L.c, .int .i64 L.d, .string L.s, .string L.t, .slice Ap np cp, .slice Ai ni ci, .int .i64 L.code, .bool L.yes, .string L.body] 26)).alloc (.cells #[.int .i64 M.kind, .int .i64 M.frm, .int .i64 M.to, .int .i64 M.a, .int .i64 M.b, .int .i64 M.c, .int .i64 M.d, .string M.s, .string M.t, .slice Bp mp dp, .slice Bi mi di, .int .i64 M.code, .bool M.yes, .string M.body] 26)).heap.size ((w.alloc (.cells #[.int .i64 L.kind, .int .i64 L.frm, .int .i64 L.to, .int .i64 L.a, .int .i64 L.b, .int .i64 L.c, .int .i64 L.d, .string L.s, .string L.t, .slice Ap np cp, .slice Ai ni ci, .int .i64 L.code, .bool L.yes, .string L.body] 26)).alloc (.cells #[.int .i64 M.kind, .int .i64 M.frm, .int .i64 M.to, .int .i64 M.a, .int .i64 M.b, .int .i64 M.c, .int .i64 M.d, .string M.s, .string M.t, .slice Bp mp dp, .slice Bi mi di, .int .i64 M.code, .bool M.yes, .string M.body] 26)) z2) := Lib.hid ((Hz1.out).trans (hz2.mono (Hz1.out).size))
    clear hz2
    refine hK.out _ _ (HL.out z2 Hz2.out) (fun _ => ?_)
    clear hK K
    refine wpAnyH_take (i := 4) (oi := ⟨some 9, _, _, _, _, _⟩) (v := .bool true) rfl (by kernel_rfl) (by kernel_rfl) (by kernel_rfl) (fun _ _ _ h => h) (Or.inl ⟨by rfl, ?_⟩) (by assumption) ?_
    · intro w hSw; (try (unfold SS at hSw)); go_simp
    simp only [Act.put, List.setIfInBounds_toArray, List.set_cons_zero, List.set_cons_succ]
    refine wpAnyH_take (i := 5) (oi := ⟨some 10, _, _, _, _, _⟩) (v := .bool true) rfl (by kernel_rfl) (by kernel_rfl) (by kernel_rfl) (fun _ _ _ h => h) (Or.inl ⟨by rfl, ?_⟩) (by assumption) ?_
    · intro w hSw; (try (unfold SS at hSw)); go_simp
    simp only [Act.put, List.setIfInBounds_toArray, List.set_cons_zero, List.set_cons_succ]
    refine wpAnyH_take (i := 6) (oi := ⟨some 11, _, _, _, _, _⟩) (v := .pointer (some ⟨w.heap.size, 12, none⟩)) rfl (by kernel_rfl) (by kernel_rfl) (by kernel_rfl) (fun _ _ _ h => h) (Or.inl ⟨by rfl, ?_⟩) (by assumption) ?_
    · intro w hSw; (try (unfold SS at hSw)); go_simp
    simp only [Act.put, List.setIfInBounds_toArray, List.set_cons_zero, List.set_cons_succ]
    refine wpAnyH_take (i := 7) (oi := ⟨some 12, _, _, _, _, _⟩) (v := .bool L.yes) rfl (by kernel_rfl) (by kernel_rfl) (by kernel_rfl) (fun _ _ _ h => h) (Or.inl ⟨by rfl, ?_⟩) (by assumption) ?_
    · intro w hSw; (try (unfold SS at hSw)); go_simp
    simp only [Act.put, List.setIfInBounds_toArray, List.set_cons_zero, List.set_cons_succ]
    refine wpAnyH_take (i := 8) (oi := ⟨some 13, _, _, _, _, _⟩) (v := .pointer (some ⟨w.heap.size + 1, 12, none⟩)) rfl (by kernel_rfl) (by kernel_rfl) (by kernel_rfl) (fun _ _ _ h => h) (Or.inl ⟨by rfl, ?_⟩) (by assumption) ?_
    · intro w hSw; (try (unfold SS at hSw)); go_simp
    simp only [Act.put, List.setIfInBounds_toArray, List.set_cons_zero, List.set_cons_succ]
    refine wpAnyH_take (i := 9) (oi := ⟨some 14, _, _, _, _, _⟩) (v := .bool M.yes) rfl (by kernel_rfl) (by kernel_rfl) (by kernel_rfl) (fun _ _ _ h => h) (Or.inl ⟨by rfl, ?_⟩) (by assumption) ?_
    · intro w hSw; (try (unfold SS at hSw)); go_simp
    simp only [Act.put, List.setIfInBounds_toArray, List.set_cons_zero, List.set_cons_succ]
    refine wpAnyH_take (i := 10) (oi := ⟨some 15, _, _, _, _, _⟩) (v := .bool true) rfl (by kernel_rfl) (by kernel_rfl) (by kernel_rfl) (fun _ _ _ h => h) (Or.inl ⟨by rfl, ?_⟩) (by assumption) ?_
    · intro w hSw; (try (unfold SS at hSw)); go_simp
    simp only [Act.put, List.setIfInBounds_toArray, List.set_cons_zero, List.set_cons_succ]
    refine wpAnyH_take (i := 11) (oi := ⟨some 16, _, _, _, _, _⟩) (v := .bool true) rfl (by kernel_rfl) (by kernel_rfl) (by kernel_rfl) (fun _ _ _ h => h) (Or.inl ⟨by rfl, ?_⟩) (by assumption) ?_
    · intro w hSw; (try (unfold SS at hSw)); go_simp
    simp only [Act.put, List.setIfInBounds_toArray, List.set_cons_zero, List.set_cons_succ]
    refine wpAnyH_take (i := 12) (oi := ⟨some 17, _, _, _, _, _⟩) (v := .bool true) rfl (by kernel_rfl) (by kernel_rfl) (by kernel_rfl) (fun _ _ _ h => h) (Or.inl ⟨by rfl, ?_⟩) (by assumption) ?_
    · intro w hSw; (try (unfold SS at hSw)); go_simp
    simp only [Act.put, List.setIfInBounds_toArray, List.set_cons_zero, List.set_cons_succ]
    refine wpAnyH_take (i := 13) (oi := ⟨some 18, _, _, _, _, _⟩) (v := .agg #[.int .i64 L.kind, .int .i64 L.frm, .int .i64 L.to, .int .i64 L.a, .int .i64 L.b, .int .i64 L.c, .int .i64 L.d, .string L.s, .string L.t, .slice Ap np cp, .slice Ai ni ci, .int .i64 L.code, .bool L.yes, .string L.body]) rfl (by kernel_rfl) (by kernel_rfl) (by kernel_rfl) (fun _ _ _ h => h) (Or.inl ⟨by rfl, ?_⟩) (by assumption) ?_
    · intro w hSw; (try (unfold SS at hSw)); go_simp
    simp only [Act.put, List.setIfInBounds_toArray, List.set_cons_zero, List.set_cons_succ]
    refine wpAnyH_take (i := 15) (oi := ⟨some 20, _, _, _, _, _⟩) (v := .agg #[.int .i64 M.kind, .int .i64 M.frm, .int .i64 M.to, .int .i64 M.a, .int .i64 M.b, .int .i64 M.c, .int .i64 M.d, .string M.s, .string M.t, .slice Bp mp dp, .slice Bi mi di, .int .i64 M.code, .bool M.yes, .string M.body]) rfl (by kernel_rfl) (by kernel_rfl) (by kernel_rfl) (fun _ _ _ h => h) (Or.inl ⟨by rfl, ?_⟩) (by assumption) ?_
    · intro w hSw; (try (unfold SS at hSw)); go_simp
    simp only [Act.put, List.setIfInBounds_toArray, List.set_cons_zero, List.set_cons_succ]
    refine wpAnyH_ready (rs := [14]) (by kernel_rfl) (by simp) (AllReadyH.cons (o := ⟨some 19, _, _, _, _, _⟩) rfl (fun K hK => ?_) AllReadyH.nil)
    go_simp
    refine (HT.out _ (Hz2.out) ).1.mono ?_
    rintro e z3 ⟨rfl, hz3⟩
    have Hz3 : Hid (Below ((w.alloc (.cells #[.int .i64 L.kind, .int .i64 L.frm, .int .i64 L.to, .int .i64 L.a, .int .i64 L.b, .int .i64 L.c, .int .i64 L.d, .string L.s, .string L.t, .slice Ap np cp, .slice Ai ni ci, .int .i64 L.code, .bool L.yes, .string L.body] 26)).alloc (.cells #[.int .i64 M.kind, .int .i64 M.frm, .int .i64 M.to, .int .i64 M.a, .int .i64 M.b, .int .i64 M.c, .int .i64 M.d, .string M.s, .string M.t, .slice Bp mp dp, .slice Bi mi di, .int .i64 M.code, .bool M.yes, .string M.body] 26)).heap.size ((w.alloc (.cells #[.int .i64 L.kind, .int .i64 L.frm, .int .i64 L.to, .int .i64 L.a, .int .i64 L.b, .int .i64 L.c, .int .i64 L.d, .string L.s, .string L.t, .slice Ap np cp, .slice Ai ni ci, .int .i64 L.code, .bool L.yes, .string L.body] 26)).alloc (.cells #[.int .i64 M.kind, .int .i64 M.frm, .int .i64 M.to, .int .i64 M.a, .int .i64 M.b, .int .i64 M.c, .int .i64 M.d, .string M.s, .string M.t, .slice Bp mp dp, .slice Bi mi di, .int .i64 M.code, .bool M.yes, .string M.body] 26)) z3) := Lib.hid ((Hz2.out).trans (hz3.mono (Hz2.out).size))
    clear hz3
    refine hK.out _ _ (HL.out z3 Hz3.out) (fun _ => ?_)
    clear hK K
    refine wpAnyH_ready (rs := [16]) (by kernel_rfl) (by simp) (AllReadyH.cons (o := ⟨some 21, _, _, _, _, _⟩) rfl (fun K hK => ?_) AllReadyH.nil)
    go_simp
    refine (HT.out _ (Hz3.out) ).2.mono ?_
    rintro e z4 ⟨rfl, hz4⟩
    have Hz4 : Hid (Below ((w.alloc (.cells #[.int .i64 L.kind, .int .i64 L.frm, .int .i64 L.to, .int .i64 L.a, .int .i64 L.b, .int .i64 L.c, .int .i64 L.d, .string L.s, .string L.t, .slice Ap np cp, .slice Ai ni ci, .int .i64 L.code, .bool L.yes, .string L.body] 26)).alloc (.cells #[.int .i64 M.kind, .int .i64 M.frm, .int .i64 M.to, .int .i64 M.a, .int .i64 M.b, .int .i64 M.c, .int .i64 M.d, .string M.s, .string M.t, .slice Bp mp dp, .slice Bi mi di, .int .i64 M.code, .bool M.yes, .string M.body] 26)).heap.size ((w.alloc (.cells #[.int .i64 L.kind, .int .i64 L.frm, .int .i64 L.to, .int .i64 L.a, .int .i64 L.b, .int .i64 L.c, .int .i64 L.d, .string L.s, .string L.t, .slice Ap np cp, .slice Ai ni ci, .int .i64 L.code, .bool L.yes, .string L.body] 26)).alloc (.cells #[.int .i64 M.kind, .int .i64 M.frm, .int .i64 M.to, .int .i64 M.a, .int .i64 M.b, .int .i64 M.c, .int .i64 M.d, .string M.s, .string M.t, .slice Bp mp dp, .slice Bi mi di, .int .i64 M.code, .bool M.yes, .string M.body] 26)) z4) := Lib.hid ((Hz3.out).trans (hz4.mono (Hz3.out).size))
    clear hz4
    refine hK.out _ _ (HL.out z4 Hz4.out) (fun _ => ?_)
    clear hK K
    refine wpAnyH_take (i := 17) (oi := ⟨some 22, _, _, _, _, _⟩) (v := .bool true) rfl (by kernel_rfl) (by kernel_rfl) (by kernel_rfl) (fun _ _ _ h => h) (Or.inl ⟨by rfl, ?_⟩) (by assumption) ?_
    · intro w hSw; (try (unfold SS at hSw)); go_simp
    simp only [Act.put, List.setIfInBounds_toArray, List.set_cons_zero, List.set_cons_succ]
    refine wpAnyH_take (i := 18) (oi := ⟨some 23, _, _, _, _, _⟩) (v := .bool true) rfl (by kernel_rfl) (by kernel_rfl) (by kernel_rfl) (fun _ _ _ h => h) (Or.inl ⟨by rfl, ?_⟩) (by assumption) ?_
    · intro w hSw; (try (unfold SS at hSw)); go_simp
    simp only [Act.put, List.setIfInBounds_toArray, List.set_cons_zero, List.set_cons_succ]
    refine wpAnyH_take (i := 19) (oi := ⟨some 24, _, _, _, _, _⟩) (v := .bool true) rfl (by kernel_rfl) (by kernel_rfl) (by kernel_rfl) (fun _ _ _ h => h) (Or.inl ⟨by rfl, ?_⟩) (by assumption) ?_
    · intro w hSw; (try (unfold SS at hSw)); go_simp
    simp only [Act.put, List.setIfInBounds_toArray, List.set_cons_zero, List.set_cons_succ]
    refine wpAnyH_take (i := 20) (oi := ⟨some 25, _, _, _, _, _⟩) (v := .pointer (some ⟨w.heap.size, 9, none⟩)) rfl (by kernel_rfl) (by kernel_rfl) (by kernel_rfl) (fun _ _ _ h => h) (Or.inl ⟨by rfl, ?_⟩) (by assumption) ?_
    · intro w hSw; (try (unfold SS at hSw)); go_simp
    simp only [Act.put, List.setIfInBounds_toArray, List.set_cons_zero, List.set_cons_succ]
    refine wpAnyH_take (i := 21) (oi := ⟨some 26, _, _, _, _, _⟩) (v := .slice Ap np cp) rfl (by kernel_rfl) (by kernel_rfl) (by kernel_rfl) (fun _ _ _ h => h) (Or.inl ⟨by rfl, ?_⟩) (by assumption) ?_
    · intro w hSw; (try (unfold SS at hSw)); go_simp
    simp only [Act.put, List.setIfInBounds_toArray, List.set_cons_zero, List.set_cons_succ]
    refine wpAnyH_take (i := 22) (oi := ⟨some 27, _, _, _, _, _⟩) (v := .pointer (some ⟨w.heap.size + 1, 9, none⟩)) rfl (by kernel_rfl) (by kernel_rfl) (by kernel_rfl) (fun _ _ _ h => h) (Or.inl ⟨by rfl, ?_⟩) (by assumption) ?_
    · intro w hSw; (try (unfold SS at hSw)); go_simp
    simp only [Act.put, List.setIfInBounds_toArray, List.set_cons_zero, List.set_cons_succ]
    refine wpAnyH_take (i := 23) (oi := ⟨some 28, _, _, _, _, _⟩) (v := .slice Bp mp dp) rfl (by kernel_rfl) (by kernel_rfl) (by kernel_rfl) (fun _ _ _ h => h) (Or.inl ⟨by rfl, ?_⟩) (by assumption) ?_
    · intro w hSw; (try (unfold SS at hSw)); go_simp
    simp only [Act.put, List.setIfInBounds_toArray, List.set_cons_zero, List.set_cons_succ]
    refine wpAnyH_ready (rs := [24]) (by kernel_rfl) (by simp) (AllReadyH.cons (o := ⟨some 29, _, _, _, _, _⟩) rfl (fun K hK => ?_) AllReadyH.nil)
    go_simp
    refine (HEP.out _ (Hz4.out)).mono ?_
    rintro e z5 ⟨rfl, hz5⟩
    have Hz5 : Hid (Below ((w.alloc (.cells #[.int .i64 L.kind, .int .i64 L.frm, .int .i64 L.to, .int .i64 L.a, .int .i64 L.b, .int .i64 L.c, .int .i64 L.d, .string L.s, .string L.t, .slice Ap np cp, .slice Ai ni ci, .int .i64 L.code, .bool L.yes, .string L.body] 26)).alloc (.cells #[.int .i64 M.kind, .int .i64 M.frm, .int .i64 M.to, .int .i64 M.a, .int .i64 M.b, .int .i64 M.c, .int .i64 M.d, .string M.s, .string M.t, .slice Bp mp dp, .slice Bi mi di, .int .i64 M.code, .bool M.yes, .string M.body] 26)).heap.size ((w.alloc (.cells #[.int .i64 L.kind, .int .i64 L.frm, .int .i64 L.to, .int .i64 L.a, .int .i64 L.b, .int .i64 L.c, .int .i64 L.d, .string L.s, .string L.t, .slice Ap np cp, .slice Ai ni ci, .int .i64 L.code, .bool L.yes, .string L.body] 26)).alloc (.cells #[.int .i64 M.kind, .int .i64 M.frm, .int .i64 M.to, .int .i64 M.a, .int .i64 M.b, .int .i64 M.c, .int .i64 M.d, .string M.s, .string M.t, .slice Bp mp dp, .slice Bi mi di, .int .i64 M.code, .bool M.yes, .string M.body] 26)) z5) := Lib.hid ((Hz4.out).trans (hz5.mono (Hz4.out).size))
    clear hz5
    refine hK.out _ _ (HL.out z5 Hz5.out) (fun _ => ?_)
    clear hK K
    refine wpAnyH_take (i := 25) (oi := ⟨some 30, _, _, _, _, _⟩) (v := .bool true) rfl (by kernel_rfl) (by kernel_rfl) (by kernel_rfl) (fun _ _ _ h => h) (Or.inl ⟨by rfl, ?_⟩) (by assumption) ?_
    · intro w hSw; (try (unfold SS at hSw)); go_simp
    simp only [Act.put, List.setIfInBounds_toArray, List.set_cons_zero, List.set_cons_succ]
    refine wpAnyH_take (i := 26) (oi := ⟨some 31, _, _, _, _, _⟩) (v := .bool true) rfl (by kernel_rfl) (by kernel_rfl) (by kernel_rfl) (fun _ _ _ h => h) (Or.inl ⟨by rfl, ?_⟩) (by assumption) ?_
    · intro w hSw; (try (unfold SS at hSw)); go_simp
    simp only [Act.put, List.setIfInBounds_toArray, List.set_cons_zero, List.set_cons_succ]
    refine wpAnyH_take (i := 27) (oi := ⟨some 32, _, _, _, _, _⟩) (v := .pointer (some ⟨w.heap.size, 10, none⟩)) rfl (by kernel_rfl) (by kernel_rfl) (by kernel_rfl) (fun _ _ _ h => h) (Or.inl ⟨by rfl, ?_⟩) (by assumption) ?_
    · intro w hSw; (try (unfold SS at hSw)); go_simp
    simp only [Act.put, List.setIfInBounds_toArray, List.set_cons_zero, List.set_cons_succ]
    refine wpAnyH_take (i := 28) (oi := ⟨some 33, _, _, _, _, _⟩) (v := .slice Ai ni ci) rfl (by kernel_rfl) (by kernel_rfl) (by kernel_rfl) (fun _ _ _ h => h) (Or.inl ⟨by rfl, ?_⟩) (by assumption) ?_
    · intro w hSw; (try (unfold SS at hSw)); go_simp
    simp only [Act.put, List.setIfInBounds_toArray, List.set_cons_zero, List.set_cons_succ]
    refine wpAnyH_take (i := 29) (oi := ⟨some 34, _, _, _, _, _⟩) (v := .pointer (some ⟨w.heap.size + 1, 10, none⟩)) rfl (by kernel_rfl) (by kernel_rfl) (by kernel_rfl) (fun _ _ _ h => h) (Or.inl ⟨by rfl, ?_⟩) (by assumption) ?_
    · intro w hSw; (try (unfold SS at hSw)); go_simp
    simp only [Act.put, List.setIfInBounds_toArray, List.set_cons_zero, List.set_cons_succ]
    refine wpAnyH_take (i := 30) (oi := ⟨some 35, _, _, _, _, _⟩) (v := .slice Bi mi di) rfl (by kernel_rfl) (by kernel_rfl) (by kernel_rfl) (fun _ _ _ h => h) (Or.inl ⟨by rfl, ?_⟩) (by assumption) ?_
    · intro w hSw; (try (unfold SS at hSw)); go_simp
    simp only [Act.put, List.setIfInBounds_toArray, List.set_cons_zero, List.set_cons_succ]
    refine wpAnyH_ready (rs := [31]) (by kernel_rfl) (by simp) (AllReadyH.cons (o := ⟨some 36, _, _, _, _, _⟩) rfl (fun K hK => ?_) AllReadyH.nil)
    go_simp
    refine (HEI.out _ (Hz5.out)).mono ?_
    rintro e z6 ⟨rfl, hz6⟩
    have Hz6 : Hid (Below ((w.alloc (.cells #[.int .i64 L.kind, .int .i64 L.frm, .int .i64 L.to, .int .i64 L.a, .int .i64 L.b, .int .i64 L.c, .int .i64 L.d, .string L.s, .string L.t, .slice Ap np cp, .slice Ai ni ci, .int .i64 L.code, .bool L.yes, .string L.body] 26)).alloc (.cells #[.int .i64 M.kind, .int .i64 M.frm, .int .i64 M.to, .int .i64 M.a, .int .i64 M.b, .int .i64 M.c, .int .i64 M.d, .string M.s, .string M.t, .slice Bp mp dp, .slice Bi mi di, .int .i64 M.code, .bool M.yes, .string M.body] 26)).heap.size ((w.alloc (.cells #[.int .i64 L.kind, .int .i64 L.frm, .int .i64 L.to, .int .i64 L.a, .int .i64 L.b, .int .i64 L.c, .int .i64 L.d, .string L.s, .string L.t, .slice Ap np cp, .slice Ai ni ci, .int .i64 L.code, .bool L.yes, .string L.body] 26)).alloc (.cells #[.int .i64 M.kind, .int .i64 M.frm, .int .i64 M.to, .int .i64 M.a, .int .i64 M.b, .int .i64 M.c, .int .i64 M.d, .string M.s, .string M.t, .slice Bp mp dp, .slice Bi mi di, .int .i64 M.code, .bool M.yes, .string M.body] 26)) z6) := Lib.hid ((Hz5.out).trans (hz6.mono (Hz5.out).size))
    clear hz6
    refine hK.out _ _ (HL.out z6 Hz6.out) (fun _ => ?_)
    clear hK K
    refine wpAnyH_take (i := 32) (oi := ⟨some 37, _, _, _, _, _⟩) (v := .bool ei) rfl (by kernel_rfl) (by kernel_rfl) (by kernel_rfl) (fun _ _ _ h => h) (Or.inl ⟨by rfl, ?_⟩) (by assumption) ?_
    · intro w hSw; (try (unfold SS at hSw)); go_simp
    simp only [Act.put, List.setIfInBounds_toArray, List.set_cons_zero, List.set_cons_succ]
    refine wpAnyH_take (i := 33) (oi := ⟨some 4, _, _, _, _, _⟩) (v := .bool ei) rfl (by kernel_rfl) (by kernel_rfl) (by kernel_rfl) (fun _ _ _ h => h) (Or.inl ⟨by rfl, ?_⟩) (by assumption) ?_
    · intro w hSw; (try (unfold SS at hSw)); go_simp
    simp only [Act.put, List.setIfInBounds_toArray, List.set_cons_zero, List.set_cons_succ]
    refine wpAnyH_done (by kernel_rfl) ?_ _
    go_wp2
    go_ret
    exact ⟨ret_bool (by rw [E.out]), HBe.out _ Hz6.out⟩
end Go.Proofs.Ytabcoidjbigdbaa

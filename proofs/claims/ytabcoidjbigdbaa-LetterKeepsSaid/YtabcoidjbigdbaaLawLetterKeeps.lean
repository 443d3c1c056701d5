/- LetterKeeps: Same tells which letters are the same; a copy is the same, in new memory. Condition: texts shorter than 2^47 bytes. -/
import Derived.Test.YtabcoidjbigdbaaLetM
import Derived.Test.YtabcoidjbigdbaaLetN
import Derived.Test.YtabcoidjbigdbaaLetV
import Derived.Test.YtabcoidjbigdbaaLetU
import Derived.Test.YtabcoidjbigdbaaLetIn
import Derived.Test.YtabcoidjbigdbaaLetY
import Derived.Test.YtabcoidjbigdbaaLetZ
import Derived.Test.YtabcoidjbigdbaaOpenLet
import Derived.Test.YtabcoidjbigdbaaRow
namespace Go.Proofs.Ytabcoidjbigdbaa
open Go.RowKit
open Go.Lib (strCells)

theorem kept9 {w5 w8 w9 : World} {L : Let} {g5 g6 : Nat} {P1 : Option Addr} {p1 : Nat} {I1 : Option Addr} {i1 : Nat} {P2 : Option Addr} {p2 : Nat} {I2 : Option Addr} {i2 : Nat} {u : Value}
    (h : Box w8 g5 26 #[.int .i64 L.kind, .int .i64 L.frm, .int .i64 L.to, .int .i64 L.a, .int .i64 L.b, .int .i64 L.c, .int .i64 L.d, .string L.s, .string L.t, .slice P1 L.ps.length p1, .slice I1 L.is.length i1, .int .i64 L.code, .bool L.yes, .string L.body] ∧ Box w8 g6 26 #[.int .i64 L.kind, .int .i64 L.frm, .int .i64 L.to, .int .i64 L.a, .int .i64 L.b, .int .i64 L.c, .int .i64 L.d, .string L.s, .string L.t, .slice P2 L.ps.length p2, .slice I2 L.is.length i2, .int .i64 L.code, .bool L.yes, .string L.body] ∧
      OwnLps w8 w5.heap.size (.slice P2 L.ps.length p2) L.ps ∧ OwnLis w8 w5.heap.size (.slice I2 L.is.length i2) L.is ∧ Below w5.heap.size w5 w8) (hne : g5 ≠ g6) (h5 : w5.heap.size ≤ g5) (hw : w8.setCell ⟨g5, 9, none⟩ u = w9) :
    Box w9 g6 26 #[.int .i64 L.kind, .int .i64 L.frm, .int .i64 L.to, .int .i64 L.a, .int .i64 L.b, .int .i64 L.c, .int .i64 L.d, .string L.s, .string L.t, .slice P2 L.ps.length p2, .slice I2 L.is.length i2, .int .i64 L.code, .bool L.yes, .string L.body] ∧ OwnLps w9 w5.heap.size (.slice P2 L.ps.length p2) L.ps ∧ OwnLis w9 w5.heap.size (.slice I2 L.is.length i2) L.is ∧ Below w5.heap.size w5 w9 := by
  subst hw
  obtain ⟨b5, b6, o1, o2, hb⟩ := h
  have gr : w8.grownBy (w8.setCell ⟨g5, 9, none⟩ u) (some g5) := ⟨rfl, rfl, rfl, by simp, fun k _ hne => Below.heap_setCell w8 ⟨g5, 9, none⟩ u k (fun e => hne (by rw [e]))⟩
  exact ⟨b6.grown gr (fun e => hne (by injection e with e; exact e.symm)), own_grownT o1 gr (own_box_ne o1 b5 types3.1), own_grownT o2 gr (own_box_ne o2 b5 types3.2.1), hb.grown gr hb.size (fun g hg => by injection hg with hg; omega)⟩
theorem same9 {w5 w9 wx : World} {L : Let} {g6 : Nat} {P2 : Option Addr} {p2 : Nat} {I2 : Option Addr} {i2 : Nat} {C : Nat} {Ap : Option Addr} {np : Nat} {Ai : Option Addr} {ni : Nat}
    (h : Box w9 g6 26 #[.int .i64 L.kind, .int .i64 L.frm, .int .i64 L.to, .int .i64 L.a, .int .i64 L.b, .int .i64 L.c, .int .i64 L.d, .string L.s, .string L.t, .slice P2 L.ps.length p2, .slice I2 L.is.length i2, .int .i64 L.code, .bool L.yes, .string L.body] ∧ OwnLps w9 w5.heap.size (.slice P2 L.ps.length p2) L.ps ∧ OwnLis w9 w5.heap.size (.slice I2 L.is.length i2) L.is ∧ Below w5.heap.size w5 w9)
    (hL : LetIn w9 C L Ap np Ai ni) (hC : C ≤ w9.heap.size) (hx : Below w9.heap.size w9 wx) (cp ci : Nat) :
    Calls Try.prog 16 #[.agg #[.int .i64 L.kind, .int .i64 L.frm, .int .i64 L.to, .int .i64 L.a, .int .i64 L.b, .int .i64 L.c, .int .i64 L.d, .string L.s, .string L.t, .slice P2 L.ps.length p2, .slice I2 L.is.length i2, .int .i64 L.code, .bool L.yes, .string L.body], .agg #[.int .i64 L.kind, .int .i64 L.frm, .int .i64 L.to, .int .i64 L.a, .int .i64 L.b, .int .i64 L.c, .int .i64 L.d, .string L.s, .string L.t, .slice Ap np cp, .slice Ai ni ci, .int .i64 L.code, .bool L.yes, .string L.body]] wx (fun e w' => e = .returned (.bool true) ∧ Below wx.heap.size wx w') ∧
    Calls Try.prog 18 #[.agg #[.int .i64 L.kind, .int .i64 L.frm, .int .i64 L.to, .int .i64 L.a, .int .i64 L.b, .int .i64 L.c, .int .i64 L.d, .string L.s, .string L.t, .slice Ap np cp, .slice Ai ni ci, .int .i64 L.code, .bool L.yes, .string L.body], .agg #[.int .i64 L.kind, .int .i64 L.frm, .int .i64 L.to, .int .i64 L.a, .int .i64 L.b, .int .i64 L.c, .int .i64 L.d, .string L.s, .string L.t, .slice P2 L.ps.length p2, .slice I2 L.is.length i2, .int .i64 L.code, .bool L.yes, .string L.body]] wx (fun e w' => e = .returned (.bool true) ∧ Below wx.heap.size wx w') := by
  obtain ⟨-, o1, o2, -⟩ := h
  obtain ⟨A1, c1, e1, -, m1, k1⟩ := o1.slice
  obtain ⟨A2, c2, e2, -, m2, k2⟩ := o2.slice
  injection e1 with e1 _ e1'
  injection e2 with e2 _ e2'
  subst e1 e2
  have hp := (hL.ps.belowOf hx hC).more (B' := wx.heap.size) (Nat.le_trans hC hx.size)
  have hi := (hL.is.belowOf hx hC).more (B' := wx.heap.size) (Nat.le_trans hC hx.size)
  have kp := (k1.below hx).more hx.size
  have ki := (k2.below hx).more hx.size
  have b1 : L.ps.length ≤ maxLen := by have := hL.lens.1; have := hL.ps.1; omega
  have b2 : L.is.length ≤ maxLen := by have := hL.lens.2; have := hL.is.1; omega
  have s1 := sameL_any L L P2 L.ps.length p2 I2 L.is.length i2 Ap np cp Ai ni ci wx.heap.size wx kp ki hp hi (Nat.le_refl _) ⟨b1, b2⟩ hL.lens
  have s2 := letSame_any L L Ap np cp Ai ni ci P2 L.ps.length p2 I2 L.is.length i2 wx.heap.size wx hp hi kp ki (Nat.le_refl _) hL.lens ⟨b1, b2⟩
  rw [decide_eq_true rfl] at s1 s2
  exact ⟨s1, s2⟩
set_option maxRecDepth 100000 in
set_option maxHeartbeats 12800000 in
theorem keeps_walk (L M : Let) (Ap : Option Addr) (np cp : Nat) (Ai : Option Addr) (ni ci : Nat) (Bp : Option Addr) (mp dp : Nat) (Bi : Option Addr) (mi di : Nat) (C : Nat) (w : World) (hL : LetIn w C L Ap np Ai ni) (hM : LetIn w C M Bp mp Bi mi) (hC : C ≤ w.heap.size) :
    Calls Try.prog 5 #[.agg #[.int .i64 L.kind, .int .i64 L.frm, .int .i64 L.to, .int .i64 L.a, .int .i64 L.b, .int .i64 L.c, .int .i64 L.d, .string L.s, .string L.t, .slice Ap np cp, .slice Ai ni ci, .int .i64 L.code, .bool L.yes, .string L.body], .agg #[.int .i64 M.kind, .int .i64 M.frm, .int .i64 M.to, .int .i64 M.a, .int .i64 M.b, .int .i64 M.c, .int .i64 M.d, .string M.s, .string M.t, .slice Bp mp dp, .slice Bi mi di, .int .i64 M.code, .bool M.yes, .string M.body]] w fun e w' => e = .returned (.bool true) ∧ Below w.heap.size w w' := by
  obtain ⟨W0, hW0⟩ : ∃ W0, (((w.alloc (.cells #[.int .i64 L.kind, .int .i64 L.frm, .int .i64 L.to, .int .i64 L.a, .int .i64 L.b, .int .i64 L.c, .int .i64 L.d, .string L.s, .string L.t, .slice Ap np cp, .slice Ai ni ci, .int .i64 L.code, .bool L.yes, .string L.body] 26)).alloc (.cells #[.int .i64 M.kind, .int .i64 M.frm, .int .i64 M.to, .int .i64 M.a, .int .i64 M.b, .int .i64 M.c, .int .i64 M.d, .string M.s, .string M.t, .slice Bp mp dp, .slice Bi mi di, .int .i64 M.code, .bool M.yes, .string M.body] 26))) = W0 := ⟨_, rfl⟩
  have HM : Hid (∀ wx, Below W0.heap.size W0 wx → Box wx w.heap.size 26 #[.int .i64 L.kind, .int .i64 L.frm, .int .i64 L.to, .int .i64 L.a, .int .i64 L.b, .int .i64 L.c, .int .i64 L.d, .string L.s, .string L.t, .slice Ap np cp, .slice Ai ni ci, .int .i64 L.code, .bool L.yes, .string L.body] ∧ Box wx (w.heap.size + 1) 26 #[.int .i64 M.kind, .int .i64 M.frm, .int .i64 M.to, .int .i64 M.a, .int .i64 M.b, .int .i64 M.c, .int .i64 M.d, .string M.s, .string M.t, .slice Bp mp dp, .slice Bi mi di, .int .i64 M.code, .bool M.yes, .string M.body] ∧ Below w.heap.size w wx) := Lib.hid fun wx hx => two_boxes (by rw [hW0]; exact hx)
  have HI : Hid (∀ wx, Below W0.heap.size W0 wx → (LetIn wx C L Ap np Ai ni ∧ LetIn wx C M Bp mp Bi mi) ∧ C ≤ wx.heap.size) := Lib.hid fun wx hx => ⟨⟨hL.belowOf (HM.out wx hx).2.2 hC, hM.belowOf (HM.out wx hx).2.2 hC⟩, Nat.le_trans hC (HM.out wx hx).2.2.size⟩
  have HZ0 : Hid (W0.heap.size = w.heap.size + 1 + 1) := Lib.hid (by rw [← hW0]; simp)
  have Ha := Lib.hid (awake13_any W0)
  have HcL := Lib.hid (fun wx (hx : Below W0.heap.size W0 wx) => And.intro (light13_any L Ap np cp Ai ni ci C wx (HI.out wx hx).1.1.ps (HI.out wx hx).1.1.is (HI.out wx hx).2 (HI.out wx hx).1.1.lens (HI.out wx hx).1.1.txt (HI.out wx hx).1.1.txp (HI.out wx hx).1.1.txi)
    (light13_any M Bp mp dp Bi mi di C wx (HI.out wx hx).1.2.ps (HI.out wx hx).1.2.is (HI.out wx hx).2 (HI.out wx hx).1.2.lens (HI.out wx hx).1.2.txt (HI.out wx hx).1.2.txp (HI.out wx hx).1.2.txi))
  have HcS := Lib.hid (fun wx (hx : Below W0.heap.size W0 wx) => And.intro (letSame_any L M Ap np cp Ai ni ci Bp mp dp Bi mi di C wx (HI.out wx hx).1.1.ps (HI.out wx hx).1.1.is (HI.out wx hx).1.2.ps (HI.out wx hx).1.2.is (HI.out wx hx).2 (HI.out wx hx).1.1.lens (HI.out wx hx).1.2.lens)
    (sameL_any L M Ap np cp Ai ni ci Bp mp dp Bi mi di C wx (HI.out wx hx).1.1.ps (HI.out wx hx).1.1.is (HI.out wx hx).1.2.ps (HI.out wx hx).1.2.is (HI.out wx hx).2 (HI.out wx hx).1.1.lens (HI.out wx hx).1.2.lens))
  obtain ⟨dd, hdd⟩ : ∃ dd, decide (L = M) = dd := ⟨_, rfl⟩
  rw [hdd] at HcS
  have hdn : (dd != dd) = false := by simp
  clear hdd hL hM
  go_enter Try.func5, Try.ntmps5
  go_upto_region 1 with fail
  clear hW0
  go_wp2_with fail
  refine Ha.out.mono ?_
  rintro e w2 ⟨rfl, b2⟩
  have HB2 := Lib.hid b2
  clear b2 Ha
  obtain ⟨⟨x0, x1, x2, x3, x4, x5, x6⟩, ⟨x7, x8⟩, ⟨x9, x10⟩, ⟨x11, x12, x13⟩⟩ := let_cells (HM.out w2 HB2.out).1
  go_wp2_with fail
  refine (HcL.out w2 HB2.out).1.mono ?_
  rintro e w3 ⟨bl, rfl, hbl, b3⟩
  have HB3 := Lib.hid (HB2.out.trans (b3.mono HB2.out.size))
  clear x0 x1 x2 x3 x4 x5 x6 x7 x8 x9 x10 x11 x12 x13 b3
  cases bl with
  | false =>
    go_wp2
    go_ret
    exact ⟨rfl, (HM.out _ HB3.out).2.2⟩
  | true =>
  have HLL := Lib.hid (hbl rfl)
  clear hbl
  obtain ⟨⟨y0, y1, y2, y3, y4, y5, y6⟩, ⟨y7, y8⟩, ⟨y9, y10⟩, ⟨y11, y12, y13⟩⟩ := let_cells (HM.out w3 HB3.out).2.1
  go_wp2_with fail
  refine (HcL.out w3 HB3.out).2.mono ?_
  rintro e w4 ⟨bl, rfl, hbl, b4⟩
  have HB4 := Lib.hid (HB3.out.trans (b4.mono HB3.out.size))
  clear y0 y1 y2 y3 y4 y5 y6 y7 y8 y9 y10 y11 y12 y13 b4
  cases bl with
  | false =>
    go_wp2
    go_ret
    exact ⟨rfl, (HM.out _ HB4.out).2.2⟩
  | true =>
  clear hbl
  have HSS : Hid (∀ wx, Below w4.heap.size w4 wx → ((wx.cell? ⟨w.heap.size, 0, none⟩ = some (.int .i64 L.kind) ∧ wx.cell? ⟨w.heap.size, 1, none⟩ = some (.int .i64 L.frm) ∧ wx.cell? ⟨w.heap.size, 2, none⟩ = some (.int .i64 L.to) ∧ wx.cell? ⟨w.heap.size, 3, none⟩ = some (.int .i64 L.a) ∧ wx.cell? ⟨w.heap.size, 4, none⟩ = some (.int .i64 L.b) ∧ wx.cell? ⟨w.heap.size, 5, none⟩ = some (.int .i64 L.c) ∧ wx.cell? ⟨w.heap.size, 6, none⟩ = some (.int .i64 L.d) ∧ wx.cell? ⟨w.heap.size, 7, none⟩ = some (.string L.s) ∧ wx.cell? ⟨w.heap.size, 8, none⟩ = some (.string L.t) ∧ wx.cell? ⟨w.heap.size, 9, none⟩ = some (.slice Ap np cp) ∧ wx.cell? ⟨w.heap.size, 10, none⟩ = some (.slice Ai ni ci) ∧ wx.cell? ⟨w.heap.size, 11, none⟩ = some (.int .i64 L.code) ∧ wx.cell? ⟨w.heap.size, 12, none⟩ = some (.bool L.yes) ∧ wx.cell? ⟨w.heap.size, 13, none⟩ = some (.string L.body)) ∧ (wx.cell? ⟨w.heap.size + 1, 0, none⟩ = some (.int .i64 M.kind) ∧ wx.cell? ⟨w.heap.size + 1, 1, none⟩ = some (.int .i64 M.frm) ∧ wx.cell? ⟨w.heap.size + 1, 2, none⟩ = some (.int .i64 M.to) ∧ wx.cell? ⟨w.heap.size + 1, 3, none⟩ = some (.int .i64 M.a) ∧ wx.cell? ⟨w.heap.size + 1, 4, none⟩ = some (.int .i64 M.b) ∧ wx.cell? ⟨w.heap.size + 1, 5, none⟩ = some (.int .i64 M.c) ∧ wx.cell? ⟨w.heap.size + 1, 6, none⟩ = some (.int .i64 M.d) ∧ wx.cell? ⟨w.heap.size + 1, 7, none⟩ = some (.string M.s) ∧ wx.cell? ⟨w.heap.size + 1, 8, none⟩ = some (.string M.t) ∧ wx.cell? ⟨w.heap.size + 1, 9, none⟩ = some (.slice Bp mp dp) ∧ wx.cell? ⟨w.heap.size + 1, 10, none⟩ = some (.slice Bi mi di) ∧ wx.cell? ⟨w.heap.size + 1, 11, none⟩ = some (.int .i64 M.code) ∧ wx.cell? ⟨w.heap.size + 1, 12, none⟩ = some (.bool M.yes) ∧ wx.cell? ⟨w.heap.size + 1, 13, none⟩ = some (.string M.body))) ∧ Below w4.heap.size w4 wx) := Lib.hid fun wx hx => by
    obtain ⟨h3, h4, -⟩ := HM.out wx (HB4.out.trans (hx.mono HB4.out.size))
    exact ⟨⟨⟨h3.cell 0, h3.cell 1, h3.cell 2, h3.cell 3, h3.cell 4, h3.cell 5, h3.cell 6, h3.cell 7, h3.cell 8, h3.cell 9, h3.cell 10, h3.cell 11, h3.cell 12, h3.cell 13⟩, h4.cell 0, h4.cell 1, h4.cell 2, h4.cell 3, h4.cell 4, h4.cell 5, h4.cell 6, h4.cell 7, h4.cell 8, h4.cell 9, h4.cell 10, h4.cell 11, h4.cell 12, h4.cell 13⟩, hx⟩
  go_upto_region 5 with fail
  go_cut [25] (fun v wx => v = .bool false ∧ Hid (Below w4.heap.size w4 wx))
  case first =>
    go_region_held3 (fun wx => ((wx.cell? ⟨w.heap.size, 0, none⟩ = some (.int .i64 L.kind) ∧ wx.cell? ⟨w.heap.size, 1, none⟩ = some (.int .i64 L.frm) ∧ wx.cell? ⟨w.heap.size, 2, none⟩ = some (.int .i64 L.to) ∧ wx.cell? ⟨w.heap.size, 3, none⟩ = some (.int .i64 L.a) ∧ wx.cell? ⟨w.heap.size, 4, none⟩ = some (.int .i64 L.b) ∧ wx.cell? ⟨w.heap.size, 5, none⟩ = some (.int .i64 L.c) ∧ wx.cell? ⟨w.heap.size, 6, none⟩ = some (.int .i64 L.d) ∧ wx.cell? ⟨w.heap.size, 7, none⟩ = some (.string L.s) ∧ wx.cell? ⟨w.heap.size, 8, none⟩ = some (.string L.t) ∧ wx.cell? ⟨w.heap.size, 9, none⟩ = some (.slice Ap np cp) ∧ wx.cell? ⟨w.heap.size, 10, none⟩ = some (.slice Ai ni ci) ∧ wx.cell? ⟨w.heap.size, 11, none⟩ = some (.int .i64 L.code) ∧ wx.cell? ⟨w.heap.size, 12, none⟩ = some (.bool L.yes) ∧ wx.cell? ⟨w.heap.size, 13, none⟩ = some (.string L.body)) ∧ (wx.cell? ⟨w.heap.size + 1, 0, none⟩ = some (.int .i64 M.kind) ∧ wx.cell? ⟨w.heap.size + 1, 1, none⟩ = some (.int .i64 M.frm) ∧ wx.cell? ⟨w.heap.size + 1, 2, none⟩ = some (.int .i64 M.to) ∧ wx.cell? ⟨w.heap.size + 1, 3, none⟩ = some (.int .i64 M.a) ∧ wx.cell? ⟨w.heap.size + 1, 4, none⟩ = some (.int .i64 M.b) ∧ wx.cell? ⟨w.heap.size + 1, 5, none⟩ = some (.int .i64 M.c) ∧ wx.cell? ⟨w.heap.size + 1, 6, none⟩ = some (.int .i64 M.d) ∧ wx.cell? ⟨w.heap.size + 1, 7, none⟩ = some (.string M.s) ∧ wx.cell? ⟨w.heap.size + 1, 8, none⟩ = some (.string M.t) ∧ wx.cell? ⟨w.heap.size + 1, 9, none⟩ = some (.slice Bp mp dp) ∧ wx.cell? ⟨w.heap.size + 1, 10, none⟩ = some (.slice Bi mi di) ∧ wx.cell? ⟨w.heap.size + 1, 11, none⟩ = some (.int .i64 M.code) ∧ wx.cell? ⟨w.heap.size + 1, 12, none⟩ = some (.bool M.yes) ∧ wx.cell? ⟨w.heap.size + 1, 13, none⟩ = some (.string M.body))) ∧ Below w4.heap.size w4 wx)
      (first | exact HSS.out _ (Below.refl _ _).drew | exact HSS.out _ (Below.refl _ _) | exact HSS.out _ b5 | exact HSS.out _ b6)
      (first
        | (go_at_call 18; refine (HcS.out _ (HB4.out.drew)).1.mono ?_; rintro e w5 ⟨rfl, hb5⟩; have b5 : Below w4.heap.size w4 w5 := (Below.refl w4.heap.size w4).drew.trans hb5)
        | (go_at_call 16; refine (HcS.out _ (HB4.out.trans (b5.mono HB4.out.size))).2.mono ?_; rintro e w6 ⟨rfl, hb6⟩; have b6 : Below w4.heap.size w4 w6 := b5.trans (hb6.mono b5.size)))
    all_goals go_wp2
    all_goals go_meet
    all_goals exact ⟨rfl, Lib.hid b6⟩
  obtain ⟨rfl, HB5⟩ := hcut
  generalize wc = w5 at *
  clear HSS HcL HB2 HB3
  have HW5 : Hid (Below W0.heap.size W0 w5) := Lib.hid (HB4.out.trans (HB5.out.mono HB4.out.size))
  clear HB4 HB5
  have HSa : Hid (∀ wx, Below w5.heap.size w5 wx → (wx.cell? ⟨w.heap.size, 0, none⟩ = some (.int .i64 L.kind) ∧ wx.cell? ⟨w.heap.size, 1, none⟩ = some (.int .i64 L.frm) ∧ wx.cell? ⟨w.heap.size, 2, none⟩ = some (.int .i64 L.to) ∧ wx.cell? ⟨w.heap.size, 3, none⟩ = some (.int .i64 L.a) ∧ wx.cell? ⟨w.heap.size, 4, none⟩ = some (.int .i64 L.b) ∧ wx.cell? ⟨w.heap.size, 5, none⟩ = some (.int .i64 L.c) ∧ wx.cell? ⟨w.heap.size, 6, none⟩ = some (.int .i64 L.d) ∧ wx.cell? ⟨w.heap.size, 7, none⟩ = some (.string L.s) ∧ wx.cell? ⟨w.heap.size, 8, none⟩ = some (.string L.t) ∧ wx.cell? ⟨w.heap.size, 9, none⟩ = some (.slice Ap np cp) ∧ wx.cell? ⟨w.heap.size, 10, none⟩ = some (.slice Ai ni ci) ∧ wx.cell? ⟨w.heap.size, 11, none⟩ = some (.int .i64 L.code) ∧ wx.cell? ⟨w.heap.size, 12, none⟩ = some (.bool L.yes) ∧ wx.cell? ⟨w.heap.size, 13, none⟩ = some (.string L.body))) := Lib.hid fun wx hx => by
    obtain ⟨h3, -, -⟩ := HM.out wx (HW5.out.trans (hx.mono HW5.out.size))
    exact ⟨h3.cell 0, h3.cell 1, h3.cell 2, h3.cell 3, h3.cell 4, h3.cell 5, h3.cell 6, h3.cell 7, h3.cell 8, h3.cell 9, h3.cell 10, h3.cell 11, h3.cell 12, h3.cell 13⟩
  have HCy : Hid (∀ wx, Below w5.heap.size w5 wx → Calls Try.prog 19 #[.agg #[.int .i64 L.kind, .int .i64 L.frm, .int .i64 L.to, .int .i64 L.a, .int .i64 L.b, .int .i64 L.c, .int .i64 L.d, .string L.s, .string L.t, .slice Ap np cp, .slice Ai ni ci, .int .i64 L.code, .bool L.yes, .string L.body]] wx (CopyPost L wx)) := Lib.hid fun wx hx => by
    obtain ⟨⟨h1, -⟩, h2⟩ := HI.out wx (HW5.out.trans (hx.mono HW5.out.size))
    exact copy_any L Ap np cp Ai ni ci C wx h1.ps h1.is h2 ⟨by have := h1.ps.1; have := HLL.out.1; omega, by have := h1.is.1; have := HLL.out.2; omega⟩ h1.txt h1.txp h1.txi
  go_upto_region 7 with fail
  go_cut [5, 6] (fun c d wx => ∃ (g5 g6 : Nat) (P1 : Option Addr) (p1 : Nat) (I1 : Option Addr) (i1 : Nat) (P2 : Option Addr) (p2 : Nat) (I2 : Option Addr) (i2 : Nat), c = .pointer (some ⟨g5, 0, none⟩) ∧ d = .pointer (some ⟨g6, 0, none⟩) ∧ Hid (KFin w5 wx L g5 g6 P1 p1 I1 i1 P2 p2 I2 i2))
  case first =>
    refine wp_region_held_drew (S := fun wx => wx.cell? ⟨w.heap.size, 0, none⟩ = some (.int .i64 L.kind) ∧ wx.cell? ⟨w.heap.size, 1, none⟩ = some (.int .i64 L.frm) ∧ wx.cell? ⟨w.heap.size, 2, none⟩ = some (.int .i64 L.to) ∧ wx.cell? ⟨w.heap.size, 3, none⟩ = some (.int .i64 L.a) ∧ wx.cell? ⟨w.heap.size, 4, none⟩ = some (.int .i64 L.b) ∧ wx.cell? ⟨w.heap.size, 5, none⟩ = some (.int .i64 L.c) ∧ wx.cell? ⟨w.heap.size, 6, none⟩ = some (.int .i64 L.d) ∧ wx.cell? ⟨w.heap.size, 7, none⟩ = some (.string L.s) ∧ wx.cell? ⟨w.heap.size, 8, none⟩ = some (.string L.t) ∧ wx.cell? ⟨w.heap.size, 9, none⟩ = some (.slice Ap np cp) ∧ wx.cell? ⟨w.heap.size, 10, none⟩ = some (.slice Ai ni ci) ∧ wx.cell? ⟨w.heap.size, 11, none⟩ = some (.int .i64 L.code) ∧ wx.cell? ⟨w.heap.size, 12, none⟩ = some (.bool L.yes) ∧ wx.cell? ⟨w.heap.size, 13, none⟩ = some (.string L.body)) (by kernel_rfl) (HSa.out _ (Below.refl _ _).drew) (fun hHeld => ?_)
    have hSa := HSa.out w5.drew (Below.refl _ _).drew
    have HBk0 : Hid (Below w5.heap.size w5 w5.drew) := Lib.hid (Below.refl _ _).drew
    generalize hk0 : w5.drew = k0 at hSa HBk0 ⊢
    clear hk0
    refine wpAnyH_take (i := 0) (oi := ⟨some 26, _, _, _, _, _⟩) (v := .agg #[.int .i64 L.kind, .int .i64 L.frm, .int .i64 L.to, .int .i64 L.a, .int .i64 L.b, .int .i64 L.c, .int .i64 L.d, .string L.s, .string L.t, .slice Ap np cp, .slice Ai ni ci, .int .i64 L.code, .bool L.yes, .string L.body]) rfl (by kernel_rfl) (by kernel_rfl) (by kernel_rfl) (fun _ _ _ h => h) (Or.inl ⟨by rfl, ?_⟩) (by assumption) ?_
    · intro w hSw; (try dsimp only at hSw); go_simp
    simp only [Act.put, List.setIfInBounds_toArray, List.set_cons_zero, List.set_cons_succ]
    refine wpAnyH_take (i := 2) (oi := ⟨some 28, _, _, _, _, _⟩) (v := .agg #[.int .i64 L.kind, .int .i64 L.frm, .int .i64 L.to, .int .i64 L.a, .int .i64 L.b, .int .i64 L.c, .int .i64 L.d, .string L.s, .string L.t, .slice Ap np cp, .slice Ai ni ci, .int .i64 L.code, .bool L.yes, .string L.body]) rfl (by kernel_rfl) (by kernel_rfl) (by kernel_rfl) (fun _ _ _ h => h) (Or.inl ⟨by rfl, ?_⟩) (by assumption) ?_
    · intro w hSw; (try dsimp only at hSw); go_simp
    simp only [Act.put, List.setIfInBounds_toArray, List.set_cons_zero, List.set_cons_succ]
    refine wpAnyH_ready (rs := [1, 4, 5]) (by kernel_rfl) (by simp) (AllReadyH.cons (o := ⟨some 27, _, _, _, _, _⟩) rfl (fun K hK => ?_) (AllReadyH.cons (o := ⟨some 5, _, _, _, _, _⟩) rfl (fun K hK => ?_) (AllReadyH.cons (o := ⟨some 6, _, _, _, _, _⟩) rfl (fun K hK => ?_) AllReadyH.nil)))
    · go_simp
      refine (HCy.out _ HBk0.out).mono ?_
      rintro e k1 ⟨P1, p1, I1, i1, rfl, op1, oi1, hb⟩
      have HBk1 := Lib.hid (HBk0.out.trans (hb.mono HBk0.out.size))
      have HC1k1 : Hid (OwnLps k1 w5.heap.size (.slice P1 L.ps.length p1) L.ps ∧ OwnLis k1 w5.heap.size (.slice I1 L.is.length i1) L.is) := Lib.hid ⟨own_baseN op1 (Nat.le_succ_of_le HBk0.out.size), own_baseN oi1 (Nat.le_succ_of_le HBk0.out.size)⟩
      refine hK.out _ _ (HSa.out _ HBk1.out) (fun _ => ?_)
      clear hK K hb op1 oi1
      refine wpAnyH_ready (rs := [3, 4, 5]) (by kernel_rfl) (by simp) (AllReadyH.cons (o := ⟨some 29, _, _, _, _, _⟩) rfl (fun K hK => ?_) (AllReadyH.cons (o := ⟨some 5, _, _, _, _, _⟩) rfl (fun K hK => ?_) (AllReadyH.cons (o := ⟨some 6, _, _, _, _, _⟩) rfl (fun K hK => ?_) AllReadyH.nil)))
      · go_simp
        refine (HCy.out _ HBk1.out).mono ?_
        rintro e k2 ⟨P2, p2, I2, i2, rfl, op2, oi2, hb⟩
        have HBk2 := Lib.hid (HBk1.out.trans (hb.mono HBk1.out.size))
        have HC1k2 := Lib.hid (And.intro (HC1k1.out.1.below hb) (HC1k1.out.2.below hb))
        have HC2k2 : Hid (OwnLps k2 w5.heap.size (.slice P2 L.ps.length p2) L.ps ∧ OwnLis k2 w5.heap.size (.slice I2 L.is.length i2) L.is) := Lib.hid ⟨own_baseN op2 (Nat.le_succ_of_le HBk1.out.size), own_baseN oi2 (Nat.le_succ_of_le HBk1.out.size)⟩
        have HSP : Hid ((∀ g, (Value.slice P1 L.ps.length p1).ownBlock = some g → (Value.slice P2 L.ps.length p2).ownBlock ≠ some g) ∧ (∀ g, (Value.slice I1 L.is.length i1).ownBlock = some g → (Value.slice I2 L.is.length i2).ownBlock ≠ some g)) := Lib.hid ⟨fun g h1 h2 => by have a1 := (HC1k1.out.1.lt g h1).2; have a2 := (op2.lt g h2).1; omega, fun g h1 h2 => by have a1 := (HC1k1.out.2.lt g h1).2; have a2 := (oi2.lt g h2).1; omega⟩
        refine hK.out _ _ (HSa.out _ HBk2.out) (fun _ => ?_)
        clear hK K hb op2 oi2
        refine wpAnyH_ready (rs := [4, 5]) (by kernel_rfl) (by simp) (AllReadyH.cons (o := ⟨some 5, _, _, _, _, _⟩) rfl (fun K hK => ?_) (AllReadyH.cons (o := ⟨some 6, _, _, _, _, _⟩) rfl (fun K hK => ?_) AllReadyH.nil))
        · go_simp
          have hb := below_box (w := k2) (.cells #[.int .i64 0, .int .i64 0, .int .i64 0, .int .i64 0, .int .i64 0, .int .i64 0, .int .i64 0, .string ⟨#[]⟩, .string ⟨#[]⟩, .slice none 0 0, .slice none 0 0, .int .i64 0, .bool false, .string ⟨#[]⟩] 26)
          have bx := Box.made k2 26 #[.int .i64 0, .int .i64 0, .int .i64 0, .int .i64 0, .int .i64 0, .int .i64 0, .int .i64 0, .string ⟨#[]⟩, .string ⟨#[]⟩, .slice none 0 0, .slice none 0 0, .int .i64 0, .bool false, .string ⟨#[]⟩]
          have hgl : w5.heap.size ≤ k2.heap.size := HBk2.out.size
          refine hK.out _ _ (HSa.out _ (HBk2.out.trans (hb.mono HBk2.out.size))) (fun _ => ?_)
          clear hK K
          have HBk3 := Lib.hid (HBk2.out.trans (hb.mono HBk2.out.size))
          have HC1k3 := Lib.hid (And.intro (HC1k2.out.1.below hb) (HC1k2.out.2.below hb))
          have HC2k3 := Lib.hid (And.intro (HC2k2.out.1.below hb) (HC2k2.out.2.below hb))
          clear hb
          generalize (k2.alloc (.cells #[.int .i64 0, .int .i64 0, .int .i64 0, .int .i64 0, .int .i64 0, .int .i64 0, .int .i64 0, .string ⟨#[]⟩, .string ⟨#[]⟩, .slice none 0 0, .slice none 0 0, .int .i64 0, .bool false, .string ⟨#[]⟩] 26)) = k3 at HBk3 bx HC1k3 HC2k3 ⊢
          generalize k2.heap.size = g5 at *
          have HA5k3 := Lib.hid (And.intro bx hgl)
          clear bx hgl
          refine wpAnyH_ready (rs := [5]) (by kernel_rfl) (by simp) (AllReadyH.cons (o := ⟨some 6, _, _, _, _, _⟩) rfl (fun K hK => ?_) AllReadyH.nil)
          · go_simp
            have hb := below_box (w := k3) (.cells #[.int .i64 0, .int .i64 0, .int .i64 0, .int .i64 0, .int .i64 0, .int .i64 0, .int .i64 0, .string ⟨#[]⟩, .string ⟨#[]⟩, .slice none 0 0, .slice none 0 0, .int .i64 0, .bool false, .string ⟨#[]⟩] 26)
            have bx := Box.made k3 26 #[.int .i64 0, .int .i64 0, .int .i64 0, .int .i64 0, .int .i64 0, .int .i64 0, .int .i64 0, .string ⟨#[]⟩, .string ⟨#[]⟩, .slice none 0 0, .slice none 0 0, .int .i64 0, .bool false, .string ⟨#[]⟩]
            have hgl : w5.heap.size ≤ k3.heap.size := HBk3.out.size
            have hlt := HA5k3.out.1.lt
            refine hK.out _ _ (HSa.out _ (HBk3.out.trans (hb.mono HBk3.out.size))) (fun _ => ?_)
            clear hK K
            have HBk4 := Lib.hid (HBk3.out.trans (hb.mono HBk3.out.size))
            have HC1k4 := Lib.hid (And.intro (HC1k3.out.1.below hb) (HC1k3.out.2.below hb))
            have HC2k4 := Lib.hid (And.intro (HC2k3.out.1.below hb) (HC2k3.out.2.below hb))
            have HA5k4 := Lib.hid (And.intro (HA5k3.out.1.below hb HA5k3.out.1.lt) HA5k3.out.2)
            clear hb
            generalize (k3.alloc (.cells #[.int .i64 0, .int .i64 0, .int .i64 0, .int .i64 0, .int .i64 0, .int .i64 0, .int .i64 0, .string ⟨#[]⟩, .string ⟨#[]⟩, .slice none 0 0, .slice none 0 0, .int .i64 0, .bool false, .string ⟨#[]⟩] 26)) = k4 at HBk4 bx HC1k4 HC2k4 HA5k4 ⊢
            generalize k3.heap.size = g6 at *
            have HA6k4 := Lib.hid (And.intro bx hgl)
            have HNE : Hid (g5 ≠ g6) := Lib.hid (by omega)
            clear hlt
            clear bx hgl
            obtain ⟨ws, hws5⟩ : ∃ wq, ((((((((((((((k4.setCell ⟨g5, 0, none⟩ (.int .i64 L.kind)).setCell ⟨g5, 1, none⟩ (.int .i64 L.frm)).setCell ⟨g5, 2, none⟩ (.int .i64 L.to)).setCell ⟨g5, 3, none⟩ (.int .i64 L.a)).setCell ⟨g5, 4, none⟩ (.int .i64 L.b)).setCell ⟨g5, 5, none⟩ (.int .i64 L.c)).setCell ⟨g5, 6, none⟩ (.int .i64 L.d)).setCell ⟨g5, 7, none⟩ (.string L.s)).setCell ⟨g5, 8, none⟩ (.string L.t)).setCell ⟨g5, 9, none⟩ (.slice P1 L.ps.length p1)).setCell ⟨g5, 10, none⟩ (.slice I1 L.is.length i1)).setCell ⟨g5, 11, none⟩ (.int .i64 L.code)).setCell ⟨g5, 12, none⟩ (.bool L.yes)).setCell ⟨g5, 13, none⟩ (.string L.body)) = wq := ⟨_, rfl⟩
            obtain ⟨bs, gs, ss⟩ := store14 HA5k4.out.1 hws5
            have bz := HA6k4.out.1.grown gs (fun e => HNE.out (by injection e with e; exact e.symm))
            have HBs := Lib.hid (HBk4.out.grown gs HBk4.out.size (fun g hg => by injection hg with hg; have := HA5k4.out.2; omega))
            refine wpAnyH_ready (rs := [6]) (by kernel_rfl) (by simp) (AllReadyH.cons (o := ⟨none, _, _, _, _, _⟩) rfl (fun K hK => ?_) AllReadyH.nil)
            refine step_storeL rfl (.tmp 5) (.tmp 27) rfl rfl rfl HA5k4.out.1 hws5 ?_
            refine hK.out _ _ (HSa.out _ HBs.out) (fun _ => ?_)
            clear hK K
            obtain ⟨wt, hws6⟩ : ∃ wq, ((((((((((((((ws.setCell ⟨g6, 0, none⟩ (.int .i64 L.kind)).setCell ⟨g6, 1, none⟩ (.int .i64 L.frm)).setCell ⟨g6, 2, none⟩ (.int .i64 L.to)).setCell ⟨g6, 3, none⟩ (.int .i64 L.a)).setCell ⟨g6, 4, none⟩ (.int .i64 L.b)).setCell ⟨g6, 5, none⟩ (.int .i64 L.c)).setCell ⟨g6, 6, none⟩ (.int .i64 L.d)).setCell ⟨g6, 7, none⟩ (.string L.s)).setCell ⟨g6, 8, none⟩ (.string L.t)).setCell ⟨g6, 9, none⟩ (.slice P2 L.ps.length p2)).setCell ⟨g6, 10, none⟩ (.slice I2 L.is.length i2)).setCell ⟨g6, 11, none⟩ (.int .i64 L.code)).setCell ⟨g6, 12, none⟩ (.bool L.yes)).setCell ⟨g6, 13, none⟩ (.string L.body)) = wq := ⟨_, rfl⟩
            obtain ⟨bs2, gs2, ss2⟩ := store14 bz hws6
            have HBt := Lib.hid (HBs.out.grown gs2 HBs.out.size (fun g hg => by injection hg with hg; have := HA6k4.out.2; omega))
            refine wpAnyH_ready (rs := [7]) (by kernel_rfl) (by simp) (AllReadyH.cons (o := ⟨none, _, _, _, _, _⟩) rfl (fun K hK => ?_) AllReadyH.nil)
            refine step_storeL rfl (.tmp 6) (.tmp 29) rfl rfl rfl bz hws6 ?_
            refine hK.out _ _ (HSa.out _ HBt.out) (fun _ => ?_)
            clear hK K
            have HF : Hid (KFin w5 wt L g5 g6 P1 p1 I1 i1 P2 p2 I2 i2) := Lib.hid (kfin bs bs2 HNE.out HA5k4.out.2 HA6k4.out.2 HC1k4.out.1 HC1k4.out.2 HC2k4.out.1 HC2k4.out.2 HSP.out.1 HSP.out.2 HBt.out HA5k4.out.1 bz gs gs2)
            clear hws5 hws6
            refine wpAnyH_done (by kernel_rfl) ?_ _
            go_wp2
            go_meet
            exact ⟨g5, g6, P1, p1, I1, i1, P2, p2, I2, i2, rfl, rfl, HF⟩
        · go_simp
          have hb := below_box (w := k2) (.cells #[.int .i64 0, .int .i64 0, .int .i64 0, .int .i64 0, .int .i64 0, .int .i64 0, .int .i64 0, .string ⟨#[]⟩, .string ⟨#[]⟩, .slice none 0 0, .slice none 0 0, .int .i64 0, .bool false, .string ⟨#[]⟩] 26)
          have bx := Box.made k2 26 #[.int .i64 0, .int .i64 0, .int .i64 0, .int .i64 0, .int .i64 0, .int .i64 0, .int .i64 0, .string ⟨#[]⟩, .string ⟨#[]⟩, .slice none 0 0, .slice none 0 0, .int .i64 0, .bool false, .string ⟨#[]⟩]
          have hgl : w5.heap.size ≤ k2.heap.size := HBk2.out.size
          refine hK.out _ _ (HSa.out _ (HBk2.out.trans (hb.mono HBk2.out.size))) (fun _ => ?_)
          clear hK K
          have HBk5 := Lib.hid (HBk2.out.trans (hb.mono HBk2.out.size))
          have HC1k5 := Lib.hid (And.intro (HC1k2.out.1.below hb) (HC1k2.out.2.below hb))
          have HC2k5 := Lib.hid (And.intro (HC2k2.out.1.below hb) (HC2k2.out.2.below hb))
          clear hb
          generalize (k2.alloc (.cells #[.int .i64 0, .int .i64 0, .int .i64 0, .int .i64 0, .int .i64 0, .int .i64 0, .int .i64 0, .string ⟨#[]⟩, .string ⟨#[]⟩, .slice none 0 0, .slice none 0 0, .int .i64 0, .bool false, .string ⟨#[]⟩] 26)) = k5 at HBk5 bx HC1k5 HC2k5 ⊢
          generalize k2.heap.size = g6 at *
          have HA6k5 := Lib.hid (And.intro bx hgl)
          clear bx hgl
          refine wpAnyH_ready (rs := [4]) (by kernel_rfl) (by simp) (AllReadyH.cons (o := ⟨some 5, _, _, _, _, _⟩) rfl (fun K hK => ?_) AllReadyH.nil)
          · go_simp
            have hb := below_box (w := k5) (.cells #[.int .i64 0, .int .i64 0, .int .i64 0, .int .i64 0, .int .i64 0, .int .i64 0, .int .i64 0, .string ⟨#[]⟩, .string ⟨#[]⟩, .slice none 0 0, .slice none 0 0, .int .i64 0, .bool false, .string ⟨#[]⟩] 26)
            have bx := Box.made k5 26 #[.int .i64 0, .int .i64 0, .int .i64 0, .int .i64 0, .int .i64 0, .int .i64 0, .int .i64 0, .string ⟨#[]⟩, .string ⟨#[]⟩, .slice none 0 0, .slice none 0 0, .int .i64 0, .bool false, .string ⟨#[]⟩]
            have hgl : w5.heap.size ≤ k5.heap.size := HBk5.out.size
            have hlt := HA6k5.out.1.lt
            refine hK.out _ _ (HSa.out _ (HBk5.out.trans (hb.mono HBk5.out.size))) (fun _ => ?_)
            clear hK K
            have HBk6 := Lib.hid (HBk5.out.trans (hb.mono HBk5.out.size))
            have HC1k6 := Lib.hid (And.intro (HC1k5.out.1.below hb) (HC1k5.out.2.below hb))
            have HC2k6 := Lib.hid (And.intro (HC2k5.out.1.below hb) (HC2k5.out.2.below hb))
            have HA6k6 := Lib.hid (And.intro (HA6k5.out.1.below hb HA6k5.out.1.lt) HA6k5.out.2)
            clear hb
            generalize (k5.alloc (.cells #[.int .i64 0, .int .i64 0, .int .i64 0, .int .i64 0, .int .i64 0, .int .i64 0, .int .i64 0, .string ⟨#[]⟩, .string ⟨#[]⟩, .slice none 0 0, .slice none 0 0, .int .i64 0, .bool false, .string ⟨#[]⟩] 26)) = k6 at HBk6 bx HC1k6 HC2k6 HA6k6 ⊢
            generalize k5.heap.size = g5 at *
            have HA5k6 := Lib.hid (And.intro bx hgl)
            have HNE : Hid (g5 ≠ g6) := Lib.hid (by omega)
            clear hlt
            clear bx hgl
            obtain ⟨ws, hws5⟩ : ∃ wq, ((((((((((((((k6.setCell ⟨g5, 0, none⟩ (.int .i64 L.kind)).setCell ⟨g5, 1, none⟩ (.int .i64 L.frm)).setCell ⟨g5, 2, none⟩ (.int .i64 L.to)).setCell ⟨g5, 3, none⟩ (.int .i64 L.a)).setCell ⟨g5, 4, none⟩ (.int .i64 L.b)).setCell ⟨g5, 5, none⟩ (.int .i64 L.c)).setCell ⟨g5, 6, none⟩ (.int .i64 L.d)).setCell ⟨g5, 7, none⟩ (.string L.s)).setCell ⟨g5, 8, none⟩ (.string L.t)).setCell ⟨g5, 9, none⟩ (.slice P1 L.ps.length p1)).setCell ⟨g5, 10, none⟩ (.slice I1 L.is.length i1)).setCell ⟨g5, 11, none⟩ (.int .i64 L.code)).setCell ⟨g5, 12, none⟩ (.bool L.yes)).setCell ⟨g5, 13, none⟩ (.string L.body)) = wq := ⟨_, rfl⟩
            obtain ⟨bs, gs, ss⟩ := store14 HA5k6.out.1 hws5
            have bz := HA6k6.out.1.grown gs (fun e => HNE.out (by injection e with e; exact e.symm))
            have HBs := Lib.hid (HBk6.out.grown gs HBk6.out.size (fun g hg => by injection hg with hg; have := HA5k6.out.2; omega))
            refine wpAnyH_ready (rs := [6]) (by kernel_rfl) (by simp) (AllReadyH.cons (o := ⟨none, _, _, _, _, _⟩) rfl (fun K hK => ?_) AllReadyH.nil)
            refine step_storeL rfl (.tmp 5) (.tmp 27) rfl rfl rfl HA5k6.out.1 hws5 ?_
            refine hK.out _ _ (HSa.out _ HBs.out) (fun _ => ?_)
            clear hK K
            obtain ⟨wt, hws6⟩ : ∃ wq, ((((((((((((((ws.setCell ⟨g6, 0, none⟩ (.int .i64 L.kind)).setCell ⟨g6, 1, none⟩ (.int .i64 L.frm)).setCell ⟨g6, 2, none⟩ (.int .i64 L.to)).setCell ⟨g6, 3, none⟩ (.int .i64 L.a)).setCell ⟨g6, 4, none⟩ (.int .i64 L.b)).setCell ⟨g6, 5, none⟩ (.int .i64 L.c)).setCell ⟨g6, 6, none⟩ (.int .i64 L.d)).setCell ⟨g6, 7, none⟩ (.string L.s)).setCell ⟨g6, 8, none⟩ (.string L.t)).setCell ⟨g6, 9, none⟩ (.slice P2 L.ps.length p2)).setCell ⟨g6, 10, none⟩ (.slice I2 L.is.length i2)).setCell ⟨g6, 11, none⟩ (.int .i64 L.code)).setCell ⟨g6, 12, none⟩ (.bool L.yes)).setCell ⟨g6, 13, none⟩ (.string L.body)) = wq := ⟨_, rfl⟩
            obtain ⟨bs2, gs2, ss2⟩ := store14 bz hws6
            have HBt := Lib.hid (HBs.out.grown gs2 HBs.out.size (fun g hg => by injection hg with hg; have := HA6k6.out.2; omega))
            refine wpAnyH_ready (rs := [7]) (by kernel_rfl) (by simp) (AllReadyH.cons (o := ⟨none, _, _, _, _, _⟩) rfl (fun K hK => ?_) AllReadyH.nil)
            refine step_storeL rfl (.tmp 6) (.tmp 29) rfl rfl rfl bz hws6 ?_
            refine hK.out _ _ (HSa.out _ HBt.out) (fun _ => ?_)
            clear hK K
            have HF : Hid (KFin w5 wt L g5 g6 P1 p1 I1 i1 P2 p2 I2 i2) := Lib.hid (kfin bs bs2 HNE.out HA5k6.out.2 HA6k6.out.2 HC1k6.out.1 HC1k6.out.2 HC2k6.out.1 HC2k6.out.2 HSP.out.1 HSP.out.2 HBt.out HA5k6.out.1 bz gs gs2)
            clear hws5 hws6
            refine wpAnyH_done (by kernel_rfl) ?_ _
            go_wp2
            go_meet
            exact ⟨g5, g6, P1, p1, I1, i1, P2, p2, I2, i2, rfl, rfl, HF⟩
      · go_simp
        have hb := below_box (w := k1) (.cells #[.int .i64 0, .int .i64 0, .int .i64 0, .int .i64 0, .int .i64 0, .int .i64 0, .int .i64 0, .string ⟨#[]⟩, .string ⟨#[]⟩, .slice none 0 0, .slice none 0 0, .int .i64 0, .bool false, .string ⟨#[]⟩] 26)
        have bx := Box.made k1 26 #[.int .i64 0, .int .i64 0, .int .i64 0, .int .i64 0, .int .i64 0, .int .i64 0, .int .i64 0, .string ⟨#[]⟩, .string ⟨#[]⟩, .slice none 0 0, .slice none 0 0, .int .i64 0, .bool false, .string ⟨#[]⟩]
        have hgl : w5.heap.size ≤ k1.heap.size := HBk1.out.size
        refine hK.out _ _ (HSa.out _ (HBk1.out.trans (hb.mono HBk1.out.size))) (fun _ => ?_)
        clear hK K
        have HBk7 := Lib.hid (HBk1.out.trans (hb.mono HBk1.out.size))
        have HC1k7 := Lib.hid (And.intro (HC1k1.out.1.below hb) (HC1k1.out.2.below hb))
        clear hb
        generalize (k1.alloc (.cells #[.int .i64 0, .int .i64 0, .int .i64 0, .int .i64 0, .int .i64 0, .int .i64 0, .int .i64 0, .string ⟨#[]⟩, .string ⟨#[]⟩, .slice none 0 0, .slice none 0 0, .int .i64 0, .bool false, .string ⟨#[]⟩] 26)) = k7 at HBk7 bx HC1k7 ⊢
        generalize k1.heap.size = g5 at *
        have HA5k7 := Lib.hid (And.intro bx hgl)
        clear bx hgl
        refine wpAnyH_ready (rs := [3, 5]) (by kernel_rfl) (by simp) (AllReadyH.cons (o := ⟨some 29, _, _, _, _, _⟩) rfl (fun K hK => ?_) (AllReadyH.cons (o := ⟨some 6, _, _, _, _, _⟩) rfl (fun K hK => ?_) AllReadyH.nil))
        · go_simp
          refine (HCy.out _ HBk7.out).mono ?_
          rintro e k8 ⟨P2, p2, I2, i2, rfl, op2, oi2, hb⟩
          have HBk8 := Lib.hid (HBk7.out.trans (hb.mono HBk7.out.size))
          have HC1k8 := Lib.hid (And.intro (HC1k7.out.1.below hb) (HC1k7.out.2.below hb))
          have HA5k8 := Lib.hid (And.intro (HA5k7.out.1.below hb HA5k7.out.1.lt) HA5k7.out.2)
          have HC2k8 : Hid (OwnLps k8 w5.heap.size (.slice P2 L.ps.length p2) L.ps ∧ OwnLis k8 w5.heap.size (.slice I2 L.is.length i2) L.is) := Lib.hid ⟨own_baseN op2 (Nat.le_succ_of_le HBk7.out.size), own_baseN oi2 (Nat.le_succ_of_le HBk7.out.size)⟩
          have HSP : Hid ((∀ g, (Value.slice P1 L.ps.length p1).ownBlock = some g → (Value.slice P2 L.ps.length p2).ownBlock ≠ some g) ∧ (∀ g, (Value.slice I1 L.is.length i1).ownBlock = some g → (Value.slice I2 L.is.length i2).ownBlock ≠ some g)) := Lib.hid ⟨fun g h1 h2 => by have a1 := (HC1k7.out.1.lt g h1).2; have a2 := (op2.lt g h2).1; omega, fun g h1 h2 => by have a1 := (HC1k7.out.2.lt g h1).2; have a2 := (oi2.lt g h2).1; omega⟩
          refine hK.out _ _ (HSa.out _ HBk8.out) (fun _ => ?_)
          clear hK K hb op2 oi2
          refine wpAnyH_ready (rs := [5]) (by kernel_rfl) (by simp) (AllReadyH.cons (o := ⟨some 6, _, _, _, _, _⟩) rfl (fun K hK => ?_) AllReadyH.nil)
          · go_simp
            have hb := below_box (w := k8) (.cells #[.int .i64 0, .int .i64 0, .int .i64 0, .int .i64 0, .int .i64 0, .int .i64 0, .int .i64 0, .string ⟨#[]⟩, .string ⟨#[]⟩, .slice none 0 0, .slice none 0 0, .int .i64 0, .bool false, .string ⟨#[]⟩] 26)
            have bx := Box.made k8 26 #[.int .i64 0, .int .i64 0, .int .i64 0, .int .i64 0, .int .i64 0, .int .i64 0, .int .i64 0, .string ⟨#[]⟩, .string ⟨#[]⟩, .slice none 0 0, .slice none 0 0, .int .i64 0, .bool false, .string ⟨#[]⟩]
            have hgl : w5.heap.size ≤ k8.heap.size := HBk8.out.size
            have hlt := HA5k8.out.1.lt
            refine hK.out _ _ (HSa.out _ (HBk8.out.trans (hb.mono HBk8.out.size))) (fun _ => ?_)
            clear hK K
            have HBk9 := Lib.hid (HBk8.out.trans (hb.mono HBk8.out.size))
            have HC1k9 := Lib.hid (And.intro (HC1k8.out.1.below hb) (HC1k8.out.2.below hb))
            have HC2k9 := Lib.hid (And.intro (HC2k8.out.1.below hb) (HC2k8.out.2.below hb))
            have HA5k9 := Lib.hid (And.intro (HA5k8.out.1.below hb HA5k8.out.1.lt) HA5k8.out.2)
            clear hb
            generalize (k8.alloc (.cells #[.int .i64 0, .int .i64 0, .int .i64 0, .int .i64 0, .int .i64 0, .int .i64 0, .int .i64 0, .string ⟨#[]⟩, .string ⟨#[]⟩, .slice none 0 0, .slice none 0 0, .int .i64 0, .bool false, .string ⟨#[]⟩] 26)) = k9 at HBk9 bx HC1k9 HC2k9 HA5k9 ⊢
            generalize k8.heap.size = g6 at *
            have HA6k9 := Lib.hid (And.intro bx hgl)
            have HNE : Hid (g5 ≠ g6) := Lib.hid (by omega)
            clear hlt
            clear bx hgl
            obtain ⟨ws, hws5⟩ : ∃ wq, ((((((((((((((k9.setCell ⟨g5, 0, none⟩ (.int .i64 L.kind)).setCell ⟨g5, 1, none⟩ (.int .i64 L.frm)).setCell ⟨g5, 2, none⟩ (.int .i64 L.to)).setCell ⟨g5, 3, none⟩ (.int .i64 L.a)).setCell ⟨g5, 4, none⟩ (.int .i64 L.b)).setCell ⟨g5, 5, none⟩ (.int .i64 L.c)).setCell ⟨g5, 6, none⟩ (.int .i64 L.d)).setCell ⟨g5, 7, none⟩ (.string L.s)).setCell ⟨g5, 8, none⟩ (.string L.t)).setCell ⟨g5, 9, none⟩ (.slice P1 L.ps.length p1)).setCell ⟨g5, 10, none⟩ (.slice I1 L.is.length i1)).setCell ⟨g5, 11, none⟩ (.int .i64 L.code)).setCell ⟨g5, 12, none⟩ (.bool L.yes)).setCell ⟨g5, 13, none⟩ (.string L.body)) = wq := ⟨_, rfl⟩
            obtain ⟨bs, gs, ss⟩ := store14 HA5k9.out.1 hws5
            have bz := HA6k9.out.1.grown gs (fun e => HNE.out (by injection e with e; exact e.symm))
            have HBs := Lib.hid (HBk9.out.grown gs HBk9.out.size (fun g hg => by injection hg with hg; have := HA5k9.out.2; omega))
            refine wpAnyH_ready (rs := [6]) (by kernel_rfl) (by simp) (AllReadyH.cons (o := ⟨none, _, _, _, _, _⟩) rfl (fun K hK => ?_) AllReadyH.nil)
            refine step_storeL rfl (.tmp 5) (.tmp 27) rfl rfl rfl HA5k9.out.1 hws5 ?_
            refine hK.out _ _ (HSa.out _ HBs.out) (fun _ => ?_)
            clear hK K
            obtain ⟨wt, hws6⟩ : ∃ wq, ((((((((((((((ws.setCell ⟨g6, 0, none⟩ (.int .i64 L.kind)).setCell ⟨g6, 1, none⟩ (.int .i64 L.frm)).setCell ⟨g6, 2, none⟩ (.int .i64 L.to)).setCell ⟨g6, 3, none⟩ (.int .i64 L.a)).setCell ⟨g6, 4, none⟩ (.int .i64 L.b)).setCell ⟨g6, 5, none⟩ (.int .i64 L.c)).setCell ⟨g6, 6, none⟩ (.int .i64 L.d)).setCell ⟨g6, 7, none⟩ (.string L.s)).setCell ⟨g6, 8, none⟩ (.string L.t)).setCell ⟨g6, 9, none⟩ (.slice P2 L.ps.length p2)).setCell ⟨g6, 10, none⟩ (.slice I2 L.is.length i2)).setCell ⟨g6, 11, none⟩ (.int .i64 L.code)).setCell ⟨g6, 12, none⟩ (.bool L.yes)).setCell ⟨g6, 13, none⟩ (.string L.body)) = wq := ⟨_, rfl⟩
            obtain ⟨bs2, gs2, ss2⟩ := store14 bz hws6
            have HBt := Lib.hid (HBs.out.grown gs2 HBs.out.size (fun g hg => by injection hg with hg; have := HA6k9.out.2; omega))
            refine wpAnyH_ready (rs := [7]) (by kernel_rfl) (by simp) (AllReadyH.cons (o := ⟨none, _, _, _, _, _⟩) rfl (fun K hK => ?_) AllReadyH.nil)
            refine step_storeL rfl (.tmp 6) (.tmp 29) rfl rfl rfl bz hws6 ?_
            refine hK.out _ _ (HSa.out _ HBt.out) (fun _ => ?_)
            clear hK K
            have HF : Hid (KFin w5 wt L g5 g6 P1 p1 I1 i1 P2 p2 I2 i2) := Lib.hid (kfin bs bs2 HNE.out HA5k9.out.2 HA6k9.out.2 HC1k9.out.1 HC1k9.out.2 HC2k9.out.1 HC2k9.out.2 HSP.out.1 HSP.out.2 HBt.out HA5k9.out.1 bz gs gs2)
            clear hws5 hws6
            refine wpAnyH_done (by kernel_rfl) ?_ _
            go_wp2
            go_meet
            exact ⟨g5, g6, P1, p1, I1, i1, P2, p2, I2, i2, rfl, rfl, HF⟩
        · go_simp
          have hb := below_box (w := k7) (.cells #[.int .i64 0, .int .i64 0, .int .i64 0, .int .i64 0, .int .i64 0, .int .i64 0, .int .i64 0, .string ⟨#[]⟩, .string ⟨#[]⟩, .slice none 0 0, .slice none 0 0, .int .i64 0, .bool false, .string ⟨#[]⟩] 26)
          have bx := Box.made k7 26 #[.int .i64 0, .int .i64 0, .int .i64 0, .int .i64 0, .int .i64 0, .int .i64 0, .int .i64 0, .string ⟨#[]⟩, .string ⟨#[]⟩, .slice none 0 0, .slice none 0 0, .int .i64 0, .bool false, .string ⟨#[]⟩]
          have hgl : w5.heap.size ≤ k7.heap.size := HBk7.out.size
          have hlt := HA5k7.out.1.lt
          refine hK.out _ _ (HSa.out _ (HBk7.out.trans (hb.mono HBk7.out.size))) (fun _ => ?_)
          clear hK K
          have HBk10 := Lib.hid (HBk7.out.trans (hb.mono HBk7.out.size))
          have HC1k10 := Lib.hid (And.intro (HC1k7.out.1.below hb) (HC1k7.out.2.below hb))
          have HA5k10 := Lib.hid (And.intro (HA5k7.out.1.below hb HA5k7.out.1.lt) HA5k7.out.2)
          clear hb
          generalize (k7.alloc (.cells #[.int .i64 0, .int .i64 0, .int .i64 0, .int .i64 0, .int .i64 0, .int .i64 0, .int .i64 0, .string ⟨#[]⟩, .string ⟨#[]⟩, .slice none 0 0, .slice none 0 0, .int .i64 0, .bool false, .string ⟨#[]⟩] 26)) = k10 at HBk10 bx HC1k10 HA5k10 ⊢
          generalize k7.heap.size = g6 at *
          have HA6k10 := Lib.hid (And.intro bx hgl)
          have HNE : Hid (g5 ≠ g6) := Lib.hid (by omega)
          clear hlt
          clear bx hgl
          refine wpAnyH_ready (rs := [3]) (by kernel_rfl) (by simp) (AllReadyH.cons (o := ⟨some 29, _, _, _, _, _⟩) rfl (fun K hK => ?_) AllReadyH.nil)
          · go_simp
            refine (HCy.out _ HBk10.out).mono ?_
            rintro e k11 ⟨P2, p2, I2, i2, rfl, op2, oi2, hb⟩
            have HBk11 := Lib.hid (HBk10.out.trans (hb.mono HBk10.out.size))
            have HC1k11 := Lib.hid (And.intro (HC1k10.out.1.below hb) (HC1k10.out.2.below hb))
            have HA5k11 := Lib.hid (And.intro (HA5k10.out.1.below hb HA5k10.out.1.lt) HA5k10.out.2)
            have HA6k11 := Lib.hid (And.intro (HA6k10.out.1.below hb HA6k10.out.1.lt) HA6k10.out.2)
            have HC2k11 : Hid (OwnLps k11 w5.heap.size (.slice P2 L.ps.length p2) L.ps ∧ OwnLis k11 w5.heap.size (.slice I2 L.is.length i2) L.is) := Lib.hid ⟨own_baseN op2 (Nat.le_succ_of_le HBk10.out.size), own_baseN oi2 (Nat.le_succ_of_le HBk10.out.size)⟩
            have HSP : Hid ((∀ g, (Value.slice P1 L.ps.length p1).ownBlock = some g → (Value.slice P2 L.ps.length p2).ownBlock ≠ some g) ∧ (∀ g, (Value.slice I1 L.is.length i1).ownBlock = some g → (Value.slice I2 L.is.length i2).ownBlock ≠ some g)) := Lib.hid ⟨fun g h1 h2 => by have a1 := (HC1k10.out.1.lt g h1).2; have a2 := (op2.lt g h2).1; omega, fun g h1 h2 => by have a1 := (HC1k10.out.2.lt g h1).2; have a2 := (oi2.lt g h2).1; omega⟩
            refine hK.out _ _ (HSa.out _ HBk11.out) (fun _ => ?_)
            clear hK K hb op2 oi2
            obtain ⟨ws, hws5⟩ : ∃ wq, ((((((((((((((k11.setCell ⟨g5, 0, none⟩ (.int .i64 L.kind)).setCell ⟨g5, 1, none⟩ (.int .i64 L.frm)).setCell ⟨g5, 2, none⟩ (.int .i64 L.to)).setCell ⟨g5, 3, none⟩ (.int .i64 L.a)).setCell ⟨g5, 4, none⟩ (.int .i64 L.b)).setCell ⟨g5, 5, none⟩ (.int .i64 L.c)).setCell ⟨g5, 6, none⟩ (.int .i64 L.d)).setCell ⟨g5, 7, none⟩ (.string L.s)).setCell ⟨g5, 8, none⟩ (.string L.t)).setCell ⟨g5, 9, none⟩ (.slice P1 L.ps.length p1)).setCell ⟨g5, 10, none⟩ (.slice I1 L.is.length i1)).setCell ⟨g5, 11, none⟩ (.int .i64 L.code)).setCell ⟨g5, 12, none⟩ (.bool L.yes)).setCell ⟨g5, 13, none⟩ (.string L.body)) = wq := ⟨_, rfl⟩
            obtain ⟨bs, gs, ss⟩ := store14 HA5k11.out.1 hws5
            have bz := HA6k11.out.1.grown gs (fun e => HNE.out (by injection e with e; exact e.symm))
            have HBs := Lib.hid (HBk11.out.grown gs HBk11.out.size (fun g hg => by injection hg with hg; have := HA5k11.out.2; omega))
            refine wpAnyH_ready (rs := [6]) (by kernel_rfl) (by simp) (AllReadyH.cons (o := ⟨none, _, _, _, _, _⟩) rfl (fun K hK => ?_) AllReadyH.nil)
            refine step_storeL rfl (.tmp 5) (.tmp 27) rfl rfl rfl HA5k11.out.1 hws5 ?_
            refine hK.out _ _ (HSa.out _ HBs.out) (fun _ => ?_)
            clear hK K
            obtain ⟨wt, hws6⟩ : ∃ wq, ((((((((((((((ws.setCell ⟨g6, 0, none⟩ (.int .i64 L.kind)).setCell ⟨g6, 1, none⟩ (.int .i64 L.frm)).setCell ⟨g6, 2, none⟩ (.int .i64 L.to)).setCell ⟨g6, 3, none⟩ (.int .i64 L.a)).setCell ⟨g6, 4, none⟩ (.int .i64 L.b)).setCell ⟨g6, 5, none⟩ (.int .i64 L.c)).setCell ⟨g6, 6, none⟩ (.int .i64 L.d)).setCell ⟨g6, 7, none⟩ (.string L.s)).setCell ⟨g6, 8, none⟩ (.string L.t)).setCell ⟨g6, 9, none⟩ (.slice P2 L.ps.length p2)).setCell ⟨g6, 10, none⟩ (.slice I2 L.is.length i2)).setCell ⟨g6, 11, none⟩ (.int .i64 L.code)).setCell ⟨g6, 12, none⟩ (.bool L.yes)).setCell ⟨g6, 13, none⟩ (.string L.body)) = wq := ⟨_, rfl⟩
            obtain ⟨bs2, gs2, ss2⟩ := store14 bz hws6
            have HBt := Lib.hid (HBs.out.grown gs2 HBs.out.size (fun g hg => by injection hg with hg; have := HA6k11.out.2; omega))
            refine wpAnyH_ready (rs := [7]) (by kernel_rfl) (by simp) (AllReadyH.cons (o := ⟨none, _, _, _, _, _⟩) rfl (fun K hK => ?_) AllReadyH.nil)
            refine step_storeL rfl (.tmp 6) (.tmp 29) rfl rfl rfl bz hws6 ?_
            refine hK.out _ _ (HSa.out _ HBt.out) (fun _ => ?_)
            clear hK K
            have HF : Hid (KFin w5 wt L g5 g6 P1 p1 I1 i1 P2 p2 I2 i2) := Lib.hid (kfin bs bs2 HNE.out HA5k11.out.2 HA6k11.out.2 HC1k11.out.1 HC1k11.out.2 HC2k11.out.1 HC2k11.out.2 HSP.out.1 HSP.out.2 HBt.out HA5k11.out.1 bz gs gs2)
            clear hws5 hws6
            refine wpAnyH_done (by kernel_rfl) ?_ _
            go_wp2
            go_meet
            exact ⟨g5, g6, P1, p1, I1, i1, P2, p2, I2, i2, rfl, rfl, HF⟩
      · go_simp
        have hb := below_box (w := k1) (.cells #[.int .i64 0, .int .i64 0, .int .i64 0, .int .i64 0, .int .i64 0, .int .i64 0, .int .i64 0, .string ⟨#[]⟩, .string ⟨#[]⟩, .slice none 0 0, .slice none 0 0, .int .i64 0, .bool false, .string ⟨#[]⟩] 26)
        have bx := Box.made k1 26 #[.int .i64 0, .int .i64 0, .int .i64 0, .int .i64 0, .int .i64 0, .int .i64 0, .int .i64 0, .string ⟨#[]⟩, .string ⟨#[]⟩, .slice none 0 0, .slice none 0 0, .int .i64 0, .bool false, .string ⟨#[]⟩]
        have hgl : w5.heap.size ≤ k1.heap.size := HBk1.out.size
        refine hK.out _ _ (HSa.out _ (HBk1.out.trans (hb.mono HBk1.out.size))) (fun _ => ?_)
        clear hK K
        have HBk12 := Lib.hid (HBk1.out.trans (hb.mono HBk1.out.size))
        have HC1k12 := Lib.hid (And.intro (HC1k1.out.1.below hb) (HC1k1.out.2.below hb))
        clear hb
        generalize (k1.alloc (.cells #[.int .i64 0, .int .i64 0, .int .i64 0, .int .i64 0, .int .i64 0, .int .i64 0, .int .i64 0, .string ⟨#[]⟩, .string ⟨#[]⟩, .slice none 0 0, .slice none 0 0, .int .i64 0, .bool false, .string ⟨#[]⟩] 26)) = k12 at HBk12 bx HC1k12 ⊢
        generalize k1.heap.size = g6 at *
        have HA6k12 := Lib.hid (And.intro bx hgl)
        clear bx hgl
        refine wpAnyH_ready (rs := [3, 4]) (by kernel_rfl) (by simp) (AllReadyH.cons (o := ⟨some 29, _, _, _, _, _⟩) rfl (fun K hK => ?_) (AllReadyH.cons (o := ⟨some 5, _, _, _, _, _⟩) rfl (fun K hK => ?_) AllReadyH.nil))
        · go_simp
          refine (HCy.out _ HBk12.out).mono ?_
          rintro e k13 ⟨P2, p2, I2, i2, rfl, op2, oi2, hb⟩
          have HBk13 := Lib.hid (HBk12.out.trans (hb.mono HBk12.out.size))
          have HC1k13 := Lib.hid (And.intro (HC1k12.out.1.below hb) (HC1k12.out.2.below hb))
          have HA6k13 := Lib.hid (And.intro (HA6k12.out.1.below hb HA6k12.out.1.lt) HA6k12.out.2)
          have HC2k13 : Hid (OwnLps k13 w5.heap.size (.slice P2 L.ps.length p2) L.ps ∧ OwnLis k13 w5.heap.size (.slice I2 L.is.length i2) L.is) := Lib.hid ⟨own_baseN op2 (Nat.le_succ_of_le HBk12.out.size), own_baseN oi2 (Nat.le_succ_of_le HBk12.out.size)⟩
          have HSP : Hid ((∀ g, (Value.slice P1 L.ps.length p1).ownBlock = some g → (Value.slice P2 L.ps.length p2).ownBlock ≠ some g) ∧ (∀ g, (Value.slice I1 L.is.length i1).ownBlock = some g → (Value.slice I2 L.is.length i2).ownBlock ≠ some g)) := Lib.hid ⟨fun g h1 h2 => by have a1 := (HC1k12.out.1.lt g h1).2; have a2 := (op2.lt g h2).1; omega, fun g h1 h2 => by have a1 := (HC1k12.out.2.lt g h1).2; have a2 := (oi2.lt g h2).1; omega⟩
          refine hK.out _ _ (HSa.out _ HBk13.out) (fun _ => ?_)
          clear hK K hb op2 oi2
          refine wpAnyH_ready (rs := [4]) (by kernel_rfl) (by simp) (AllReadyH.cons (o := ⟨some 5, _, _, _, _, _⟩) rfl (fun K hK => ?_) AllReadyH.nil)
          · go_simp
            have hb := below_box (w := k13) (.cells #[.int .i64 0, .int .i64 0, .int .i64 0, .int .i64 0, .int .i64 0, .int .i64 0, .int .i64 0, .string ⟨#[]⟩, .string ⟨#[]⟩, .slice none 0 0, .slice none 0 0, .int .i64 0, .bool false, .string ⟨#[]⟩] 26)
            have bx := Box.made k13 26 #[.int .i64 0, .int .i64 0, .int .i64 0, .int .i64 0, .int .i64 0, .int .i64 0, .int .i64 0, .string ⟨#[]⟩, .string ⟨#[]⟩, .slice none 0 0, .slice none 0 0, .int .i64 0, .bool false, .string ⟨#[]⟩]
            have hgl : w5.heap.size ≤ k13.heap.size := HBk13.out.size
            have hlt := HA6k13.out.1.lt
            refine hK.out _ _ (HSa.out _ (HBk13.out.trans (hb.mono HBk13.out.size))) (fun _ => ?_)
            clear hK K
            have HBk14 := Lib.hid (HBk13.out.trans (hb.mono HBk13.out.size))
            have HC1k14 := Lib.hid (And.intro (HC1k13.out.1.below hb) (HC1k13.out.2.below hb))
            have HC2k14 := Lib.hid (And.intro (HC2k13.out.1.below hb) (HC2k13.out.2.below hb))
            have HA6k14 := Lib.hid (And.intro (HA6k13.out.1.below hb HA6k13.out.1.lt) HA6k13.out.2)
            clear hb
            generalize (k13.alloc (.cells #[.int .i64 0, .int .i64 0, .int .i64 0, .int .i64 0, .int .i64 0, .int .i64 0, .int .i64 0, .string ⟨#[]⟩, .string ⟨#[]⟩, .slice none 0 0, .slice none 0 0, .int .i64 0, .bool false, .string ⟨#[]⟩] 26)) = k14 at HBk14 bx HC1k14 HC2k14 HA6k14 ⊢
            generalize k13.heap.size = g5 at *
            have HA5k14 := Lib.hid (And.intro bx hgl)
            have HNE : Hid (g5 ≠ g6) := Lib.hid (by omega)
            clear hlt
            clear bx hgl
            obtain ⟨ws, hws5⟩ : ∃ wq, ((((((((((((((k14.setCell ⟨g5, 0, none⟩ (.int .i64 L.kind)).setCell ⟨g5, 1, none⟩ (.int .i64 L.frm)).setCell ⟨g5, 2, none⟩ (.int .i64 L.to)).setCell ⟨g5, 3, none⟩ (.int .i64 L.a)).setCell ⟨g5, 4, none⟩ (.int .i64 L.b)).setCell ⟨g5, 5, none⟩ (.int .i64 L.c)).setCell ⟨g5, 6, none⟩ (.int .i64 L.d)).setCell ⟨g5, 7, none⟩ (.string L.s)).setCell ⟨g5, 8, none⟩ (.string L.t)).setCell ⟨g5, 9, none⟩ (.slice P1 L.ps.length p1)).setCell ⟨g5, 10, none⟩ (.slice I1 L.is.length i1)).setCell ⟨g5, 11, none⟩ (.int .i64 L.code)).setCell ⟨g5, 12, none⟩ (.bool L.yes)).setCell ⟨g5, 13, none⟩ (.string L.body)) = wq := ⟨_, rfl⟩
            obtain ⟨bs, gs, ss⟩ := store14 HA5k14.out.1 hws5
            have bz := HA6k14.out.1.grown gs (fun e => HNE.out (by injection e with e; exact e.symm))
            have HBs := Lib.hid (HBk14.out.grown gs HBk14.out.size (fun g hg => by injection hg with hg; have := HA5k14.out.2; omega))
            refine wpAnyH_ready (rs := [6]) (by kernel_rfl) (by simp) (AllReadyH.cons (o := ⟨none, _, _, _, _, _⟩) rfl (fun K hK => ?_) AllReadyH.nil)
            refine step_storeL rfl (.tmp 5) (.tmp 27) rfl rfl rfl HA5k14.out.1 hws5 ?_
            refine hK.out _ _ (HSa.out _ HBs.out) (fun _ => ?_)
            clear hK K
            obtain ⟨wt, hws6⟩ : ∃ wq, ((((((((((((((ws.setCell ⟨g6, 0, none⟩ (.int .i64 L.kind)).setCell ⟨g6, 1, none⟩ (.int .i64 L.frm)).setCell ⟨g6, 2, none⟩ (.int .i64 L.to)).setCell ⟨g6, 3, none⟩ (.int .i64 L.a)).setCell ⟨g6, 4, none⟩ (.int .i64 L.b)).setCell ⟨g6, 5, none⟩ (.int .i64 L.c)).setCell ⟨g6, 6, none⟩ (.int .i64 L.d)).setCell ⟨g6, 7, none⟩ (.string L.s)).setCell ⟨g6, 8, none⟩ (.string L.t)).setCell ⟨g6, 9, none⟩ (.slice P2 L.ps.length p2)).setCell ⟨g6, 10, none⟩ (.slice I2 L.is.length i2)).setCell ⟨g6, 11, none⟩ (.int .i64 L.code)).setCell ⟨g6, 12, none⟩ (.bool L.yes)).setCell ⟨g6, 13, none⟩ (.string L.body)) = wq := ⟨_, rfl⟩
            obtain ⟨bs2, gs2, ss2⟩ := store14 bz hws6
            have HBt := Lib.hid (HBs.out.grown gs2 HBs.out.size (fun g hg => by injection hg with hg; have := HA6k14.out.2; omega))
            refine wpAnyH_ready (rs := [7]) (by kernel_rfl) (by simp) (AllReadyH.cons (o := ⟨none, _, _, _, _, _⟩) rfl (fun K hK => ?_) AllReadyH.nil)
            refine step_storeL rfl (.tmp 6) (.tmp 29) rfl rfl rfl bz hws6 ?_
            refine hK.out _ _ (HSa.out _ HBt.out) (fun _ => ?_)
            clear hK K
            have HF : Hid (KFin w5 wt L g5 g6 P1 p1 I1 i1 P2 p2 I2 i2) := Lib.hid (kfin bs bs2 HNE.out HA5k14.out.2 HA6k14.out.2 HC1k14.out.1 HC1k14.out.2 HC2k14.out.1 HC2k14.out.2 HSP.out.1 HSP.out.2 HBt.out HA5k14.out.1 bz gs gs2)
            clear hws5 hws6
            refine wpAnyH_done (by kernel_rfl) ?_ _
            go_wp2
            go_meet
            exact ⟨g5, g6, P1, p1, I1, i1, P2, p2, I2, i2, rfl, rfl, HF⟩
        · go_simp
          have hb := below_box (w := k12) (.cells #[.int .i64 0, .int .i64 0, .int .i64 0, .int .i64 0, .int .i64 0, .int .i64 0, .int .i64 0, .string ⟨#[]⟩, .string ⟨#[]⟩, .slice none 0 0, .slice none 0 0, .int .i64 0, .bool false, .string ⟨#[]⟩] 26)
          have bx := Box.made k12 26 #[.int .i64 0, .int .i64 0, .int .i64 0, .int .i64 0, .int .i64 0, .int .i64 0, .int .i64 0, .string ⟨#[]⟩, .string ⟨#[]⟩, .slice none 0 0, .slice none 0 0, .int .i64 0, .bool false, .string ⟨#[]⟩]
          have hgl : w5.heap.size ≤ k12.heap.size := HBk12.out.size
          have hlt := HA6k12.out.1.lt
          refine hK.out _ _ (HSa.out _ (HBk12.out.trans (hb.mono HBk12.out.size))) (fun _ => ?_)
          clear hK K
          have HBk15 := Lib.hid (HBk12.out.trans (hb.mono HBk12.out.size))
          have HC1k15 := Lib.hid (And.intro (HC1k12.out.1.below hb) (HC1k12.out.2.below hb))
          have HA6k15 := Lib.hid (And.intro (HA6k12.out.1.below hb HA6k12.out.1.lt) HA6k12.out.2)
          clear hb
          generalize (k12.alloc (.cells #[.int .i64 0, .int .i64 0, .int .i64 0, .int .i64 0, .int .i64 0, .int .i64 0, .int .i64 0, .string ⟨#[]⟩, .string ⟨#[]⟩, .slice none 0 0, .slice none 0 0, .int .i64 0, .bool false, .string ⟨#[]⟩] 26)) = k15 at HBk15 bx HC1k15 HA6k15 ⊢
          generalize k12.heap.size = g5 at *
          have HA5k15 := Lib.hid (And.intro bx hgl)
          have HNE : Hid (g5 ≠ g6) := Lib.hid (by omega)
          clear hlt
          clear bx hgl
          refine wpAnyH_ready (rs := [3]) (by kernel_rfl) (by simp) (AllReadyH.cons (o := ⟨some 29, _, _, _, _, _⟩) rfl (fun K hK => ?_) AllReadyH.nil)
          · go_simp
            refine (HCy.out _ HBk15.out).mono ?_
            rintro e k16 ⟨P2, p2, I2, i2, rfl, op2, oi2, hb⟩
            have HBk16 := Lib.hid (HBk15.out.trans (hb.mono HBk15.out.size))
            have HC1k16 := Lib.hid (And.intro (HC1k15.out.1.below hb) (HC1k15.out.2.below hb))
            have HA5k16 := Lib.hid (And.intro (HA5k15.out.1.below hb HA5k15.out.1.lt) HA5k15.out.2)
            have HA6k16 := Lib.hid (And.intro (HA6k15.out.1.below hb HA6k15.out.1.lt) HA6k15.out.2)
            have HC2k16 : Hid (OwnLps k16 w5.heap.size (.slice P2 L.ps.length p2) L.ps ∧ OwnLis k16 w5.heap.size (.slice I2 L.is.length i2) L.is) := Lib.hid ⟨own_baseN op2 (Nat.le_succ_of_le HBk15.out.size), own_baseN oi2 (Nat.le_succ_of_le HBk15.out.size)⟩
            have HSP : Hid ((∀ g, (Value.slice P1 L.ps.length p1).ownBlock = some g → (Value.slice P2 L.ps.length p2).ownBlock ≠ some g) ∧ (∀ g, (Value.slice I1 L.is.length i1).ownBlock = some g → (Value.slice I2 L.is.length i2).ownBlock ≠ some g)) := Lib.hid ⟨fun g h1 h2 => by have a1 := (HC1k15.out.1.lt g h1).2; have a2 := (op2.lt g h2).1; omega, fun g h1 h2 => by have a1 := (HC1k15.out.2.lt g h1).2; have a2 := (oi2.lt g h2).1; omega⟩
            refine hK.out _ _ (HSa.out _ HBk16.out) (fun _ => ?_)
            clear hK K hb op2 oi2
            obtain ⟨ws, hws5⟩ : ∃ wq, ((((((((((((((k16.setCell ⟨g5, 0, none⟩ (.int .i64 L.kind)).setCell ⟨g5, 1, none⟩ (.int .i64 L.frm)).setCell ⟨g5, 2, none⟩ (.int .i64 L.to)).setCell ⟨g5, 3, none⟩ (.int .i64 L.a)).setCell ⟨g5, 4, none⟩ (.int .i64 L.b)).setCell ⟨g5, 5, none⟩ (.int .i64 L.c)).setCell ⟨g5, 6, none⟩ (.int .i64 L.d)).setCell ⟨g5, 7, none⟩ (.string L.s)).setCell ⟨g5, 8, none⟩ (.string L.t)).setCell ⟨g5, 9, none⟩ (.slice P1 L.ps.length p1)).setCell ⟨g5, 10, none⟩ (.slice I1 L.is.length i1)).setCell ⟨g5, 11, none⟩ (.int .i64 L.code)).setCell ⟨g5, 12, none⟩ (.bool L.yes)).setCell ⟨g5, 13, none⟩ (.string L.body)) = wq := ⟨_, rfl⟩
            obtain ⟨bs, gs, ss⟩ := store14 HA5k16.out.1 hws5
            have bz := HA6k16.out.1.grown gs (fun e => HNE.out (by injection e with e; exact e.symm))
            have HBs := Lib.hid (HBk16.out.grown gs HBk16.out.size (fun g hg => by injection hg with hg; have := HA5k16.out.2; omega))
            refine wpAnyH_ready (rs := [6]) (by kernel_rfl) (by simp) (AllReadyH.cons (o := ⟨none, _, _, _, _, _⟩) rfl (fun K hK => ?_) AllReadyH.nil)
            refine step_storeL rfl (.tmp 5) (.tmp 27) rfl rfl rfl HA5k16.out.1 hws5 ?_
            refine hK.out _ _ (HSa.out _ HBs.out) (fun _ => ?_)
            clear hK K
            obtain ⟨wt, hws6⟩ : ∃ wq, ((((((((((((((ws.setCell ⟨g6, 0, none⟩ (.int .i64 L.kind)).setCell ⟨g6, 1, none⟩ (.int .i64 L.frm)).setCell ⟨g6, 2, none⟩ (.int .i64 L.to)).setCell ⟨g6, 3, none⟩ (.int .i64 L.a)).setCell ⟨g6, 4, none⟩ (.int .i64 L.b)).setCell ⟨g6, 5, none⟩ (.int .i64 L.c)).setCell ⟨g6, 6, none⟩ (.int .i64 L.d)).setCell ⟨g6, 7, none⟩ (.string L.s)).setCell ⟨g6, 8, none⟩ (.string L.t)).setCell ⟨g6, 9, none⟩ (.slice P2 L.ps.length p2)).setCell ⟨g6, 10, none⟩ (.slice I2 L.is.length i2)).setCell ⟨g6, 11, none⟩ (.int .i64 L.code)).setCell ⟨g6, 12, none⟩ (.bool L.yes)).setCell ⟨g6, 13, none⟩ (.string L.body)) = wq := ⟨_, rfl⟩
            obtain ⟨bs2, gs2, ss2⟩ := store14 bz hws6
            have HBt := Lib.hid (HBs.out.grown gs2 HBs.out.size (fun g hg => by injection hg with hg; have := HA6k16.out.2; omega))
            refine wpAnyH_ready (rs := [7]) (by kernel_rfl) (by simp) (AllReadyH.cons (o := ⟨none, _, _, _, _, _⟩) rfl (fun K hK => ?_) AllReadyH.nil)
            refine step_storeL rfl (.tmp 6) (.tmp 29) rfl rfl rfl bz hws6 ?_
            refine hK.out _ _ (HSa.out _ HBt.out) (fun _ => ?_)
            clear hK K
            have HF : Hid (KFin w5 wt L g5 g6 P1 p1 I1 i1 P2 p2 I2 i2) := Lib.hid (kfin bs bs2 HNE.out HA5k16.out.2 HA6k16.out.2 HC1k16.out.1 HC1k16.out.2 HC2k16.out.1 HC2k16.out.2 HSP.out.1 HSP.out.2 HBt.out HA5k16.out.1 bz gs gs2)
            clear hws5 hws6
            refine wpAnyH_done (by kernel_rfl) ?_ _
            go_wp2
            go_meet
            exact ⟨g5, g6, P1, p1, I1, i1, P2, p2, I2, i2, rfl, rfl, HF⟩
    · go_simp
      have hb := below_box (w := k0) (.cells #[.int .i64 0, .int .i64 0, .int .i64 0, .int .i64 0, .int .i64 0, .int .i64 0, .int .i64 0, .string ⟨#[]⟩, .string ⟨#[]⟩, .slice none 0 0, .slice none 0 0, .int .i64 0, .bool false, .string ⟨#[]⟩] 26)
      have bx := Box.made k0 26 #[.int .i64 0, .int .i64 0, .int .i64 0, .int .i64 0, .int .i64 0, .int .i64 0, .int .i64 0, .string ⟨#[]⟩, .string ⟨#[]⟩, .slice none 0 0, .slice none 0 0, .int .i64 0, .bool false, .string ⟨#[]⟩]
      have hgl : w5.heap.size ≤ k0.heap.size := HBk0.out.size
      refine hK.out _ _ (HSa.out _ (HBk0.out.trans (hb.mono HBk0.out.size))) (fun _ => ?_)
      clear hK K
      have HBk17 := Lib.hid (HBk0.out.trans (hb.mono HBk0.out.size))
      clear hb
      generalize (k0.alloc (.cells #[.int .i64 0, .int .i64 0, .int .i64 0, .int .i64 0, .int .i64 0, .int .i64 0, .int .i64 0, .string ⟨#[]⟩, .string ⟨#[]⟩, .slice none 0 0, .slice none 0 0, .int .i64 0, .bool false, .string ⟨#[]⟩] 26)) = k17 at HBk17 bx ⊢
      generalize k0.heap.size = g5 at *
      have HA5k17 := Lib.hid (And.intro bx hgl)
      clear bx hgl
      refine wpAnyH_ready (rs := [1, 5]) (by kernel_rfl) (by simp) (AllReadyH.cons (o := ⟨some 27, _, _, _, _, _⟩) rfl (fun K hK => ?_) (AllReadyH.cons (o := ⟨some 6, _, _, _, _, _⟩) rfl (fun K hK => ?_) AllReadyH.nil))
      · go_simp
        refine (HCy.out _ HBk17.out).mono ?_
        rintro e k18 ⟨P1, p1, I1, i1, rfl, op1, oi1, hb⟩
        have HBk18 := Lib.hid (HBk17.out.trans (hb.mono HBk17.out.size))
        have HA5k18 := Lib.hid (And.intro (HA5k17.out.1.below hb HA5k17.out.1.lt) HA5k17.out.2)
        have HC1k18 : Hid (OwnLps k18 w5.heap.size (.slice P1 L.ps.length p1) L.ps ∧ OwnLis k18 w5.heap.size (.slice I1 L.is.length i1) L.is) := Lib.hid ⟨own_baseN op1 (Nat.le_succ_of_le HBk17.out.size), own_baseN oi1 (Nat.le_succ_of_le HBk17.out.size)⟩
        refine hK.out _ _ (HSa.out _ HBk18.out) (fun _ => ?_)
        clear hK K hb op1 oi1
        refine wpAnyH_ready (rs := [3, 5]) (by kernel_rfl) (by simp) (AllReadyH.cons (o := ⟨some 29, _, _, _, _, _⟩) rfl (fun K hK => ?_) (AllReadyH.cons (o := ⟨some 6, _, _, _, _, _⟩) rfl (fun K hK => ?_) AllReadyH.nil))
        · go_simp
          refine (HCy.out _ HBk18.out).mono ?_
          rintro e k19 ⟨P2, p2, I2, i2, rfl, op2, oi2, hb⟩
          have HBk19 := Lib.hid (HBk18.out.trans (hb.mono HBk18.out.size))
          have HC1k19 := Lib.hid (And.intro (HC1k18.out.1.below hb) (HC1k18.out.2.below hb))
          have HA5k19 := Lib.hid (And.intro (HA5k18.out.1.below hb HA5k18.out.1.lt) HA5k18.out.2)
          have HC2k19 : Hid (OwnLps k19 w5.heap.size (.slice P2 L.ps.length p2) L.ps ∧ OwnLis k19 w5.heap.size (.slice I2 L.is.length i2) L.is) := Lib.hid ⟨own_baseN op2 (Nat.le_succ_of_le HBk18.out.size), own_baseN oi2 (Nat.le_succ_of_le HBk18.out.size)⟩
          have HSP : Hid ((∀ g, (Value.slice P1 L.ps.length p1).ownBlock = some g → (Value.slice P2 L.ps.length p2).ownBlock ≠ some g) ∧ (∀ g, (Value.slice I1 L.is.length i1).ownBlock = some g → (Value.slice I2 L.is.length i2).ownBlock ≠ some g)) := Lib.hid ⟨fun g h1 h2 => by have a1 := (HC1k18.out.1.lt g h1).2; have a2 := (op2.lt g h2).1; omega, fun g h1 h2 => by have a1 := (HC1k18.out.2.lt g h1).2; have a2 := (oi2.lt g h2).1; omega⟩
          refine hK.out _ _ (HSa.out _ HBk19.out) (fun _ => ?_)
          clear hK K hb op2 oi2
          refine wpAnyH_ready (rs := [5]) (by kernel_rfl) (by simp) (AllReadyH.cons (o := ⟨some 6, _, _, _, _, _⟩) rfl (fun K hK => ?_) AllReadyH.nil)
          · go_simp
            have hb := below_box (w := k19) (.cells #[.int .i64 0, .int .i64 0, .int .i64 0, .int .i64 0, .int .i64 0, .int .i64 0, .int .i64 0, .string ⟨#[]⟩, .string ⟨#[]⟩, .slice none 0 0, .slice none 0 0, .int .i64 0, .bool false, .string ⟨#[]⟩] 26)
            have bx := Box.made k19 26 #[.int .i64 0, .int .i64 0, .int .i64 0, .int .i64 0, .int .i64 0, .int .i64 0, .int .i64 0, .string ⟨#[]⟩, .string ⟨#[]⟩, .slice none 0 0, .slice none 0 0, .int .i64 0, .bool false, .string ⟨#[]⟩]
            have hgl : w5.heap.size ≤ k19.heap.size := HBk19.out.size
            have hlt := HA5k19.out.1.lt
            refine hK.out _ _ (HSa.out _ (HBk19.out.trans (hb.mono HBk19.out.size))) (fun _ => ?_)
            clear hK K
            have HBk20 := Lib.hid (HBk19.out.trans (hb.mono HBk19.out.size))
            have HC1k20 := Lib.hid (And.intro (HC1k19.out.1.below hb) (HC1k19.out.2.below hb))
            have HC2k20 := Lib.hid (And.intro (HC2k19.out.1.below hb) (HC2k19.out.2.below hb))
            have HA5k20 := Lib.hid (And.intro (HA5k19.out.1.below hb HA5k19.out.1.lt) HA5k19.out.2)
            clear hb
            generalize (k19.alloc (.cells #[.int .i64 0, .int .i64 0, .int .i64 0, .int .i64 0, .int .i64 0, .int .i64 0, .int .i64 0, .string ⟨#[]⟩, .string ⟨#[]⟩, .slice none 0 0, .slice none 0 0, .int .i64 0, .bool false, .string ⟨#[]⟩] 26)) = k20 at HBk20 bx HC1k20 HC2k20 HA5k20 ⊢
            generalize k19.heap.size = g6 at *
            have HA6k20 := Lib.hid (And.intro bx hgl)
            have HNE : Hid (g5 ≠ g6) := Lib.hid (by omega)
            clear hlt
            clear bx hgl
            obtain ⟨ws, hws5⟩ : ∃ wq, ((((((((((((((k20.setCell ⟨g5, 0, none⟩ (.int .i64 L.kind)).setCell ⟨g5, 1, none⟩ (.int .i64 L.frm)).setCell ⟨g5, 2, none⟩ (.int .i64 L.to)).setCell ⟨g5, 3, none⟩ (.int .i64 L.a)).setCell ⟨g5, 4, none⟩ (.int .i64 L.b)).setCell ⟨g5, 5, none⟩ (.int .i64 L.c)).setCell ⟨g5, 6, none⟩ (.int .i64 L.d)).setCell ⟨g5, 7, none⟩ (.string L.s)).setCell ⟨g5, 8, none⟩ (.string L.t)).setCell ⟨g5, 9, none⟩ (.slice P1 L.ps.length p1)).setCell ⟨g5, 10, none⟩ (.slice I1 L.is.length i1)).setCell ⟨g5, 11, none⟩ (.int .i64 L.code)).setCell ⟨g5, 12, none⟩ (.bool L.yes)).setCell ⟨g5, 13, none⟩ (.string L.body)) = wq := ⟨_, rfl⟩
            obtain ⟨bs, gs, ss⟩ := store14 HA5k20.out.1 hws5
            have bz := HA6k20.out.1.grown gs (fun e => HNE.out (by injection e with e; exact e.symm))
            have HBs := Lib.hid (HBk20.out.grown gs HBk20.out.size (fun g hg => by injection hg with hg; have := HA5k20.out.2; omega))
            refine wpAnyH_ready (rs := [6]) (by kernel_rfl) (by simp) (AllReadyH.cons (o := ⟨none, _, _, _, _, _⟩) rfl (fun K hK => ?_) AllReadyH.nil)
            refine step_storeL rfl (.tmp 5) (.tmp 27) rfl rfl rfl HA5k20.out.1 hws5 ?_
            refine hK.out _ _ (HSa.out _ HBs.out) (fun _ => ?_)
            clear hK K
            obtain ⟨wt, hws6⟩ : ∃ wq, ((((((((((((((ws.setCell ⟨g6, 0, none⟩ (.int .i64 L.kind)).setCell ⟨g6, 1, none⟩ (.int .i64 L.frm)).setCell ⟨g6, 2, none⟩ (.int .i64 L.to)).setCell ⟨g6, 3, none⟩ (.int .i64 L.a)).setCell ⟨g6, 4, none⟩ (.int .i64 L.b)).setCell ⟨g6, 5, none⟩ (.int .i64 L.c)).setCell ⟨g6, 6, none⟩ (.int .i64 L.d)).setCell ⟨g6, 7, none⟩ (.string L.s)).setCell ⟨g6, 8, none⟩ (.string L.t)).setCell ⟨g6, 9, none⟩ (.slice P2 L.ps.length p2)).setCell ⟨g6, 10, none⟩ (.slice I2 L.is.length i2)).setCell ⟨g6, 11, none⟩ (.int .i64 L.code)).setCell ⟨g6, 12, none⟩ (.bool L.yes)).setCell ⟨g6, 13, none⟩ (.string L.body)) = wq := ⟨_, rfl⟩
            obtain ⟨bs2, gs2, ss2⟩ := store14 bz hws6
            have HBt := Lib.hid (HBs.out.grown gs2 HBs.out.size (fun g hg => by injection hg with hg; have := HA6k20.out.2; omega))
            refine wpAnyH_ready (rs := [7]) (by kernel_rfl) (by simp) (AllReadyH.cons (o := ⟨none, _, _, _, _, _⟩) rfl (fun K hK => ?_) AllReadyH.nil)
            refine step_storeL rfl (.tmp 6) (.tmp 29) rfl rfl rfl bz hws6 ?_
            refine hK.out _ _ (HSa.out _ HBt.out) (fun _ => ?_)
            clear hK K
            have HF : Hid (KFin w5 wt L g5 g6 P1 p1 I1 i1 P2 p2 I2 i2) := Lib.hid (kfin bs bs2 HNE.out HA5k20.out.2 HA6k20.out.2 HC1k20.out.1 HC1k20.out.2 HC2k20.out.1 HC2k20.out.2 HSP.out.1 HSP.out.2 HBt.out HA5k20.out.1 bz gs gs2)
            clear hws5 hws6
            refine wpAnyH_done (by kernel_rfl) ?_ _
            go_wp2
            go_meet
            exact ⟨g5, g6, P1, p1, I1, i1, P2, p2, I2, i2, rfl, rfl, HF⟩
        · go_simp
          have hb := below_box (w := k18) (.cells #[.int .i64 0, .int .i64 0, .int .i64 0, .int .i64 0, .int .i64 0, .int .i64 0, .int .i64 0, .string ⟨#[]⟩, .string ⟨#[]⟩, .slice none 0 0, .slice none 0 0, .int .i64 0, .bool false, .string ⟨#[]⟩] 26)
          have bx := Box.made k18 26 #[.int .i64 0, .int .i64 0, .int .i64 0, .int .i64 0, .int .i64 0, .int .i64 0, .int .i64 0, .string ⟨#[]⟩, .string ⟨#[]⟩, .slice none 0 0, .slice none 0 0, .int .i64 0, .bool false, .string ⟨#[]⟩]
          have hgl : w5.heap.size ≤ k18.heap.size := HBk18.out.size
          have hlt := HA5k18.out.1.lt
          refine hK.out _ _ (HSa.out _ (HBk18.out.trans (hb.mono HBk18.out.size))) (fun _ => ?_)
          clear hK K
          have HBk21 := Lib.hid (HBk18.out.trans (hb.mono HBk18.out.size))
          have HC1k21 := Lib.hid (And.intro (HC1k18.out.1.below hb) (HC1k18.out.2.below hb))
          have HA5k21 := Lib.hid (And.intro (HA5k18.out.1.below hb HA5k18.out.1.lt) HA5k18.out.2)
          clear hb
          generalize (k18.alloc (.cells #[.int .i64 0, .int .i64 0, .int .i64 0, .int .i64 0, .int .i64 0, .int .i64 0, .int .i64 0, .string ⟨#[]⟩, .string ⟨#[]⟩, .slice none 0 0, .slice none 0 0, .int .i64 0, .bool false, .string ⟨#[]⟩] 26)) = k21 at HBk21 bx HC1k21 HA5k21 ⊢
          generalize k18.heap.size = g6 at *
          have HA6k21 := Lib.hid (And.intro bx hgl)
          have HNE : Hid (g5 ≠ g6) := Lib.hid (by omega)
          clear hlt
          clear bx hgl
          refine wpAnyH_ready (rs := [3]) (by kernel_rfl) (by simp) (AllReadyH.cons (o := ⟨some 29, _, _, _, _, _⟩) rfl (fun K hK => ?_) AllReadyH.nil)
          · go_simp
            refine (HCy.out _ HBk21.out).mono ?_
            rintro e k22 ⟨P2, p2, I2, i2, rfl, op2, oi2, hb⟩
            have HBk22 := Lib.hid (HBk21.out.trans (hb.mono HBk21.out.size))
            have HC1k22 := Lib.hid (And.intro (HC1k21.out.1.below hb) (HC1k21.out.2.below hb))
            have HA5k22 := Lib.hid (And.intro (HA5k21.out.1.below hb HA5k21.out.1.lt) HA5k21.out.2)
            have HA6k22 := Lib.hid (And.intro (HA6k21.out.1.below hb HA6k21.out.1.lt) HA6k21.out.2)
            have HC2k22 : Hid (OwnLps k22 w5.heap.size (.slice P2 L.ps.length p2) L.ps ∧ OwnLis k22 w5.heap.size (.slice I2 L.is.length i2) L.is) := Lib.hid ⟨own_baseN op2 (Nat.le_succ_of_le HBk21.out.size), own_baseN oi2 (Nat.le_succ_of_le HBk21.out.size)⟩
            have HSP : Hid ((∀ g, (Value.slice P1 L.ps.length p1).ownBlock = some g → (Value.slice P2 L.ps.length p2).ownBlock ≠ some g) ∧ (∀ g, (Value.slice I1 L.is.length i1).ownBlock = some g → (Value.slice I2 L.is.length i2).ownBlock ≠ some g)) := Lib.hid ⟨fun g h1 h2 => by have a1 := (HC1k21.out.1.lt g h1).2; have a2 := (op2.lt g h2).1; omega, fun g h1 h2 => by have a1 := (HC1k21.out.2.lt g h1).2; have a2 := (oi2.lt g h2).1; omega⟩
            refine hK.out _ _ (HSa.out _ HBk22.out) (fun _ => ?_)
            clear hK K hb op2 oi2
            obtain ⟨ws, hws5⟩ : ∃ wq, ((((((((((((((k22.setCell ⟨g5, 0, none⟩ (.int .i64 L.kind)).setCell ⟨g5, 1, none⟩ (.int .i64 L.frm)).setCell ⟨g5, 2, none⟩ (.int .i64 L.to)).setCell ⟨g5, 3, none⟩ (.int .i64 L.a)).setCell ⟨g5, 4, none⟩ (.int .i64 L.b)).setCell ⟨g5, 5, none⟩ (.int .i64 L.c)).setCell ⟨g5, 6, none⟩ (.int .i64 L.d)).setCell ⟨g5, 7, none⟩ (.string L.s)).setCell ⟨g5, 8, none⟩ (.string L.t)).setCell ⟨g5, 9, none⟩ (.slice P1 L.ps.length p1)).setCell ⟨g5, 10, none⟩ (.slice I1 L.is.length i1)).setCell ⟨g5, 11, none⟩ (.int .i64 L.code)).setCell ⟨g5, 12, none⟩ (.bool L.yes)).setCell ⟨g5, 13, none⟩ (.string L.body)) = wq := ⟨_, rfl⟩
            obtain ⟨bs, gs, ss⟩ := store14 HA5k22.out.1 hws5
            have bz := HA6k22.out.1.grown gs (fun e => HNE.out (by injection e with e; exact e.symm))
            have HBs := Lib.hid (HBk22.out.grown gs HBk22.out.size (fun g hg => by injection hg with hg; have := HA5k22.out.2; omega))
            refine wpAnyH_ready (rs := [6]) (by kernel_rfl) (by simp) (AllReadyH.cons (o := ⟨none, _, _, _, _, _⟩) rfl (fun K hK => ?_) AllReadyH.nil)
            refine step_storeL rfl (.tmp 5) (.tmp 27) rfl rfl rfl HA5k22.out.1 hws5 ?_
            refine hK.out _ _ (HSa.out _ HBs.out) (fun _ => ?_)
            clear hK K
            obtain ⟨wt, hws6⟩ : ∃ wq, ((((((((((((((ws.setCell ⟨g6, 0, none⟩ (.int .i64 L.kind)).setCell ⟨g6, 1, none⟩ (.int .i64 L.frm)).setCell ⟨g6, 2, none⟩ (.int .i64 L.to)).setCell ⟨g6, 3, none⟩ (.int .i64 L.a)).setCell ⟨g6, 4, none⟩ (.int .i64 L.b)).setCell ⟨g6, 5, none⟩ (.int .i64 L.c)).setCell ⟨g6, 6, none⟩ (.int .i64 L.d)).setCell ⟨g6, 7, none⟩ (.string L.s)).setCell ⟨g6, 8, none⟩ (.string L.t)).setCell ⟨g6, 9, none⟩ (.slice P2 L.ps.length p2)).setCell ⟨g6, 10, none⟩ (.slice I2 L.is.length i2)).setCell ⟨g6, 11, none⟩ (.int .i64 L.code)).setCell ⟨g6, 12, none⟩ (.bool L.yes)).setCell ⟨g6, 13, none⟩ (.string L.body)) = wq := ⟨_, rfl⟩
            obtain ⟨bs2, gs2, ss2⟩ := store14 bz hws6
            have HBt := Lib.hid (HBs.out.grown gs2 HBs.out.size (fun g hg => by injection hg with hg; have := HA6k22.out.2; omega))
            refine wpAnyH_ready (rs := [7]) (by kernel_rfl) (by simp) (AllReadyH.cons (o := ⟨none, _, _, _, _, _⟩) rfl (fun K hK => ?_) AllReadyH.nil)
            refine step_storeL rfl (.tmp 6) (.tmp 29) rfl rfl rfl bz hws6 ?_
            refine hK.out _ _ (HSa.out _ HBt.out) (fun _ => ?_)
            clear hK K
            have HF : Hid (KFin w5 wt L g5 g6 P1 p1 I1 i1 P2 p2 I2 i2) := Lib.hid (kfin bs bs2 HNE.out HA5k22.out.2 HA6k22.out.2 HC1k22.out.1 HC1k22.out.2 HC2k22.out.1 HC2k22.out.2 HSP.out.1 HSP.out.2 HBt.out HA5k22.out.1 bz gs gs2)
            clear hws5 hws6
            refine wpAnyH_done (by kernel_rfl) ?_ _
            go_wp2
            go_meet
            exact ⟨g5, g6, P1, p1, I1, i1, P2, p2, I2, i2, rfl, rfl, HF⟩
      · go_simp
        have hb := below_box (w := k17) (.cells #[.int .i64 0, .int .i64 0, .int .i64 0, .int .i64 0, .int .i64 0, .int .i64 0, .int .i64 0, .string ⟨#[]⟩, .string ⟨#[]⟩, .slice none 0 0, .slice none 0 0, .int .i64 0, .bool false, .string ⟨#[]⟩] 26)
        have bx := Box.made k17 26 #[.int .i64 0, .int .i64 0, .int .i64 0, .int .i64 0, .int .i64 0, .int .i64 0, .int .i64 0, .string ⟨#[]⟩, .string ⟨#[]⟩, .slice none 0 0, .slice none 0 0, .int .i64 0, .bool false, .string ⟨#[]⟩]
        have hgl : w5.heap.size ≤ k17.heap.size := HBk17.out.size
        have hlt := HA5k17.out.1.lt
        refine hK.out _ _ (HSa.out _ (HBk17.out.trans (hb.mono HBk17.out.size))) (fun _ => ?_)
        clear hK K
        have HBk23 := Lib.hid (HBk17.out.trans (hb.mono HBk17.out.size))
        have HA5k23 := Lib.hid (And.intro (HA5k17.out.1.below hb HA5k17.out.1.lt) HA5k17.out.2)
        clear hb
        generalize (k17.alloc (.cells #[.int .i64 0, .int .i64 0, .int .i64 0, .int .i64 0, .int .i64 0, .int .i64 0, .int .i64 0, .string ⟨#[]⟩, .string ⟨#[]⟩, .slice none 0 0, .slice none 0 0, .int .i64 0, .bool false, .string ⟨#[]⟩] 26)) = k23 at HBk23 bx HA5k23 ⊢
        generalize k17.heap.size = g6 at *
        have HA6k23 := Lib.hid (And.intro bx hgl)
        have HNE : Hid (g5 ≠ g6) := Lib.hid (by omega)
        clear hlt
        clear bx hgl
        refine wpAnyH_ready (rs := [1]) (by kernel_rfl) (by simp) (AllReadyH.cons (o := ⟨some 27, _, _, _, _, _⟩) rfl (fun K hK => ?_) AllReadyH.nil)
        · go_simp
          refine (HCy.out _ HBk23.out).mono ?_
          rintro e k24 ⟨P1, p1, I1, i1, rfl, op1, oi1, hb⟩
          have HBk24 := Lib.hid (HBk23.out.trans (hb.mono HBk23.out.size))
          have HA5k24 := Lib.hid (And.intro (HA5k23.out.1.below hb HA5k23.out.1.lt) HA5k23.out.2)
          have HA6k24 := Lib.hid (And.intro (HA6k23.out.1.below hb HA6k23.out.1.lt) HA6k23.out.2)
          have HC1k24 : Hid (OwnLps k24 w5.heap.size (.slice P1 L.ps.length p1) L.ps ∧ OwnLis k24 w5.heap.size (.slice I1 L.is.length i1) L.is) := Lib.hid ⟨own_baseN op1 (Nat.le_succ_of_le HBk23.out.size), own_baseN oi1 (Nat.le_succ_of_le HBk23.out.size)⟩
          refine hK.out _ _ (HSa.out _ HBk24.out) (fun _ => ?_)
          clear hK K hb op1 oi1
          refine wpAnyH_ready (rs := [3]) (by kernel_rfl) (by simp) (AllReadyH.cons (o := ⟨some 29, _, _, _, _, _⟩) rfl (fun K hK => ?_) AllReadyH.nil)
          · go_simp
            refine (HCy.out _ HBk24.out).mono ?_
            rintro e k25 ⟨P2, p2, I2, i2, rfl, op2, oi2, hb⟩
            have HBk25 := Lib.hid (HBk24.out.trans (hb.mono HBk24.out.size))
            have HC1k25 := Lib.hid (And.intro (HC1k24.out.1.below hb) (HC1k24.out.2.below hb))
            have HA5k25 := Lib.hid (And.intro (HA5k24.out.1.below hb HA5k24.out.1.lt) HA5k24.out.2)
            have HA6k25 := Lib.hid (And.intro (HA6k24.out.1.below hb HA6k24.out.1.lt) HA6k24.out.2)
            have HC2k25 : Hid (OwnLps k25 w5.heap.size (.slice P2 L.ps.length p2) L.ps ∧ OwnLis k25 w5.heap.size (.slice I2 L.is.length i2) L.is) := Lib.hid ⟨own_baseN op2 (Nat.le_succ_of_le HBk24.out.size), own_baseN oi2 (Nat.le_succ_of_le HBk24.out.size)⟩
            have HSP : Hid ((∀ g, (Value.slice P1 L.ps.length p1).ownBlock = some g → (Value.slice P2 L.ps.length p2).ownBlock ≠ some g) ∧ (∀ g, (Value.slice I1 L.is.length i1).ownBlock = some g → (Value.slice I2 L.is.length i2).ownBlock ≠ some g)) := Lib.hid ⟨fun g h1 h2 => by have a1 := (HC1k24.out.1.lt g h1).2; have a2 := (op2.lt g h2).1; omega, fun g h1 h2 => by have a1 := (HC1k24.out.2.lt g h1).2; have a2 := (oi2.lt g h2).1; omega⟩
            refine hK.out _ _ (HSa.out _ HBk25.out) (fun _ => ?_)
            clear hK K hb op2 oi2
            obtain ⟨ws, hws5⟩ : ∃ wq, ((((((((((((((k25.setCell ⟨g5, 0, none⟩ (.int .i64 L.kind)).setCell ⟨g5, 1, none⟩ (.int .i64 L.frm)).setCell ⟨g5, 2, none⟩ (.int .i64 L.to)).setCell ⟨g5, 3, none⟩ (.int .i64 L.a)).setCell ⟨g5, 4, none⟩ (.int .i64 L.b)).setCell ⟨g5, 5, none⟩ (.int .i64 L.c)).setCell ⟨g5, 6, none⟩ (.int .i64 L.d)).setCell ⟨g5, 7, none⟩ (.string L.s)).setCell ⟨g5, 8, none⟩ (.string L.t)).setCell ⟨g5, 9, none⟩ (.slice P1 L.ps.length p1)).setCell ⟨g5, 10, none⟩ (.slice I1 L.is.length i1)).setCell ⟨g5, 11, none⟩ (.int .i64 L.code)).setCell ⟨g5, 12, none⟩ (.bool L.yes)).setCell ⟨g5, 13, none⟩ (.string L.body)) = wq := ⟨_, rfl⟩
            obtain ⟨bs, gs, ss⟩ := store14 HA5k25.out.1 hws5
            have bz := HA6k25.out.1.grown gs (fun e => HNE.out (by injection e with e; exact e.symm))
            have HBs := Lib.hid (HBk25.out.grown gs HBk25.out.size (fun g hg => by injection hg with hg; have := HA5k25.out.2; omega))
            refine wpAnyH_ready (rs := [6]) (by kernel_rfl) (by simp) (AllReadyH.cons (o := ⟨none, _, _, _, _, _⟩) rfl (fun K hK => ?_) AllReadyH.nil)
            refine step_storeL rfl (.tmp 5) (.tmp 27) rfl rfl rfl HA5k25.out.1 hws5 ?_
            refine hK.out _ _ (HSa.out _ HBs.out) (fun _ => ?_)
            clear hK K
            obtain ⟨wt, hws6⟩ : ∃ wq, ((((((((((((((ws.setCell ⟨g6, 0, none⟩ (.int .i64 L.kind)).setCell ⟨g6, 1, none⟩ (.int .i64 L.frm)).setCell ⟨g6, 2, none⟩ (.int .i64 L.to)).setCell ⟨g6, 3, none⟩ (.int .i64 L.a)).setCell ⟨g6, 4, none⟩ (.int .i64 L.b)).setCell ⟨g6, 5, none⟩ (.int .i64 L.c)).setCell ⟨g6, 6, none⟩ (.int .i64 L.d)).setCell ⟨g6, 7, none⟩ (.string L.s)).setCell ⟨g6, 8, none⟩ (.string L.t)).setCell ⟨g6, 9, none⟩ (.slice P2 L.ps.length p2)).setCell ⟨g6, 10, none⟩ (.slice I2 L.is.length i2)).setCell ⟨g6, 11, none⟩ (.int .i64 L.code)).setCell ⟨g6, 12, none⟩ (.bool L.yes)).setCell ⟨g6, 13, none⟩ (.string L.body)) = wq := ⟨_, rfl⟩
            obtain ⟨bs2, gs2, ss2⟩ := store14 bz hws6
            have HBt := Lib.hid (HBs.out.grown gs2 HBs.out.size (fun g hg => by injection hg with hg; have := HA6k25.out.2; omega))
            refine wpAnyH_ready (rs := [7]) (by kernel_rfl) (by simp) (AllReadyH.cons (o := ⟨none, _, _, _, _, _⟩) rfl (fun K hK => ?_) AllReadyH.nil)
            refine step_storeL rfl (.tmp 6) (.tmp 29) rfl rfl rfl bz hws6 ?_
            refine hK.out _ _ (HSa.out _ HBt.out) (fun _ => ?_)
            clear hK K
            have HF : Hid (KFin w5 wt L g5 g6 P1 p1 I1 i1 P2 p2 I2 i2) := Lib.hid (kfin bs bs2 HNE.out HA5k25.out.2 HA6k25.out.2 HC1k25.out.1 HC1k25.out.2 HC2k25.out.1 HC2k25.out.2 HSP.out.1 HSP.out.2 HBt.out HA5k25.out.1 bz gs gs2)
            clear hws5 hws6
            refine wpAnyH_done (by kernel_rfl) ?_ _
            go_wp2
            go_meet
            exact ⟨g5, g6, P1, p1, I1, i1, P2, p2, I2, i2, rfl, rfl, HF⟩
    · go_simp
      have hb := below_box (w := k0) (.cells #[.int .i64 0, .int .i64 0, .int .i64 0, .int .i64 0, .int .i64 0, .int .i64 0, .int .i64 0, .string ⟨#[]⟩, .string ⟨#[]⟩, .slice none 0 0, .slice none 0 0, .int .i64 0, .bool false, .string ⟨#[]⟩] 26)
      have bx := Box.made k0 26 #[.int .i64 0, .int .i64 0, .int .i64 0, .int .i64 0, .int .i64 0, .int .i64 0, .int .i64 0, .string ⟨#[]⟩, .string ⟨#[]⟩, .slice none 0 0, .slice none 0 0, .int .i64 0, .bool false, .string ⟨#[]⟩]
      have hgl : w5.heap.size ≤ k0.heap.size := HBk0.out.size
      refine hK.out _ _ (HSa.out _ (HBk0.out.trans (hb.mono HBk0.out.size))) (fun _ => ?_)
      clear hK K
      have HBk26 := Lib.hid (HBk0.out.trans (hb.mono HBk0.out.size))
      clear hb
      generalize (k0.alloc (.cells #[.int .i64 0, .int .i64 0, .int .i64 0, .int .i64 0, .int .i64 0, .int .i64 0, .int .i64 0, .string ⟨#[]⟩, .string ⟨#[]⟩, .slice none 0 0, .slice none 0 0, .int .i64 0, .bool false, .string ⟨#[]⟩] 26)) = k26 at HBk26 bx ⊢
      generalize k0.heap.size = g6 at *
      have HA6k26 := Lib.hid (And.intro bx hgl)
      clear bx hgl
      refine wpAnyH_ready (rs := [1, 4]) (by kernel_rfl) (by simp) (AllReadyH.cons (o := ⟨some 27, _, _, _, _, _⟩) rfl (fun K hK => ?_) (AllReadyH.cons (o := ⟨some 5, _, _, _, _, _⟩) rfl (fun K hK => ?_) AllReadyH.nil))
      · go_simp
        refine (HCy.out _ HBk26.out).mono ?_
        rintro e k27 ⟨P1, p1, I1, i1, rfl, op1, oi1, hb⟩
        have HBk27 := Lib.hid (HBk26.out.trans (hb.mono HBk26.out.size))
        have HA6k27 := Lib.hid (And.intro (HA6k26.out.1.below hb HA6k26.out.1.lt) HA6k26.out.2)
        have HC1k27 : Hid (OwnLps k27 w5.heap.size (.slice P1 L.ps.length p1) L.ps ∧ OwnLis k27 w5.heap.size (.slice I1 L.is.length i1) L.is) := Lib.hid ⟨own_baseN op1 (Nat.le_succ_of_le HBk26.out.size), own_baseN oi1 (Nat.le_succ_of_le HBk26.out.size)⟩
        refine hK.out _ _ (HSa.out _ HBk27.out) (fun _ => ?_)
        clear hK K hb op1 oi1
        refine wpAnyH_ready (rs := [3, 4]) (by kernel_rfl) (by simp) (AllReadyH.cons (o := ⟨some 29, _, _, _, _, _⟩) rfl (fun K hK => ?_) (AllReadyH.cons (o := ⟨some 5, _, _, _, _, _⟩) rfl (fun K hK => ?_) AllReadyH.nil))
        · go_simp
          refine (HCy.out _ HBk27.out).mono ?_
          rintro e k28 ⟨P2, p2, I2, i2, rfl, op2, oi2, hb⟩
          have HBk28 := Lib.hid (HBk27.out.trans (hb.mono HBk27.out.size))
          have HC1k28 := Lib.hid (And.intro (HC1k27.out.1.below hb) (HC1k27.out.2.below hb))
          have HA6k28 := Lib.hid (And.intro (HA6k27.out.1.below hb HA6k27.out.1.lt) HA6k27.out.2)
          have HC2k28 : Hid (OwnLps k28 w5.heap.size (.slice P2 L.ps.length p2) L.ps ∧ OwnLis k28 w5.heap.size (.slice I2 L.is.length i2) L.is) := Lib.hid ⟨own_baseN op2 (Nat.le_succ_of_le HBk27.out.size), own_baseN oi2 (Nat.le_succ_of_le HBk27.out.size)⟩
          have HSP : Hid ((∀ g, (Value.slice P1 L.ps.length p1).ownBlock = some g → (Value.slice P2 L.ps.length p2).ownBlock ≠ some g) ∧ (∀ g, (Value.slice I1 L.is.length i1).ownBlock = some g → (Value.slice I2 L.is.length i2).ownBlock ≠ some g)) := Lib.hid ⟨fun g h1 h2 => by have a1 := (HC1k27.out.1.lt g h1).2; have a2 := (op2.lt g h2).1; omega, fun g h1 h2 => by have a1 := (HC1k27.out.2.lt g h1).2; have a2 := (oi2.lt g h2).1; omega⟩
          refine hK.out _ _ (HSa.out _ HBk28.out) (fun _ => ?_)
          clear hK K hb op2 oi2
          refine wpAnyH_ready (rs := [4]) (by kernel_rfl) (by simp) (AllReadyH.cons (o := ⟨some 5, _, _, _, _, _⟩) rfl (fun K hK => ?_) AllReadyH.nil)
          · go_simp
            have hb := below_box (w := k28) (.cells #[.int .i64 0, .int .i64 0, .int .i64 0, .int .i64 0, .int .i64 0, .int .i64 0, .int .i64 0, .string ⟨#[]⟩, .string ⟨#[]⟩, .slice none 0 0, .slice none 0 0, .int .i64 0, .bool false, .string ⟨#[]⟩] 26)
            have bx := Box.made k28 26 #[.int .i64 0, .int .i64 0, .int .i64 0, .int .i64 0, .int .i64 0, .int .i64 0, .int .i64 0, .string ⟨#[]⟩, .string ⟨#[]⟩, .slice none 0 0, .slice none 0 0, .int .i64 0, .bool false, .string ⟨#[]⟩]
            have hgl : w5.heap.size ≤ k28.heap.size := HBk28.out.size
            have hlt := HA6k28.out.1.lt
            refine hK.out _ _ (HSa.out _ (HBk28.out.trans (hb.mono HBk28.out.size))) (fun _ => ?_)
            clear hK K
            have HBk29 := Lib.hid (HBk28.out.trans (hb.mono HBk28.out.size))
            have HC1k29 := Lib.hid (And.intro (HC1k28.out.1.below hb) (HC1k28.out.2.below hb))
            have HC2k29 := Lib.hid (And.intro (HC2k28.out.1.below hb) (HC2k28.out.2.below hb))
            have HA6k29 := Lib.hid (And.intro (HA6k28.out.1.below hb HA6k28.out.1.lt) HA6k28.out.2)
            clear hb
            generalize (k28.alloc (.cells #[.int .i64 0, .int .i64 0, .int .i64 0, .int .i64 0, .int .i64 0, .int .i64 0, .int .i64 0, .string ⟨#[]⟩, .string ⟨#[]⟩, .slice none 0 0, .slice none 0 0, .int .i64 0, .bool false, .string ⟨#[]⟩] 26)) = k29 at HBk29 bx HC1k29 HC2k29 HA6k29 ⊢
            generalize k28.heap.size = g5 at *
            have HA5k29 := Lib.hid (And.intro bx hgl)
            have HNE : Hid (g5 ≠ g6) := Lib.hid (by omega)
            clear hlt
            clear bx hgl
            obtain ⟨ws, hws5⟩ : ∃ wq, ((((((((((((((k29.setCell ⟨g5, 0, none⟩ (.int .i64 L.kind)).setCell ⟨g5, 1, none⟩ (.int .i64 L.frm)).setCell ⟨g5, 2, none⟩ (.int .i64 L.to)).setCell ⟨g5, 3, none⟩ (.int .i64 L.a)).setCell ⟨g5, 4, none⟩ (.int .i64 L.b)).setCell ⟨g5, 5, none⟩ (.int .i64 L.c)).setCell ⟨g5, 6, none⟩ (.int .i64 L.d)).setCell ⟨g5, 7, none⟩ (.string L.s)).setCell ⟨g5, 8, none⟩ (.string L.t)).setCell ⟨g5, 9, none⟩ (.slice P1 L.ps.length p1)).setCell ⟨g5, 10, none⟩ (.slice I1 L.is.length i1)).setCell ⟨g5, 11, none⟩ (.int .i64 L.code)).setCell ⟨g5, 12, none⟩ (.bool L.yes)).setCell ⟨g5, 13, none⟩ (.string L.body)) = wq := ⟨_, rfl⟩
            obtain ⟨bs, gs, ss⟩ := store14 HA5k29.out.1 hws5
            have bz := HA6k29.out.1.grown gs (fun e => HNE.out (by injection e with e; exact e.symm))
            have HBs := Lib.hid (HBk29.out.grown gs HBk29.out.size (fun g hg => by injection hg with hg; have := HA5k29.out.2; omega))
            refine wpAnyH_ready (rs := [6]) (by kernel_rfl) (by simp) (AllReadyH.cons (o := ⟨none, _, _, _, _, _⟩) rfl (fun K hK => ?_) AllReadyH.nil)
            refine step_storeL rfl (.tmp 5) (.tmp 27) rfl rfl rfl HA5k29.out.1 hws5 ?_
            refine hK.out _ _ (HSa.out _ HBs.out) (fun _ => ?_)
            clear hK K
            obtain ⟨wt, hws6⟩ : ∃ wq, ((((((((((((((ws.setCell ⟨g6, 0, none⟩ (.int .i64 L.kind)).setCell ⟨g6, 1, none⟩ (.int .i64 L.frm)).setCell ⟨g6, 2, none⟩ (.int .i64 L.to)).setCell ⟨g6, 3, none⟩ (.int .i64 L.a)).setCell ⟨g6, 4, none⟩ (.int .i64 L.b)).setCell ⟨g6, 5, none⟩ (.int .i64 L.c)).setCell ⟨g6, 6, none⟩ (.int .i64 L.d)).setCell ⟨g6, 7, none⟩ (.string L.s)).setCell ⟨g6, 8, none⟩ (.string L.t)).setCell ⟨g6, 9, none⟩ (.slice P2 L.ps.length p2)).setCell ⟨g6, 10, none⟩ (.slice I2 L.is.length i2)).setCell ⟨g6, 11, none⟩ (.int .i64 L.code)).setCell ⟨g6, 12, none⟩ (.bool L.yes)).setCell ⟨g6, 13, none⟩ (.string L.body)) = wq := ⟨_, rfl⟩
            obtain ⟨bs2, gs2, ss2⟩ := store14 bz hws6
            have HBt := Lib.hid (HBs.out.grown gs2 HBs.out.size (fun g hg => by injection hg with hg; have := HA6k29.out.2; omega))
            refine wpAnyH_ready (rs := [7]) (by kernel_rfl) (by simp) (AllReadyH.cons (o := ⟨none, _, _, _, _, _⟩) rfl (fun K hK => ?_) AllReadyH.nil)
            refine step_storeL rfl (.tmp 6) (.tmp 29) rfl rfl rfl bz hws6 ?_
            refine hK.out _ _ (HSa.out _ HBt.out) (fun _ => ?_)
            clear hK K
            have HF : Hid (KFin w5 wt L g5 g6 P1 p1 I1 i1 P2 p2 I2 i2) := Lib.hid (kfin bs bs2 HNE.out HA5k29.out.2 HA6k29.out.2 HC1k29.out.1 HC1k29.out.2 HC2k29.out.1 HC2k29.out.2 HSP.out.1 HSP.out.2 HBt.out HA5k29.out.1 bz gs gs2)
            clear hws5 hws6
            refine wpAnyH_done (by kernel_rfl) ?_ _
            go_wp2
            go_meet
            exact ⟨g5, g6, P1, p1, I1, i1, P2, p2, I2, i2, rfl, rfl, HF⟩
        · go_simp
          have hb := below_box (w := k27) (.cells #[.int .i64 0, .int .i64 0, .int .i64 0, .int .i64 0, .int .i64 0, .int .i64 0, .int .i64 0, .string ⟨#[]⟩, .string ⟨#[]⟩, .slice none 0 0, .slice none 0 0, .int .i64 0, .bool false, .string ⟨#[]⟩] 26)
          have bx := Box.made k27 26 #[.int .i64 0, .int .i64 0, .int .i64 0, .int .i64 0, .int .i64 0, .int .i64 0, .int .i64 0, .string ⟨#[]⟩, .string ⟨#[]⟩, .slice none 0 0, .slice none 0 0, .int .i64 0, .bool false, .string ⟨#[]⟩]
          have hgl : w5.heap.size ≤ k27.heap.size := HBk27.out.size
          have hlt := HA6k27.out.1.lt
          refine hK.out _ _ (HSa.out _ (HBk27.out.trans (hb.mono HBk27.out.size))) (fun _ => ?_)
          clear hK K
          have HBk30 := Lib.hid (HBk27.out.trans (hb.mono HBk27.out.size))
          have HC1k30 := Lib.hid (And.intro (HC1k27.out.1.below hb) (HC1k27.out.2.below hb))
          have HA6k30 := Lib.hid (And.intro (HA6k27.out.1.below hb HA6k27.out.1.lt) HA6k27.out.2)
          clear hb
          generalize (k27.alloc (.cells #[.int .i64 0, .int .i64 0, .int .i64 0, .int .i64 0, .int .i64 0, .int .i64 0, .int .i64 0, .string ⟨#[]⟩, .string ⟨#[]⟩, .slice none 0 0, .slice none 0 0, .int .i64 0, .bool false, .string ⟨#[]⟩] 26)) = k30 at HBk30 bx HC1k30 HA6k30 ⊢
          generalize k27.heap.size = g5 at *
          have HA5k30 := Lib.hid (And.intro bx hgl)
          have HNE : Hid (g5 ≠ g6) := Lib.hid (by omega)
          clear hlt
          clear bx hgl
          refine wpAnyH_ready (rs := [3]) (by kernel_rfl) (by simp) (AllReadyH.cons (o := ⟨some 29, _, _, _, _, _⟩) rfl (fun K hK => ?_) AllReadyH.nil)
          · go_simp
            refine (HCy.out _ HBk30.out).mono ?_
            rintro e k31 ⟨P2, p2, I2, i2, rfl, op2, oi2, hb⟩
            have HBk31 := Lib.hid (HBk30.out.trans (hb.mono HBk30.out.size))
            have HC1k31 := Lib.hid (And.intro (HC1k30.out.1.below hb) (HC1k30.out.2.below hb))
            have HA5k31 := Lib.hid (And.intro (HA5k30.out.1.below hb HA5k30.out.1.lt) HA5k30.out.2)
            have HA6k31 := Lib.hid (And.intro (HA6k30.out.1.below hb HA6k30.out.1.lt) HA6k30.out.2)
            have HC2k31 : Hid (OwnLps k31 w5.heap.size (.slice P2 L.ps.length p2) L.ps ∧ OwnLis k31 w5.heap.size (.slice I2 L.is.length i2) L.is) := Lib.hid ⟨own_baseN op2 (Nat.le_succ_of_le HBk30.out.size), own_baseN oi2 (Nat.le_succ_of_le HBk30.out.size)⟩
            have HSP : Hid ((∀ g, (Value.slice P1 L.ps.length p1).ownBlock = some g → (Value.slice P2 L.ps.length p2).ownBlock ≠ some g) ∧ (∀ g, (Value.slice I1 L.is.length i1).ownBlock = some g → (Value.slice I2 L.is.length i2).ownBlock ≠ some g)) := Lib.hid ⟨fun g h1 h2 => by have a1 := (HC1k30.out.1.lt g h1).2; have a2 := (op2.lt g h2).1; omega, fun g h1 h2 => by have a1 := (HC1k30.out.2.lt g h1).2; have a2 := (oi2.lt g h2).1; omega⟩
            refine hK.out _ _ (HSa.out _ HBk31.out) (fun _ => ?_)
            clear hK K hb op2 oi2
            obtain ⟨ws, hws5⟩ : ∃ wq, ((((((((((((((k31.setCell ⟨g5, 0, none⟩ (.int .i64 L.kind)).setCell ⟨g5, 1, none⟩ (.int .i64 L.frm)).setCell ⟨g5, 2, none⟩ (.int .i64 L.to)).setCell ⟨g5, 3, none⟩ (.int .i64 L.a)).setCell ⟨g5, 4, none⟩ (.int .i64 L.b)).setCell ⟨g5, 5, none⟩ (.int .i64 L.c)).setCell ⟨g5, 6, none⟩ (.int .i64 L.d)).setCell ⟨g5, 7, none⟩ (.string L.s)).setCell ⟨g5, 8, none⟩ (.string L.t)).setCell ⟨g5, 9, none⟩ (.slice P1 L.ps.length p1)).setCell ⟨g5, 10, none⟩ (.slice I1 L.is.length i1)).setCell ⟨g5, 11, none⟩ (.int .i64 L.code)).setCell ⟨g5, 12, none⟩ (.bool L.yes)).setCell ⟨g5, 13, none⟩ (.string L.body)) = wq := ⟨_, rfl⟩
            obtain ⟨bs, gs, ss⟩ := store14 HA5k31.out.1 hws5
            have bz := HA6k31.out.1.grown gs (fun e => HNE.out (by injection e with e; exact e.symm))
            have HBs := Lib.hid (HBk31.out.grown gs HBk31.out.size (fun g hg => by injection hg with hg; have := HA5k31.out.2; omega))
            refine wpAnyH_ready (rs := [6]) (by kernel_rfl) (by simp) (AllReadyH.cons (o := ⟨none, _, _, _, _, _⟩) rfl (fun K hK => ?_) AllReadyH.nil)
            refine step_storeL rfl (.tmp 5) (.tmp 27) rfl rfl rfl HA5k31.out.1 hws5 ?_
            refine hK.out _ _ (HSa.out _ HBs.out) (fun _ => ?_)
            clear hK K
            obtain ⟨wt, hws6⟩ : ∃ wq, ((((((((((((((ws.setCell ⟨g6, 0, none⟩ (.int .i64 L.kind)).setCell ⟨g6, 1, none⟩ (.int .i64 L.frm)).setCell ⟨g6, 2, none⟩ (.int .i64 L.to)).setCell ⟨g6, 3, none⟩ (.int .i64 L.a)).setCell ⟨g6, 4, none⟩ (.int .i64 L.b)).setCell ⟨g6, 5, none⟩ (.int .i64 L.c)).setCell ⟨g6, 6, none⟩ (.int .i64 L.d)).setCell ⟨g6, 7, none⟩ (.string L.s)).setCell ⟨g6, 8, none⟩ (.string L.t)).setCell ⟨g6, 9, none⟩ (.slice P2 L.ps.length p2)).setCell ⟨g6, 10, none⟩ (.slice I2 L.is.length i2)).setCell ⟨g6, 11, none⟩ (.int .i64 L.code)).setCell ⟨g6, 12, none⟩ (.bool L.yes)).setCell ⟨g6, 13, none⟩ (.string L.body)) = wq := ⟨_, rfl⟩
            obtain ⟨bs2, gs2, ss2⟩ := store14 bz hws6
            have HBt := Lib.hid (HBs.out.grown gs2 HBs.out.size (fun g hg => by injection hg with hg; have := HA6k31.out.2; omega))
            refine wpAnyH_ready (rs := [7]) (by kernel_rfl) (by simp) (AllReadyH.cons (o := ⟨none, _, _, _, _, _⟩) rfl (fun K hK => ?_) AllReadyH.nil)
            refine step_storeL rfl (.tmp 6) (.tmp 29) rfl rfl rfl bz hws6 ?_
            refine hK.out _ _ (HSa.out _ HBt.out) (fun _ => ?_)
            clear hK K
            have HF : Hid (KFin w5 wt L g5 g6 P1 p1 I1 i1 P2 p2 I2 i2) := Lib.hid (kfin bs bs2 HNE.out HA5k31.out.2 HA6k31.out.2 HC1k31.out.1 HC1k31.out.2 HC2k31.out.1 HC2k31.out.2 HSP.out.1 HSP.out.2 HBt.out HA5k31.out.1 bz gs gs2)
            clear hws5 hws6
            refine wpAnyH_done (by kernel_rfl) ?_ _
            go_wp2
            go_meet
            exact ⟨g5, g6, P1, p1, I1, i1, P2, p2, I2, i2, rfl, rfl, HF⟩
      · go_simp
        have hb := below_box (w := k26) (.cells #[.int .i64 0, .int .i64 0, .int .i64 0, .int .i64 0, .int .i64 0, .int .i64 0, .int .i64 0, .string ⟨#[]⟩, .string ⟨#[]⟩, .slice none 0 0, .slice none 0 0, .int .i64 0, .bool false, .string ⟨#[]⟩] 26)
        have bx := Box.made k26 26 #[.int .i64 0, .int .i64 0, .int .i64 0, .int .i64 0, .int .i64 0, .int .i64 0, .int .i64 0, .string ⟨#[]⟩, .string ⟨#[]⟩, .slice none 0 0, .slice none 0 0, .int .i64 0, .bool false, .string ⟨#[]⟩]
        have hgl : w5.heap.size ≤ k26.heap.size := HBk26.out.size
        have hlt := HA6k26.out.1.lt
        refine hK.out _ _ (HSa.out _ (HBk26.out.trans (hb.mono HBk26.out.size))) (fun _ => ?_)
        clear hK K
        have HBk32 := Lib.hid (HBk26.out.trans (hb.mono HBk26.out.size))
        have HA6k32 := Lib.hid (And.intro (HA6k26.out.1.below hb HA6k26.out.1.lt) HA6k26.out.2)
        clear hb
        generalize (k26.alloc (.cells #[.int .i64 0, .int .i64 0, .int .i64 0, .int .i64 0, .int .i64 0, .int .i64 0, .int .i64 0, .string ⟨#[]⟩, .string ⟨#[]⟩, .slice none 0 0, .slice none 0 0, .int .i64 0, .bool false, .string ⟨#[]⟩] 26)) = k32 at HBk32 bx HA6k32 ⊢
        generalize k26.heap.size = g5 at *
        have HA5k32 := Lib.hid (And.intro bx hgl)
        have HNE : Hid (g5 ≠ g6) := Lib.hid (by omega)
        clear hlt
        clear bx hgl
        refine wpAnyH_ready (rs := [1]) (by kernel_rfl) (by simp) (AllReadyH.cons (o := ⟨some 27, _, _, _, _, _⟩) rfl (fun K hK => ?_) AllReadyH.nil)
        · go_simp
          refine (HCy.out _ HBk32.out).mono ?_
          rintro e k33 ⟨P1, p1, I1, i1, rfl, op1, oi1, hb⟩
          have HBk33 := Lib.hid (HBk32.out.trans (hb.mono HBk32.out.size))
          have HA5k33 := Lib.hid (And.intro (HA5k32.out.1.below hb HA5k32.out.1.lt) HA5k32.out.2)
          have HA6k33 := Lib.hid (And.intro (HA6k32.out.1.below hb HA6k32.out.1.lt) HA6k32.out.2)
          have HC1k33 : Hid (OwnLps k33 w5.heap.size (.slice P1 L.ps.length p1) L.ps ∧ OwnLis k33 w5.heap.size (.slice I1 L.is.length i1) L.is) := Lib.hid ⟨own_baseN op1 (Nat.le_succ_of_le HBk32.out.size), own_baseN oi1 (Nat.le_succ_of_le HBk32.out.size)⟩
          refine hK.out _ _ (HSa.out _ HBk33.out) (fun _ => ?_)
          clear hK K hb op1 oi1
          refine wpAnyH_ready (rs := [3]) (by kernel_rfl) (by simp) (AllReadyH.cons (o := ⟨some 29, _, _, _, _, _⟩) rfl (fun K hK => ?_) AllReadyH.nil)
          · go_simp
            refine (HCy.out _ HBk33.out).mono ?_
            rintro e k34 ⟨P2, p2, I2, i2, rfl, op2, oi2, hb⟩
            have HBk34 := Lib.hid (HBk33.out.trans (hb.mono HBk33.out.size))
            have HC1k34 := Lib.hid (And.intro (HC1k33.out.1.below hb) (HC1k33.out.2.below hb))
            have HA5k34 := Lib.hid (And.intro (HA5k33.out.1.below hb HA5k33.out.1.lt) HA5k33.out.2)
            have HA6k34 := Lib.hid (And.intro (HA6k33.out.1.below hb HA6k33.out.1.lt) HA6k33.out.2)
            have HC2k34 : Hid (OwnLps k34 w5.heap.size (.slice P2 L.ps.length p2) L.ps ∧ OwnLis k34 w5.heap.size (.slice I2 L.is.length i2) L.is) := Lib.hid ⟨own_baseN op2 (Nat.le_succ_of_le HBk33.out.size), own_baseN oi2 (Nat.le_succ_of_le HBk33.out.size)⟩
            have HSP : Hid ((∀ g, (Value.slice P1 L.ps.length p1).ownBlock = some g → (Value.slice P2 L.ps.length p2).ownBlock ≠ some g) ∧ (∀ g, (Value.slice I1 L.is.length i1).ownBlock = some g → (Value.slice I2 L.is.length i2).ownBlock ≠ some g)) := Lib.hid ⟨fun g h1 h2 => by have a1 := (HC1k33.out.1.lt g h1).2; have a2 := (op2.lt g h2).1; omega, fun g h1 h2 => by have a1 := (HC1k33.out.2.lt g h1).2; have a2 := (oi2.lt g h2).1; omega⟩
            refine hK.out _ _ (HSa.out _ HBk34.out) (fun _ => ?_)
            clear hK K hb op2 oi2
            obtain ⟨ws, hws5⟩ : ∃ wq, ((((((((((((((k34.setCell ⟨g5, 0, none⟩ (.int .i64 L.kind)).setCell ⟨g5, 1, none⟩ (.int .i64 L.frm)).setCell ⟨g5, 2, none⟩ (.int .i64 L.to)).setCell ⟨g5, 3, none⟩ (.int .i64 L.a)).setCell ⟨g5, 4, none⟩ (.int .i64 L.b)).setCell ⟨g5, 5, none⟩ (.int .i64 L.c)).setCell ⟨g5, 6, none⟩ (.int .i64 L.d)).setCell ⟨g5, 7, none⟩ (.string L.s)).setCell ⟨g5, 8, none⟩ (.string L.t)).setCell ⟨g5, 9, none⟩ (.slice P1 L.ps.length p1)).setCell ⟨g5, 10, none⟩ (.slice I1 L.is.length i1)).setCell ⟨g5, 11, none⟩ (.int .i64 L.code)).setCell ⟨g5, 12, none⟩ (.bool L.yes)).setCell ⟨g5, 13, none⟩ (.string L.body)) = wq := ⟨_, rfl⟩
            obtain ⟨bs, gs, ss⟩ := store14 HA5k34.out.1 hws5
            have bz := HA6k34.out.1.grown gs (fun e => HNE.out (by injection e with e; exact e.symm))
            have HBs := Lib.hid (HBk34.out.grown gs HBk34.out.size (fun g hg => by injection hg with hg; have := HA5k34.out.2; omega))
            refine wpAnyH_ready (rs := [6]) (by kernel_rfl) (by simp) (AllReadyH.cons (o := ⟨none, _, _, _, _, _⟩) rfl (fun K hK => ?_) AllReadyH.nil)
            refine step_storeL rfl (.tmp 5) (.tmp 27) rfl rfl rfl HA5k34.out.1 hws5 ?_
            refine hK.out _ _ (HSa.out _ HBs.out) (fun _ => ?_)
            clear hK K
            obtain ⟨wt, hws6⟩ : ∃ wq, ((((((((((((((ws.setCell ⟨g6, 0, none⟩ (.int .i64 L.kind)).setCell ⟨g6, 1, none⟩ (.int .i64 L.frm)).setCell ⟨g6, 2, none⟩ (.int .i64 L.to)).setCell ⟨g6, 3, none⟩ (.int .i64 L.a)).setCell ⟨g6, 4, none⟩ (.int .i64 L.b)).setCell ⟨g6, 5, none⟩ (.int .i64 L.c)).setCell ⟨g6, 6, none⟩ (.int .i64 L.d)).setCell ⟨g6, 7, none⟩ (.string L.s)).setCell ⟨g6, 8, none⟩ (.string L.t)).setCell ⟨g6, 9, none⟩ (.slice P2 L.ps.length p2)).setCell ⟨g6, 10, none⟩ (.slice I2 L.is.length i2)).setCell ⟨g6, 11, none⟩ (.int .i64 L.code)).setCell ⟨g6, 12, none⟩ (.bool L.yes)).setCell ⟨g6, 13, none⟩ (.string L.body)) = wq := ⟨_, rfl⟩
            obtain ⟨bs2, gs2, ss2⟩ := store14 bz hws6
            have HBt := Lib.hid (HBs.out.grown gs2 HBs.out.size (fun g hg => by injection hg with hg; have := HA6k34.out.2; omega))
            refine wpAnyH_ready (rs := [7]) (by kernel_rfl) (by simp) (AllReadyH.cons (o := ⟨none, _, _, _, _, _⟩) rfl (fun K hK => ?_) AllReadyH.nil)
            refine step_storeL rfl (.tmp 6) (.tmp 29) rfl rfl rfl bz hws6 ?_
            refine hK.out _ _ (HSa.out _ HBt.out) (fun _ => ?_)
            clear hK K
            have HF : Hid (KFin w5 wt L g5 g6 P1 p1 I1 i1 P2 p2 I2 i2) := Lib.hid (kfin bs bs2 HNE.out HA5k34.out.2 HA6k34.out.2 HC1k34.out.1 HC1k34.out.2 HC2k34.out.1 HC2k34.out.2 HSP.out.1 HSP.out.2 HBt.out HA5k34.out.1 bz gs gs2)
            clear hws5 hws6
            refine wpAnyH_done (by kernel_rfl) ?_ _
            go_wp2
            go_meet
            exact ⟨g5, g6, P1, p1, I1, i1, P2, p2, I2, i2, rfl, rfl, HF⟩
  obtain ⟨g5, g6, P1, p1, I1, i1, P2, p2, I2, i2, rfl, rfl, HF0⟩ := hcut
  generalize wc = w6 at *
  clear HCy HSa
  have HF : Hid (KMid w5 w6 L g5 g6 P1 p1 I1 i1 P2 p2 I2 i2 L.ps L.is) := Lib.hid HF0.out.mid
  have HA : Hid (∀ wx, Below w5.heap.size w5 wx → LetIn wx C L Ap np Ai ni ∧ C ≤ wx.heap.size ∧ (wx.cell? ⟨w.heap.size, 0, none⟩ = some (.int .i64 L.kind) ∧ wx.cell? ⟨w.heap.size, 1, none⟩ = some (.int .i64 L.frm) ∧ wx.cell? ⟨w.heap.size, 2, none⟩ = some (.int .i64 L.to) ∧ wx.cell? ⟨w.heap.size, 3, none⟩ = some (.int .i64 L.a) ∧ wx.cell? ⟨w.heap.size, 4, none⟩ = some (.int .i64 L.b) ∧ wx.cell? ⟨w.heap.size, 5, none⟩ = some (.int .i64 L.c) ∧ wx.cell? ⟨w.heap.size, 6, none⟩ = some (.int .i64 L.d) ∧ wx.cell? ⟨w.heap.size, 7, none⟩ = some (.string L.s) ∧ wx.cell? ⟨w.heap.size, 8, none⟩ = some (.string L.t) ∧ wx.cell? ⟨w.heap.size, 9, none⟩ = some (.slice Ap np cp) ∧ wx.cell? ⟨w.heap.size, 10, none⟩ = some (.slice Ai ni ci) ∧ wx.cell? ⟨w.heap.size, 11, none⟩ = some (.int .i64 L.code) ∧ wx.cell? ⟨w.heap.size, 12, none⟩ = some (.bool L.yes) ∧ wx.cell? ⟨w.heap.size, 13, none⟩ = some (.string L.body)) ∧ Below w.heap.size w wx) := Lib.hid fun wx hx => by
    obtain ⟨h3, -, h4⟩ := HM.out wx (HW5.out.trans (hx.mono HW5.out.size))
    obtain ⟨⟨h1, -⟩, h2⟩ := HI.out wx (HW5.out.trans (hx.mono HW5.out.size))
    exact ⟨h1, h2, ⟨h3.cell 0, h3.cell 1, h3.cell 2, h3.cell 3, h3.cell 4, h3.cell 5, h3.cell 6, h3.cell 7, h3.cell 8, h3.cell 9, h3.cell 10, h3.cell 11, h3.cell 12, h3.cell 13⟩, h4⟩
  have Htp : Hid (∀ p ∈ L.ps, p.k.size ≤ 140737488355328) := Lib.hid fun p hp => ((HI.out W0 (Below.refl _ _)).1.1.txp p hp).1
  have Hnp : Hid (L.ps.length ≤ 300 ∧ L.is.length ≤ 300) := Lib.hid HLL.out
  clear HF0 HM HI HcS HW5 HZ0
  go_wp2
  go_loopw [7] (fun iv wr => ∃ (k : Nat) (ls : List LPr), k ≤ L.ps.length ∧ iv = .int .i64 (k : Int) ∧ Hid (KMid w5 wr L g5 g6 P1 p1 I1 i1 P2 p2 I2 i2 ls L.is) ∧ Hid (∀ j, k ≤ j → ls[j]? = L.ps[j]?)) (fun iv _ => L.ps.length - (intOf iv).toNat)
  case atStart => exact ⟨0, L.ps, by omega, rfl, HF, Lib.hid fun _ _ => rfl⟩
  case round =>
    obtain ⟨k, ls, hk, rfl, HK, Hj⟩ := hrel
    have x9 : wr.cell? ⟨g5, 9, none⟩ = some (.slice P1 L.ps.length p1) := HK.out.b5.cell 9
    have hnp := Hnp.out.1
    by_cases hlt : k < L.ps.length
    · obtain ⟨g, p, rfl, hB, hg, hp, c0, c1, fz, -, -⟩ := lp_edit HK.out.op1 HK.out.l1 hlt
      have f0 := fz (k * 2)
      have hps : p.k.size ≤ 140737488355328 := Htp.out p (by have h1 := Hj.out k (Nat.le_refl _); rw [hp] at h1; exact List.mem_of_getElem? h1.symm)
      have hk0 : (0 : Int) ≤ (k : Int) := by omega
      have hk1 : (k : Int) < (L.ps.length : Int) := by omega
      have HE : Hid (∀ q, KMid w5 ((wr.setCell ⟨g, k * 2, none⟩ (.string (p.k ++ ⟨#[33]⟩))).drewN q) L g5 g6 (some ⟨g, 0, none⟩) p1 I1 i1 P2 p2 I2 i2 (ls.set k ⟨p.k ++ ⟨#[33]⟩, p.v⟩) L.is) := Lib.hid fun q => (HK.out.storeP hlt hp rfl _).drewN q
      have HJ : Hid (∀ j, k + 1 ≤ j → (ls.set k ⟨p.k ++ ⟨#[33]⟩, p.v⟩)[j]? = L.ps[j]?) := Lib.hid fun j hj => by rw [List.getElem?_set_ne (by omega)]; exact Hj.out j (by omega)
      clear hp c1 fz hB hg
      go_wp2
      go_region
      all_goals
        go_wp2
        go_roundw
        case rel => exact ⟨k + 1, _, by omega, by go_num, Lib.hid (HE.out 1), HJ⟩
        case measure => simp [intOf]; omega
    · clear Hj x9
      have x9 : wr.cell? ⟨g5, 9, none⟩ = some (.slice P1 L.ps.length p1) := HK.out.b5.cell 9
      have hlt' : ¬ (k : Int) < (L.ps.length : Int) := by omega
      clear hlt
      go_wp2
      generalize wr = w7 at *
      clear x9 HF
      go_loopw [8] (fun iv wr => ∃ (j : Nat) (is : List LIt), j ≤ L.is.length ∧ iv = .int .i64 (j : Int) ∧ Hid (KMid w5 wr L g5 g6 P1 p1 I1 i1 P2 p2 I2 i2 ls is)) (fun iv _ => L.is.length - (intOf iv).toNat)
      case atStart => exact ⟨0, L.is, by omega, rfl, HK⟩
      case round =>
        clear HK
        obtain ⟨j, is, hj, rfl, HK⟩ := hrel
        have x10 : wr.cell? ⟨g5, 10, none⟩ = some (.slice I1 L.is.length i1) := HK.out.b5.cell 10
        have hni := Hnp.out.2
        by_cases hltj : j < L.is.length
        · obtain ⟨g, p, rfl, hB, hg, hp, c2, fz, -⟩ := li_edit HK.out.oi1 HK.out.l2 hltj
          have f2 := fz (j * 3 + 2)
          have hj0 : (0 : Int) ≤ (j : Int) := by omega
          have hj1 : (j : Int) < (L.is.length : Int) := by omega
          have HE : Hid (∀ q, KMid w5 ((wr.setCell ⟨g, j * 3 + 2, none⟩ (.bool (!p.g))).drewN q) L g5 g6 P1 p1 (some ⟨g, 0, none⟩) i1 P2 p2 I2 i2 ls (is.set j ⟨p.e, p.v, !p.g⟩)) := Lib.hid fun q => (HK.out.storeI hltj hp rfl _).drewN q
          clear hp fz hB hg
          go_wp2
          go_region
          all_goals
            go_wp2
            go_roundw
            case rel => exact ⟨j + 1, _, by omega, by go_num, Lib.hid (HE.out 1)⟩
            case measure => simp [intOf]; omega
        · have hltj' : ¬ (j : Int) < (L.is.length : Int) := by omega
          clear hltj
          have x9 : wr.cell? ⟨g5, 9, none⟩ = some (.slice P1 L.ps.length p1) := HK.out.b5.cell 9
          have hsz5 : w5.heap.size ≤ wr.heap.size := HK.out.below.size
          have hnp2 := Hnp.out.1
          have HKa := Lib.hid (HK.out.op1.alloc (.cells #[.string ⟨#[]⟩, .string ⟨#[]⟩] 38))
          go_wp2_with (at_builtin; refine wpList_append_hasN rfl (.tmp 69) (.tmp 71) _ rfl 38 lp_elem (by omega) Try.underlying22 rfl HKa.out rfl (lp_lit wr ⟨⟨#[]⟩, ⟨#[]⟩⟩) (lpCells_one _) (by simp only [maxLen]; omega) (by omega) (le_alloc hsz5 _) ?_; intro v4 w8 hown4 hg4 hz4; obtain ⟨Av, cv, rfl, -⟩ := own_sliceN hown4; have HK8 := Lib.hid ((KMid.alloc HK.out _).after hg4); have z9 : w8.cell? ⟨g5, 9, none⟩ = some (.slice P1 L.ps.length p1) := HK8.out.1.cell 9; have zf : w8.frozen? ⟨g5, 9, none⟩ = false := HK8.out.1.frozen 9; obtain ⟨w9, hw9⟩ : ∃ w9, w8.setCell ⟨g5, 9, none⟩ (.slice Av (L.ps.length + 1) cv) = w9 := ⟨_, rfl⟩; have HK9 := Lib.hid (kept9 HK8.out HK.out.ne HK.out.h5 hw9); obtain ⟨⟨x0, x1, x2, x3, x4, x5, x6⟩, ⟨x7, x8⟩, ⟨q9, q10⟩, ⟨x11, x12, x13⟩⟩ := let_cells HK9.out.1; obtain ⟨y0, y1, y2, y3, y4, y5, y6, y7, y8, y9, y10, y11, y12, y13⟩ := (HA.out w9 HK9.out.2.2.2).2.2.1; clear hg4 hz4 hown4)
          have HS9 := Lib.hid (fun wx (hx : Below w9.heap.size w9 wx) => same9 HK9.out (HA.out w9 HK9.out.2.2.2).1 (HA.out w9 HK9.out.2.2.2).2.1 hx cp ci)
          refine (HS9.out w9 (Below.refl _ _)).1.mono ?_
          rintro e w10 ⟨rfl, b10⟩
          have HB10 := Lib.hid b10
          have HKx := Lib.hid (HK9.out.1.below b10 HK9.out.1.lt)
          clear x0 x1 x2 x3 x4 x5 x6 x7 x8 q9 q10 x11 x12 x13 y0 y1 y2 y3 y4 y5 y6 y7 y8 y9 y10 y11 y12 y13 b10
          obtain ⟨⟨x0, x1, x2, x3, x4, x5, x6⟩, ⟨x7, x8⟩, ⟨q9, q10⟩, ⟨x11, x12, x13⟩⟩ := let_cells HKx.out
          obtain ⟨y0, y1, y2, y3, y4, y5, y6, y7, y8, y9, y10, y11, y12, y13⟩ := (HA.out w10 (HK9.out.2.2.2.trans (HB10.out.mono HK9.out.2.2.2.size))).2.2.1
          go_wp2_with fail
          refine (HS9.out w10 HB10.out).2.mono ?_
          rintro e w11 ⟨rfl, b11⟩
          have HE := Lib.hid (HA.out w11 (HK9.out.2.2.2.trans ((HB10.out.trans (b11.mono HB10.out.size)).mono HK9.out.2.2.2.size))).2.2.2
          clear x0 x1 x2 x3 x4 x5 x6 x7 x8 q9 q10 x11 x12 x13 y0 y1 y2 y3 y4 y5 y6 y7 y8 y9 y10 y11 y12 y13 b11
          go_wp2
          go_ret
          exact ⟨rfl, HE.out⟩

namespace lawLetterKeeps
open Go.ChangeShapes Go.WideShapes Go.ChangeAt

theorem own : ownKnob Try.prog.godebug = none := by kernel_rfl
theorem kids : Kids Try.prog (· < Try.prog.types.size) := kids_rows (by kernel_rfl) (by kernel_rfl)
theorem full : ∀ t e, t < Try.prog.types.size → Try.prog.underlying t = some (.slice e) → 0 < Try.prog.cellsOf e := slices_full_of Try.prog (by kernel_rfl)

set_option maxRecDepth 100000 in
theorem lifted (os : Os) (started : os.Started) (H : Type) (enc : TypeId × Value → H) :
    ReturnsInHanded {} Try.checked os 5 .any (Rows.letterKeepsSpec.pre6 enc Try.prog Try.f5 Rows.letterKeepsRow.domain false) (Rows.letterKeepsSpec.post enc Try.prog Try.f5 false true false false) := by
  refine returnsInHanded_of_change_sized (C := Try.checked) own started (by kernel_rfl) Try.func5
    (ChangeSpec.witness6 (enc := enc) (C := Try.checked) false ⟨#[], #[.agg #[.int .i64 0, .int .i64 0, .int .i64 0, .int .i64 0, .int .i64 0, .int .i64 0, .int .i64 0, .string ⟨#[]⟩, .string ⟨#[]⟩, .slice none 0 0, .slice none 0 0, .int .i64 0, .bool false, .string ⟨#[]⟩], .agg #[.int .i64 0, .int .i64 0, .int .i64 0, .int .i64 0, .int .i64 0, .int .i64 0, .int .i64 0, .string ⟨#[]⟩, .string ⟨#[]⟩, .slice none 0 0, .slice none 0 0, .int .i64 0, .bool false, .string ⟨#[]⟩]], []⟩ 8 (by kernel_rfl) (by kernel_rfl) (by kernel_rfl) (by kernel_rfl)) ?_
  intro W base args ds gs before hval0 hW _ hz _
  have hval : ∀ (j : Nat) t v, Try.f5.params[j]? = some t → args[j]? = some v → Value.okWide Try.prog W .any base t v := hval0
  have hW' := hW
  obtain ⟨p, q, hA0, hV, rfl, _, _⟩ := hW
  obtain ⟨rfl, rfl⟩ := trodVars_none hV
  have hA : DataW.TrodAll enc Try.prog W 0 (fun _ => true) true Try.f5.params.toList args.toList ds p := hA0
  rw [Try.params5] at hA hval
  obtain ⟨v0, vs0, d0, ds0, p0, q0, hargs, rfl, rfl, h0, r0⟩ := trodAll_cons hA
  obtain ⟨v1, vs1, d1, ds1, p1, q1, rfl, rfl, rfl, h1, r1⟩ := trodAll_cons r0
  obtain ⟨rfl, rfl, rfl⟩ := trodAll_nil r1
  obtain rfl : args = #[v0, v1] := by cases args; simp_all
  have hlt := hW'.lt
  obtain ⟨L0, Ap0, np0, cp0, Ai0, ni0, ci0, rfl, hp0, hi0, hl0, ht0, htp0, hti0⟩ := open_letter (hval 0 26 v0 rfl rfl) h0 (fun k hk => of_decide_eq_true (List.all_eq_true.1 hz _ (DataW.weights_mem_each (j := 0) (d := d0) rfl rfl k hk))) (fun x hx => hlt x (by simp [hx]))
  obtain ⟨L1, Ap1, np1, cp1, Ai1, ni1, ci1, rfl, hp1, hi1, hl1, ht1, htp1, hti1⟩ := open_letter (hval 1 26 v1 rfl rfl) h1 (fun k hk => of_decide_eq_true (List.all_eq_true.1 hz _ (DataW.weights_mem_each (j := 1) (d := d1) rfl rfl k hk))) (fun x hx => hlt x (by simp [hx]))
  refine (keeps_walk L0 L1 Ap0 np0 cp0 Ai0 ni0 ci0 Ap1 np1 cp1 Ai1 ni1 ci1 W.heap.size W ⟨hp0, hi0, hl0, ht0, htp0, hti0⟩ ⟨hp1, hi1, hl1, ht1, htp1, hti1⟩ (Nat.le_refl _)).mono fun e W' ⟨he, hbel⟩ => ?_
  subst he
  exact ⟨_, rfl, law_post kids full (of_decide_eq_true (by kernel_rfl)) Try.underlying4 rfl rfl rfl hW' hbel⟩

theorem proved : Rows.LetterKeepsSaid :=
  OpenClaim.holds_of_wide 5 Try.f5 rfl rfl rfl rfl rfl rfl rfl ⟨rfl, rfl, rfl, rfl, rfl⟩ rfl rfl rfl rfl rfl (by kernel_rfl) Try.func5 (by kernel_rfl)
    (of_decide_eq_true (by kernel_rfl)) (by unfold Func.isWrapper; first | (rw [if_pos (by decide +kernel)]; kernel_rfl) | (rw [if_neg (by decide +kernel)]; exact ⟨rfl, rfl⟩))
    (fun os started H enc _ => lifted os started H enc)
end lawLetterKeeps

end Go.Proofs.Ytabcoidjbigdbaa

/- LetterTells: unlike letters have unlike bytes; of a letter's bytes that are cut off more are asked for. Condition: texts shorter than 2^47 bytes. -/
import Derived.Test.YtcijipnclobnbaaLetM
import Derived.Test.YtcijipnclobnbaaLetP
import Derived.Test.YtcijipnclobnbaaLetQ
import Derived.Test.YtcijipnclobnbaaOpenLet
import Derived.Test.YtcijipnclobnbaaRow
namespace Go.Proofs.Ytcijipnclobnbaa
open Go.RowKit
open Go.Lib (strCells)

/-- a letter's rows in memory, its texts not too long -/
structure LetIn (w : World) (C : Nat) (L : Let) (Ap : Option Addr) (np : Nat) (Ai : Option Addr) (ni : Nat) : Prop where
  ps : HasLps w C Ap np L.ps
  is : HasLis w C Ai ni L.is
  lens : np ≤ maxLen ∧ ni ≤ maxLen
  txt : ∀ s ∈ L.txts, s.size ≤ 140737488355328
  txp : ∀ p ∈ L.ps, p.k.size ≤ 140737488355328 ∧ p.v.size ≤ 140737488355328
  txi : ∀ p ∈ L.is, p.e.size ≤ 140737488355328
theorem LetIn.belowOf {w w' : World} {C : Nat} {L : Let} {Ap : Option Addr} {np : Nat} {Ai : Option Addr} {ni : Nat} (h : LetIn w C L Ap np Ai ni) {D : Nat} (hb : Below D w w') (hC : C ≤ D) : LetIn w' C L Ap np Ai ni :=
  ⟨h.ps.belowOf hb hC, h.is.belowOf hb hC, h.lens, h.txt, h.txp, h.txi⟩
set_option maxRecDepth 100000 in
set_option maxHeartbeats 12800000 in
theorem tells_walk (L M : Let) (Ap : Option Addr) (np cp : Nat) (Ai : Option Addr) (ni ci : Nat) (Bp : Option Addr) (mp dp : Nat) (Bi : Option Addr) (mi di : Nat) (k : Int) (C : Nat) (w : World) (hL : LetIn w C L Ap np Ai ni) (hM : LetIn w C M Bp mp Bi mi) (hC : C ≤ w.heap.size) :
    Calls Try.prog 7 #[.agg #[.int .i64 L.kind, .int .i64 L.frm, .int .i64 L.to, .int .i64 L.a, .int .i64 L.b, .int .i64 L.c, .int .i64 L.d, .string L.s, .string L.t, .slice Ap np cp, .slice Ai ni ci, .int .i64 L.code, .bool L.yes, .string L.body], .agg #[.int .i64 M.kind, .int .i64 M.frm, .int .i64 M.to, .int .i64 M.a, .int .i64 M.b, .int .i64 M.c, .int .i64 M.d, .string M.s, .string M.t, .slice Bp mp dp, .slice Bi mi di, .int .i64 M.code, .bool M.yes, .string M.body], .int .i64 k] w fun e w' => e = .returned (.bool true) ∧ Below w.heap.size w w' := by
  have HM : Hid (∀ wx, Below ((w.alloc (.cells #[.int .i64 L.kind, .int .i64 L.frm, .int .i64 L.to, .int .i64 L.a, .int .i64 L.b, .int .i64 L.c, .int .i64 L.d, .string L.s, .string L.t, .slice Ap np cp, .slice Ai ni ci, .int .i64 L.code, .bool L.yes, .string L.body] 52)).alloc (.cells #[.int .i64 M.kind, .int .i64 M.frm, .int .i64 M.to, .int .i64 M.a, .int .i64 M.b, .int .i64 M.c, .int .i64 M.d, .string M.s, .string M.t, .slice Bp mp dp, .slice Bi mi di, .int .i64 M.code, .bool M.yes, .string M.body] 52)).heap.size ((w.alloc (.cells #[.int .i64 L.kind, .int .i64 L.frm, .int .i64 L.to, .int .i64 L.a, .int .i64 L.b, .int .i64 L.c, .int .i64 L.d, .string L.s, .string L.t, .slice Ap np cp, .slice Ai ni ci, .int .i64 L.code, .bool L.yes, .string L.body] 52)).alloc (.cells #[.int .i64 M.kind, .int .i64 M.frm, .int .i64 M.to, .int .i64 M.a, .int .i64 M.b, .int .i64 M.c, .int .i64 M.d, .string M.s, .string M.t, .slice Bp mp dp, .slice Bi mi di, .int .i64 M.code, .bool M.yes, .string M.body] 52)) wx → Box wx w.heap.size 52 #[.int .i64 L.kind, .int .i64 L.frm, .int .i64 L.to, .int .i64 L.a, .int .i64 L.b, .int .i64 L.c, .int .i64 L.d, .string L.s, .string L.t, .slice Ap np cp, .slice Ai ni ci, .int .i64 L.code, .bool L.yes, .string L.body] ∧ Box wx (w.heap.size + 1) 52 #[.int .i64 M.kind, .int .i64 M.frm, .int .i64 M.to, .int .i64 M.a, .int .i64 M.b, .int .i64 M.c, .int .i64 M.d, .string M.s, .string M.t, .slice Bp mp dp, .slice Bi mi di, .int .i64 M.code, .bool M.yes, .string M.body]) := Lib.hid (fun wx (hx : Below ((w.alloc (.cells #[.int .i64 L.kind, .int .i64 L.frm, .int .i64 L.to, .int .i64 L.a, .int .i64 L.b, .int .i64 L.c, .int .i64 L.d, .string L.s, .string L.t, .slice Ap np cp, .slice Ai ni ci, .int .i64 L.code, .bool L.yes, .string L.body] 52)).alloc (.cells #[.int .i64 M.kind, .int .i64 M.frm, .int .i64 M.to, .int .i64 M.a, .int .i64 M.b, .int .i64 M.c, .int .i64 M.d, .string M.s, .string M.t, .slice Bp mp dp, .slice Bi mi di, .int .i64 M.code, .bool M.yes, .string M.body] 52)).heap.size ((w.alloc (.cells #[.int .i64 L.kind, .int .i64 L.frm, .int .i64 L.to, .int .i64 L.a, .int .i64 L.b, .int .i64 L.c, .int .i64 L.d, .string L.s, .string L.t, .slice Ap np cp, .slice Ai ni ci, .int .i64 L.code, .bool L.yes, .string L.body] 52)).alloc (.cells #[.int .i64 M.kind, .int .i64 M.frm, .int .i64 M.to, .int .i64 M.a, .int .i64 M.b, .int .i64 M.c, .int .i64 M.d, .string M.s, .string M.t, .slice Bp mp dp, .slice Bi mi di, .int .i64 M.code, .bool M.yes, .string M.body] 52)) wx) => by
    have h1 := (Box.made w 52 #[.int .i64 L.kind, .int .i64 L.frm, .int .i64 L.to, .int .i64 L.a, .int .i64 L.b, .int .i64 L.c, .int .i64 L.d, .string L.s, .string L.t, .slice Ap np cp, .slice Ai ni ci, .int .i64 L.code, .bool L.yes, .string L.body]).alloc (.cells #[.int .i64 M.kind, .int .i64 M.frm, .int .i64 M.to, .int .i64 M.a, .int .i64 M.b, .int .i64 M.c, .int .i64 M.d, .string M.s, .string M.t, .slice Bp mp dp, .slice Bi mi di, .int .i64 M.code, .bool M.yes, .string M.body] 52)
    have h2 := Box.made (w.alloc (.cells #[.int .i64 L.kind, .int .i64 L.frm, .int .i64 L.to, .int .i64 L.a, .int .i64 L.b, .int .i64 L.c, .int .i64 L.d, .string L.s, .string L.t, .slice Ap np cp, .slice Ai ni ci, .int .i64 L.code, .bool L.yes, .string L.body] 52)) 52 #[.int .i64 M.kind, .int .i64 M.frm, .int .i64 M.to, .int .i64 M.a, .int .i64 M.b, .int .i64 M.c, .int .i64 M.d, .string M.s, .string M.t, .slice Bp mp dp, .slice Bi mi di, .int .i64 M.code, .bool M.yes, .string M.body]
    have h3 := h1.below hx (by simp; omega)
    have h4 := h2.below hx (by simp)
    rw [World.size_alloc] at h4
    exact And.intro h3 h4)
  have HBe : Hid (∀ wx, Below ((w.alloc (.cells #[.int .i64 L.kind, .int .i64 L.frm, .int .i64 L.to, .int .i64 L.a, .int .i64 L.b, .int .i64 L.c, .int .i64 L.d, .string L.s, .string L.t, .slice Ap np cp, .slice Ai ni ci, .int .i64 L.code, .bool L.yes, .string L.body] 52)).alloc (.cells #[.int .i64 M.kind, .int .i64 M.frm, .int .i64 M.to, .int .i64 M.a, .int .i64 M.b, .int .i64 M.c, .int .i64 M.d, .string M.s, .string M.t, .slice Bp mp dp, .slice Bi mi di, .int .i64 M.code, .bool M.yes, .string M.body] 52)).heap.size ((w.alloc (.cells #[.int .i64 L.kind, .int .i64 L.frm, .int .i64 L.to, .int .i64 L.a, .int .i64 L.b, .int .i64 L.c, .int .i64 L.d, .string L.s, .string L.t, .slice Ap np cp, .slice Ai ni ci, .int .i64 L.code, .bool L.yes, .string L.body] 52)).alloc (.cells #[.int .i64 M.kind, .int .i64 M.frm, .int .i64 M.to, .int .i64 M.a, .int .i64 M.b, .int .i64 M.c, .int .i64 M.d, .string M.s, .string M.t, .slice Bp mp dp, .slice Bi mi di, .int .i64 M.code, .bool M.yes, .string M.body] 52)) wx → Below w.heap.size w wx) := Lib.hid fun wx hx => ((below_box (w := w) (.cells #[.int .i64 L.kind, .int .i64 L.frm, .int .i64 L.to, .int .i64 L.a, .int .i64 L.b, .int .i64 L.c, .int .i64 L.d, .string L.s, .string L.t, .slice Ap np cp, .slice Ai ni ci, .int .i64 L.code, .bool L.yes, .string L.body] 52)).trans ((below_box _).mono (by simp))).trans (hx.mono (by simp; omega))
  have HI : Hid (∀ wx, Below ((w.alloc (.cells #[.int .i64 L.kind, .int .i64 L.frm, .int .i64 L.to, .int .i64 L.a, .int .i64 L.b, .int .i64 L.c, .int .i64 L.d, .string L.s, .string L.t, .slice Ap np cp, .slice Ai ni ci, .int .i64 L.code, .bool L.yes, .string L.body] 52)).alloc (.cells #[.int .i64 M.kind, .int .i64 M.frm, .int .i64 M.to, .int .i64 M.a, .int .i64 M.b, .int .i64 M.c, .int .i64 M.d, .string M.s, .string M.t, .slice Bp mp dp, .slice Bi mi di, .int .i64 M.code, .bool M.yes, .string M.body] 52)).heap.size ((w.alloc (.cells #[.int .i64 L.kind, .int .i64 L.frm, .int .i64 L.to, .int .i64 L.a, .int .i64 L.b, .int .i64 L.c, .int .i64 L.d, .string L.s, .string L.t, .slice Ap np cp, .slice Ai ni ci, .int .i64 L.code, .bool L.yes, .string L.body] 52)).alloc (.cells #[.int .i64 M.kind, .int .i64 M.frm, .int .i64 M.to, .int .i64 M.a, .int .i64 M.b, .int .i64 M.c, .int .i64 M.d, .string M.s, .string M.t, .slice Bp mp dp, .slice Bi mi di, .int .i64 M.code, .bool M.yes, .string M.body] 52)) wx → (LetIn wx C L Ap np Ai ni ∧ LetIn wx C M Bp mp Bi mi) ∧ C ≤ wx.heap.size) := Lib.hid fun wx hx => ⟨⟨hL.belowOf (HBe.out wx hx) hC, hM.belowOf (HBe.out wx hx) hC⟩, Nat.le_trans hC (HBe.out wx hx).size⟩
  have HcL : Hid (∀ wx, Below ((w.alloc (.cells #[.int .i64 L.kind, .int .i64 L.frm, .int .i64 L.to, .int .i64 L.a, .int .i64 L.b, .int .i64 L.c, .int .i64 L.d, .string L.s, .string L.t, .slice Ap np cp, .slice Ai ni ci, .int .i64 L.code, .bool L.yes, .string L.body] 52)).alloc (.cells #[.int .i64 M.kind, .int .i64 M.frm, .int .i64 M.to, .int .i64 M.a, .int .i64 M.b, .int .i64 M.c, .int .i64 M.d, .string M.s, .string M.t, .slice Bp mp dp, .slice Bi mi di, .int .i64 M.code, .bool M.yes, .string M.body] 52)).heap.size ((w.alloc (.cells #[.int .i64 L.kind, .int .i64 L.frm, .int .i64 L.to, .int .i64 L.a, .int .i64 L.b, .int .i64 L.c, .int .i64 L.d, .string L.s, .string L.t, .slice Ap np cp, .slice Ai ni ci, .int .i64 L.code, .bool L.yes, .string L.body] 52)).alloc (.cells #[.int .i64 M.kind, .int .i64 M.frm, .int .i64 M.to, .int .i64 M.a, .int .i64 M.b, .int .i64 M.c, .int .i64 M.d, .string M.s, .string M.t, .slice Bp mp dp, .slice Bi mi di, .int .i64 M.code, .bool M.yes, .string M.body] 52)) wx → Calls Try.prog 21 #[.agg #[.int .i64 L.kind, .int .i64 L.frm, .int .i64 L.to, .int .i64 L.a, .int .i64 L.b, .int .i64 L.c, .int .i64 L.d, .string L.s, .string L.t, .slice Ap np cp, .slice Ai ni ci, .int .i64 L.code, .bool L.yes, .string L.body]] wx (LightPostL L wx) ∧ Calls Try.prog 21 #[.agg #[.int .i64 M.kind, .int .i64 M.frm, .int .i64 M.to, .int .i64 M.a, .int .i64 M.b, .int .i64 M.c, .int .i64 M.d, .string M.s, .string M.t, .slice Bp mp dp, .slice Bi mi di, .int .i64 M.code, .bool M.yes, .string M.body]] wx (LightPostL M wx)) := Lib.hid fun wx hx => by
    obtain ⟨⟨h1, h2⟩, h3⟩ := HI.out wx hx
    exact ⟨light13_any L Ap np cp Ai ni ci C wx h1.ps h1.is h3 h1.lens h1.txt h1.txp h1.txi, light13_any M Bp mp dp Bi mi di C wx h2.ps h2.is h3 h2.lens h2.txt h2.txp h2.txi⟩
  have HcP : Hid (∀ wx, Below ((w.alloc (.cells #[.int .i64 L.kind, .int .i64 L.frm, .int .i64 L.to, .int .i64 L.a, .int .i64 L.b, .int .i64 L.c, .int .i64 L.d, .string L.s, .string L.t, .slice Ap np cp, .slice Ai ni ci, .int .i64 L.code, .bool L.yes, .string L.body] 52)).alloc (.cells #[.int .i64 M.kind, .int .i64 M.frm, .int .i64 M.to, .int .i64 M.a, .int .i64 M.b, .int .i64 M.c, .int .i64 M.d, .string M.s, .string M.t, .slice Bp mp dp, .slice Bi mi di, .int .i64 M.code, .bool M.yes, .string M.body] 52)).heap.size ((w.alloc (.cells #[.int .i64 L.kind, .int .i64 L.frm, .int .i64 L.to, .int .i64 L.a, .int .i64 L.b, .int .i64 L.c, .int .i64 L.d, .string L.s, .string L.t, .slice Ap np cp, .slice Ai ni ci, .int .i64 L.code, .bool L.yes, .string L.body] 52)).alloc (.cells #[.int .i64 M.kind, .int .i64 M.frm, .int .i64 M.to, .int .i64 M.a, .int .i64 M.b, .int .i64 M.c, .int .i64 M.d, .string M.s, .string M.t, .slice Bp mp dp, .slice Bi mi di, .int .i64 M.code, .bool M.yes, .string M.body] 52)) wx → Calls Try.prog 22 #[.agg #[.int .i64 L.kind, .int .i64 L.frm, .int .i64 L.to, .int .i64 L.a, .int .i64 L.b, .int .i64 L.c, .int .i64 L.d, .string L.s, .string L.t, .slice Ap np cp, .slice Ai ni ci, .int .i64 L.code, .bool L.yes, .string L.body]] wx (LetPackPost L wx) ∧ Calls Try.prog 22 #[.agg #[.int .i64 M.kind, .int .i64 M.frm, .int .i64 M.to, .int .i64 M.a, .int .i64 M.b, .int .i64 M.c, .int .i64 M.d, .string M.s, .string M.t, .slice Bp mp dp, .slice Bi mi di, .int .i64 M.code, .bool M.yes, .string M.body]] wx (LetPackPost M wx)) := Lib.hid fun wx hx => by
    obtain ⟨⟨h1, h2⟩, h3⟩ := HI.out wx hx
    exact ⟨letPack_any L Ap np cp Ai ni ci C wx h1.ps h1.is h3 h1.lens h1.txt h1.txp h1.txi, letPack_any M Bp mp dp Bi mi di C wx h2.ps h2.is h3 h2.lens h2.txt h2.txp h2.txi⟩
  have HcS : Hid (∀ wx, Below ((w.alloc (.cells #[.int .i64 L.kind, .int .i64 L.frm, .int .i64 L.to, .int .i64 L.a, .int .i64 L.b, .int .i64 L.c, .int .i64 L.d, .string L.s, .string L.t, .slice Ap np cp, .slice Ai ni ci, .int .i64 L.code, .bool L.yes, .string L.body] 52)).alloc (.cells #[.int .i64 M.kind, .int .i64 M.frm, .int .i64 M.to, .int .i64 M.a, .int .i64 M.b, .int .i64 M.c, .int .i64 M.d, .string M.s, .string M.t, .slice Bp mp dp, .slice Bi mi di, .int .i64 M.code, .bool M.yes, .string M.body] 52)).heap.size ((w.alloc (.cells #[.int .i64 L.kind, .int .i64 L.frm, .int .i64 L.to, .int .i64 L.a, .int .i64 L.b, .int .i64 L.c, .int .i64 L.d, .string L.s, .string L.t, .slice Ap np cp, .slice Ai ni ci, .int .i64 L.code, .bool L.yes, .string L.body] 52)).alloc (.cells #[.int .i64 M.kind, .int .i64 M.frm, .int .i64 M.to, .int .i64 M.a, .int .i64 M.b, .int .i64 M.c, .int .i64 M.d, .string M.s, .string M.t, .slice Bp mp dp, .slice Bi mi di, .int .i64 M.code, .bool M.yes, .string M.body] 52)) wx → Calls Try.prog 26 #[.agg #[.int .i64 L.kind, .int .i64 L.frm, .int .i64 L.to, .int .i64 L.a, .int .i64 L.b, .int .i64 L.c, .int .i64 L.d, .string L.s, .string L.t, .slice Ap np cp, .slice Ai ni ci, .int .i64 L.code, .bool L.yes, .string L.body], .agg #[.int .i64 M.kind, .int .i64 M.frm, .int .i64 M.to, .int .i64 M.a, .int .i64 M.b, .int .i64 M.c, .int .i64 M.d, .string M.s, .string M.t, .slice Bp mp dp, .slice Bi mi di, .int .i64 M.code, .bool M.yes, .string M.body]] wx fun e w' => e = .returned (.bool (decide (L = M))) ∧ Below wx.heap.size wx w') := Lib.hid fun wx hx => by
    obtain ⟨⟨h1, h2⟩, h3⟩ := HI.out wx hx
    exact sameL_any L M Ap np cp Ai ni ci Bp mp dp Bi mi di C wx h1.ps h1.is h2.ps h2.is h3 h1.lens h2.lens
  have Ha := Lib.hid (awake13_any ((w.alloc (.cells #[.int .i64 L.kind, .int .i64 L.frm, .int .i64 L.to, .int .i64 L.a, .int .i64 L.b, .int .i64 L.c, .int .i64 L.d, .string L.s, .string L.t, .slice Ap np cp, .slice Ai ni ci, .int .i64 L.code, .bool L.yes, .string L.body] 52)).alloc (.cells #[.int .i64 M.kind, .int .i64 M.frm, .int .i64 M.to, .int .i64 M.a, .int .i64 M.b, .int .i64 M.c, .int .i64 M.d, .string M.s, .string M.t, .slice Bp mp dp, .slice Bi mi di, .int .i64 M.code, .bool M.yes, .string M.body] 52)))
  clear hL hM hC HI
  go_enter Try.func7, Try.ntmps7
  go_wp2_with fail
  refine Ha.out.mono ?_
  rintro e w2 ⟨rfl, b2⟩
  have HB2 := Lib.hid b2
  clear b2 Ha
  obtain ⟨⟨x0, x1, x2, x3, x4, x5, x6⟩, ⟨x7, x8⟩, ⟨x9, x10⟩, ⟨x11, x12, x13⟩⟩ := let_cells (HM.out w2 HB2.out).1
  obtain ⟨⟨y0, y1, y2, y3, y4, y5, y6⟩, ⟨y7, y8⟩, ⟨y9, y10⟩, ⟨y11, y12, y13⟩⟩ := let_cells (HM.out w2 HB2.out).2
  go_wp2_with fail
  refine (HcL.out w2 HB2.out).1.mono ?_
  rintro e w3 ⟨bl, rfl, -, b3⟩
  have HB3 := Lib.hid (HB2.out.trans (b3.mono HB2.out.size))
  clear x0 x1 x2 x3 x4 x5 x6 x7 x8 x9 x10 x11 x12 x13 y0 y1 y2 y3 y4 y5 y6 y7 y8 y9 y10 y11 y12 y13 b3
  cases bl with
  | false =>
    go_wp2
    go_ret
    exact ⟨rfl, HBe.out _ HB3.out⟩
  | true =>
  obtain ⟨⟨x0, x1, x2, x3, x4, x5, x6⟩, ⟨x7, x8⟩, ⟨x9, x10⟩, ⟨x11, x12, x13⟩⟩ := let_cells (HM.out w3 HB3.out).1
  obtain ⟨⟨y0, y1, y2, y3, y4, y5, y6⟩, ⟨y7, y8⟩, ⟨y9, y10⟩, ⟨y11, y12, y13⟩⟩ := let_cells (HM.out w3 HB3.out).2
  go_wp2_with fail
  refine (HcL.out w3 HB3.out).2.mono ?_
  rintro e w4 ⟨bl, rfl, -, b4⟩
  have HB4 := Lib.hid (HB3.out.trans (b4.mono HB3.out.size))
  clear x0 x1 x2 x3 x4 x5 x6 x7 x8 x9 x10 x11 x12 x13 y0 y1 y2 y3 y4 y5 y6 y7 y8 y9 y10 y11 y12 y13 b4
  cases bl with
  | false =>
    go_wp2
    go_ret
    exact ⟨rfl, HBe.out _ HB4.out⟩
  | true =>
  obtain ⟨⟨x0, x1, x2, x3, x4, x5, x6⟩, ⟨x7, x8⟩, ⟨x9, x10⟩, ⟨x11, x12, x13⟩⟩ := let_cells (HM.out w4 HB4.out).1
  obtain ⟨⟨y0, y1, y2, y3, y4, y5, y6⟩, ⟨y7, y8⟩, ⟨y9, y10⟩, ⟨y11, y12, y13⟩⟩ := let_cells (HM.out w4 HB4.out).2
  go_wp2_with fail
  refine (HcP.out w4 HB4.out).1.mono ?_
  rintro e w5 ⟨rfl, b5⟩
  have HB5 := Lib.hid (HB4.out.trans (b5.mono HB4.out.size))
  clear x0 x1 x2 x3 x4 x5 x6 x7 x8 x9 x10 x11 x12 x13 y0 y1 y2 y3 y4 y5 y6 y7 y8 y9 y10 y11 y12 y13 b5
  obtain ⟨⟨x0, x1, x2, x3, x4, x5, x6⟩, ⟨x7, x8⟩, ⟨x9, x10⟩, ⟨x11, x12, x13⟩⟩ := let_cells (HM.out w5 HB5.out).1
  obtain ⟨⟨y0, y1, y2, y3, y4, y5, y6⟩, ⟨y7, y8⟩, ⟨y9, y10⟩, ⟨y11, y12, y13⟩⟩ := let_cells (HM.out w5 HB5.out).2
  go_wp2_with fail
  refine (HcP.out w5 HB5.out).2.mono ?_
  rintro e w6 ⟨rfl, b6⟩
  have HB6 := Lib.hid (HB5.out.trans (b6.mono HB5.out.size))
  clear x0 x1 x2 x3 x4 x5 x6 x7 x8 x9 x10 x11 x12 x13 y0 y1 y2 y3 y4 y5 y6 y7 y8 y9 y10 y11 y12 y13 b6
  by_cases e1 : L.err = 0
  case neg =>
    have hb1 : (L.err != 0) = true := by simpa using e1
    clear e1
    go_wp2
    go_ret
    exact ⟨rfl, HBe.out _ HB6.out⟩
  by_cases e2 : M.err = 0
  case neg =>
    have hb1 : (M.err != 0) = true := by simpa using e2
    have hb0 : (L.err != 0) = false := by simpa using e1
    clear e1 e2
    go_wp2
    go_ret
    exact ⟨rfl, HBe.out _ HB6.out⟩
  have hb0 : (L.err != 0) = false := by simpa using e1
  have hb1 : (M.err != 0) = false := by simpa using e2
  have HE := Lib.hid e1
  have HP : Hid (L.packed = formsOf L.toks ∧ M.packed = formsOf M.toks) := Lib.hid ⟨by unfold Let.packed; rw [if_pos e1], by unfold Let.packed; rw [if_pos e2]⟩
  obtain ⟨sv, hsv⟩ : ∃ sv : ByteArray, ⟨L.packed.toArray⟩ = sv := ⟨_, rfl⟩
  obtain ⟨tv, htv⟩ : ∃ tv : ByteArray, ⟨M.packed.toArray⟩ = tv := ⟨_, rfl⟩
  have Hs : Hid (sv.data.toList = formsOf L.toks) := Lib.hid (by rw [← hsv, HP.out.1])
  have hd : (sv.toList == tv.toList) = decide (L = M) := by
    rw [text_eqL]
    refine decide_eq_decide.2 ⟨fun h => (forms_inj e1 e2).1 ?_, fun h => ?_⟩
    · have := congrArg (fun b : ByteArray => b.data.toList) h
      rw [← hsv, ← htv, HP.out.1, HP.out.2] at this
      simpa using this
    · rw [← hsv, ← htv, HP.out.1, HP.out.2, h]
  have hcs := HcS.out w6 HB6.out
  obtain ⟨dd, hdd⟩ : ∃ dd, decide (L = M) = dd := ⟨_, rfl⟩
  rw [hdd] at hd hcs
  have hdq : (dd == dd) = true := by simp
  have hdn : (dd != dd) = false := by simp
  have HcS2 := Lib.hid hcs
  rw [hsv, htv]
  have Hsz : Hid (sv.size = (formsOf L.toks).length) := Lib.hid (by rw [← Hs.out]; simp)
  have hsz : sv.size ≤ 65536 := by rw [Hsz.out]; exact (err_zero.1 e1).2.2.2
  clear hsv htv hdd hcs e1 e2 HcS HcP HcL HP
  obtain ⟨⟨x0, x1, x2, x3, x4, x5, x6⟩, ⟨x7, x8⟩, ⟨x9, x10⟩, ⟨x11, x12, x13⟩⟩ := let_cells (HM.out w6 HB6.out).1
  obtain ⟨⟨y0, y1, y2, y3, y4, y5, y6⟩, ⟨y7, y8⟩, ⟨y9, y10⟩, ⟨y11, y12, y13⟩⟩ := let_cells (HM.out w6 HB6.out).2
  go_wp2_with fail
  refine HcS2.out.mono ?_
  rintro e w7 ⟨rfl, b7⟩
  have HB7 := Lib.hid (HB6.out.trans (b7.mono HB6.out.size))
  clear x0 x1 x2 x3 x4 x5 x6 x7 x8 x9 x10 x11 x12 x13 y0 y1 y2 y3 y4 y5 y6 y7 y8 y9 y10 y11 y12 y13 b7
  by_cases hk0 : k < 0
  · go_wp2
    go_ret
    exact ⟨rfl, HBe.out _ HB7.out⟩
  by_cases hk1 : (sv.size : Int) ≤ k
  · go_wp2
    go_ret
    exact ⟨rfl, HBe.out _ HB7.out⟩
  obtain ⟨i, rfl⟩ : ∃ i : Nat, (i : Int) = k := ⟨k.toNat, by omega⟩
  have hi : i < sv.size := by omega
  have hx : (sv.extract 0 i).data.toList = (formsOf L.toks).take i := by rw [← Hs.out]; simp
  have hus := letU_cut HE.out (i := i) (by rw [← Hsz.out]; exact hi)
  have hun := letUnpack_any (sv.extract 0 i) w7 (by have h8 := congrArg List.length hx; simp at h8; unfold maxLen; simp only [ByteArray.size_extract]; omega)
  rw [hx] at hun
  unfold UnpPost at hun
  obtain ⟨R, hR⟩ : ∃ R, letU ((formsOf L.toks).take i) = R := ⟨_, rfl⟩
  rw [hR] at hun hus
  obtain ⟨RL, er⟩ := R
  simp only at hus
  subst hus
  have Hun := Lib.hid hun
  clear hun hR hx
  go_wp2_with fail
  refine Hun.out.mono ?_
  rintro e w8 ⟨Rp, rn, rc, Ri, rn', rc', rfl, -, -, b8⟩
  have HB8 := Lib.hid (HB7.out.trans (b8.mono HB7.out.size))
  clear b8 Hun
  go_wp2
  go_ret
  exact ⟨rfl, HBe.out _ HB8.out⟩

namespace lawLetterTells
open Go.ChangeShapes Go.WideShapes Go.ChangeAt

theorem own : ownKnob Try.prog.godebug = none := by kernel_rfl
theorem kids : Kids Try.prog (· < Try.prog.types.size) := kids_rows (by kernel_rfl) (by kernel_rfl)
theorem full : ∀ t e, t < Try.prog.types.size → Try.prog.underlying t = some (.slice e) → 0 < Try.prog.cellsOf e := slices_full_of Try.prog (by kernel_rfl)

set_option maxRecDepth 100000 in
theorem lifted (os : Os) (started : os.Started) (H : Type) (enc : TypeId × Value → H) :
    ReturnsInHanded {} Try.checked os 7 .any (Rows.letterTellsSpec.pre6 enc Try.prog Try.f7 Rows.letterTellsRow.domain false) (Rows.letterTellsSpec.post enc Try.prog Try.f7 false true false false) := by
  refine returnsInHanded_of_change_sized (C := Try.checked) own started (by kernel_rfl) Try.func7
    (ChangeSpec.witness6 (enc := enc) (C := Try.checked) false ⟨#[], #[.agg #[.int .i64 0, .int .i64 0, .int .i64 0, .int .i64 0, .int .i64 0, .int .i64 0, .int .i64 0, .string ⟨#[]⟩, .string ⟨#[]⟩, .slice none 0 0, .slice none 0 0, .int .i64 0, .bool false, .string ⟨#[]⟩], .agg #[.int .i64 0, .int .i64 0, .int .i64 0, .int .i64 0, .int .i64 0, .int .i64 0, .int .i64 0, .string ⟨#[]⟩, .string ⟨#[]⟩, .slice none 0 0, .slice none 0 0, .int .i64 0, .bool false, .string ⟨#[]⟩], .int .i64 0], []⟩ 8 (by kernel_rfl) (by kernel_rfl) (by kernel_rfl) (by kernel_rfl)) ?_
  intro W base args ds gs before hval0 hW _ hz _
  have hval : ∀ (j : Nat) t v, Try.f7.params[j]? = some t → args[j]? = some v → Value.okWide Try.prog W .any base t v := hval0
  have hW' := hW
  obtain ⟨p, q, hA0, hV, rfl, _, _⟩ := hW
  obtain ⟨rfl, rfl⟩ := trodVars_none hV
  have hA : DataW.TrodAll enc Try.prog W 0 (fun _ => true) true Try.f7.params.toList args.toList ds p := hA0
  rw [Try.params7] at hA hval
  obtain ⟨v0, vs0, d0, ds0, p0, q0, hargs, rfl, rfl, h0, r0⟩ := trodAll_cons hA
  obtain ⟨v1, vs1, d1, ds1, p1, q1, rfl, rfl, rfl, h1, r1⟩ := trodAll_cons r0
  obtain ⟨v2, vs2, d2, ds2, p2, q2, rfl, rfl, rfl, h2, r2⟩ := trodAll_cons r1
  obtain ⟨rfl, rfl, rfl⟩ := trodAll_nil r2
  obtain rfl : args = #[v0, v1, v2] := by cases args; simp_all
  have hlt := hW'.lt
  obtain ⟨L0, Ap0, np0, cp0, Ai0, ni0, ci0, rfl, hp0, hi0, hl0, ht0, htp0, hti0⟩ := open_letter (hval 0 52 v0 rfl rfl) h0 (fun k hk => of_decide_eq_true (List.all_eq_true.1 hz _ (DataW.weights_mem_each (j := 0) (d := d0) rfl rfl k hk))) (fun x hx => hlt x (by simp [hx]))
  obtain ⟨L1, Ap1, np1, cp1, Ai1, ni1, ci1, rfl, hp1, hi1, hl1, ht1, htp1, hti1⟩ := open_letter (hval 1 52 v1 rfl rfl) h1 (fun k hk => of_decide_eq_true (List.all_eq_true.1 hz _ (DataW.weights_mem_each (j := 1) (d := d1) rfl rfl k hk))) (fun x hx => hlt x (by simp [hx]))
  obtain ⟨k2, rfl, _, _, _⟩ := open_int Try.underlying3 (hval 2 3 v2 rfl rfl) h2
  refine (tells_walk L0 L1 Ap0 np0 cp0 Ai0 ni0 ci0 Ap1 np1 cp1 Ai1 ni1 ci1 k2 W.heap.size W ⟨hp0, hi0, hl0, ht0, htp0, hti0⟩ ⟨hp1, hi1, hl1, ht1, htp1, hti1⟩ (Nat.le_refl _)).mono fun e W' ⟨he, hbel⟩ => ?_
  subst he
  exact ⟨_, rfl, law_post kids full (of_decide_eq_true (by kernel_rfl)) Try.underlying4 rfl rfl rfl hW' hbel⟩

theorem proved : Rows.LetterTellsSaid :=
  OpenClaim.holds_of_wide 7 Try.f7 rfl rfl rfl rfl rfl rfl rfl ⟨rfl, rfl, rfl, rfl, rfl⟩ rfl rfl rfl rfl rfl (by kernel_rfl) Try.func7 (by kernel_rfl)
    (of_decide_eq_true (by kernel_rfl)) (by unfold Func.isWrapper; first | (rw [if_pos (by decide +kernel)]; kernel_rfl) | (rw [if_neg (by decide +kernel)]; exact ⟨rfl, rfl⟩))
    (fun os started H enc _ => lifted os started H enc)
end lawLetterTells

end Go.Proofs.Ytcijipnclobnbaa

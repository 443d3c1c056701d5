/- NetKeeps: what is handed in isn't kept; what is answered is new memory; one that is doubled stands for itself. Condition: texts shorter than 2^47 bytes. -/
import Derived.Test.YtabcoidjbigdbaaNetH
import Derived.Test.YtabcoidjbigdbaaLetN
import Derived.Test.YtabcoidjbigdbaaLetP
import Derived.Test.YtabcoidjbigdbaaLetIn
import Derived.Test.YtabcoidjbigdbaaLetY
import Derived.Test.YtabcoidjbigdbaaOpenLet
import Derived.Test.YtabcoidjbigdbaaRow
namespace Go.Proofs.Ytabcoidjbigdbaa
open Go.RowKit
open Go.Lib (strCells)

theorem own_emptyLp (w : World) (B : Nat) (hB : B ≤ w.heap.size) : (w.alloc (.cells #[] 38)).ownsRow B 38 2 (.slice (some ⟨w.heap.size, 0, none⟩) 0 0) 0 [] :=
  ⟨rfl, .inr ⟨w.heap.size, 0, #[], rfl, hB, heap_alloc_new w _, Nat.le_refl _, by simp [maxLen], rfl, rfl⟩⟩
theorem own_emptyLi (w : World) (B : Nat) (hB : B ≤ w.heap.size) : (w.alloc (.cells #[] 40)).ownsRow B 40 3 (.slice (some ⟨w.heap.size, 0, none⟩) 0 0) 0 [] :=
  ⟨rfl, .inr ⟨w.heap.size, 0, #[], rfl, hB, heap_alloc_new w _, Nat.le_refl _, by simp [maxLen], rfl, rfl⟩⟩
section
variable {w w' : World} {B sb mb d : Nat} {E : List NEn}
/-- a net stays where a block is written that is none of its own -/
theorem NetAt.off (h : NetAt w B sb mb E d) {g : Nat} (hg : w.grownBy w' (some g)) (h1 : g ≠ sb ∧ g ≠ mb) (h2 : ∀ p ∈ E, (Value.slice p.Ap p.L.ps.length p.cp).ownBlock ≠ some g ∧ (Value.slice p.Ai p.L.is.length p.ci).ownBlock ≠ some g) : NetAt w' B sb mb E d :=
  { h with
    box := h.box.grown hg (fun e => h1.1 (by injection e with e; exact e.symm))
    own := mapN_keep h.own (hg.block mb h.own.lt (fun e => h1.2 (by injection e with e; exact e.symm)))
    rows := fun p hp => ⟨own_grownT (h.rows p hp).1 hg fun b hb e => (h2 p hp).1 (by rw [hb, e]), own_grownT (h.rows p hp).2 hg fun b hb e => (h2 p hp).2 (by rw [hb, e])⟩ }
/-- a block below the net's own ones -/
theorem NetAt.low (h : NetAt w B sb mb E d) {g : Nat} (hg : w.grownBy w' (some g)) (hlt : g < B) : NetAt w' B sb mb E d :=
  h.off hg ⟨by have := h.sB; omega, by have := h.mB; omega⟩ fun p hp => ⟨fun e => by have := ((h.rows p hp).1.lt g e).1; omega, fun e => by have := ((h.rows p hp).2.lt g e).1; omega⟩
theorem NetAt.drewN (h : NetAt w B sb mb E d) (q : Nat) : NetAt (w.drewN q) B sb mb E d := ⟨h.sB, h.mB, h.box, h.own, h.rise, h.nums, h.rows, h.good⟩
end
/-- the letter that was handed in, while it is written over, beside the net -/
structure KpA (w0 wr : World) (B sb mb go : Nat) (en : NEn) (L : Let) (P : Option Addr) (np cp : Nat) (I : Option Addr) (ni ci : Nat) (ls : List LPr) : Prop where
  net : NetAt wr B sb mb [en] 1
  box : Box wr go 26 #[.int .i64 L.kind, .int .i64 L.frm, .int .i64 L.to, .int .i64 L.a, .int .i64 L.b, .int .i64 L.c, .int .i64 L.d, .string L.s, .string L.t, .slice P np cp, .slice I ni ci, .int .i64 L.code, .bool L.yes, .string L.body]
  row : wr.ownsRow w0.heap.size 38 2 (.slice P np cp) np (lpCells ls)
  len : ls.length = np
  lo : ∀ g, (Value.slice P np cp).ownBlock = some g → g < B
  below : Below w0.heap.size w0 wr
section
variable {w0 wr : World} {B sb mb go : Nat} {en : NEn} {L : Let} {P : Option Addr} {np cp : Nat} {I : Option Addr} {ni ci : Nat} {ls : List LPr}
theorem KpA.drewN (h : KpA w0 wr B sb mb go en L P np cp I ni ci ls) (q : Nat) : KpA w0 (wr.drewN q) B sb mb go en L P np cp I ni ci ls :=
  ⟨h.net.drewN q, h.box, h.row, h.len, h.lo, ⟨h.below.os, h.below.tape, h.below.output, h.below.size, h.below.block⟩⟩
theorem KpA.store (h : KpA w0 wr B sb mb go en L P np cp I ni ci ls) {k g : Nat} {p : LPr} (hk : k < np) (hp : ls[k]? = some p) (hg : P = some ⟨g, 0, none⟩) (s : ByteArray) :
    KpA w0 (wr.setCell ⟨g, k * 2, none⟩ (.string s)) B sb mb go en L P np cp I ni ci (ls.set k ⟨s, p.v⟩) := by
  obtain ⟨g', p', e, hB, hlt, hp', -, -, -, hk1, -⟩ := lp_edit h.row h.len hk
  subst hg
  injection e with e
  injection e with e
  subst e
  rw [hp] at hp'
  injection hp' with hp'
  subst hp'
  obtain ⟨o1, gr⟩ := hk1 s
  have hb1 : (Value.slice (some ⟨g, 0, none⟩) np cp).ownBlock = some g := rfl
  exact ⟨h.net.low gr (h.lo g hb1), h.box.grown gr (fun e => own_box_ne h.row h.box types3.1 g hb1 (by injection e with e; exact e.symm)), o1, by simpa using h.len, h.lo, h.below.grown gr h.below.size (fun g' hg' => by injection hg' with hg'; omega)⟩
end
/-- a letter's row of pairs that was answered, while it is written over: whatever lay before is as it was -/
structure KpB (w0 wr : World) (gx : Nat) (L : Let) (P : Option Addr) (cp : Nat) (I : Option Addr) (ci : Nat) (ls : List LPr) : Prop where
  box : Box wr gx 26 #[.int .i64 L.kind, .int .i64 L.frm, .int .i64 L.to, .int .i64 L.a, .int .i64 L.b, .int .i64 L.c, .int .i64 L.d, .string L.s, .string L.t, .slice P L.ps.length cp, .slice I L.is.length ci, .int .i64 L.code, .bool L.yes, .string L.body]
  row : wr.ownsRow w0.heap.size 38 2 (.slice P L.ps.length cp) L.ps.length (lpCells ls)
  len : ls.length = L.ps.length
  below : Below w0.heap.size w0 wr
section
variable {w0 wr : World} {gx : Nat} {L : Let} {P : Option Addr} {cp : Nat} {I : Option Addr} {ci : Nat} {ls : List LPr}
theorem KpB.drewN (h : KpB w0 wr gx L P cp I ci ls) (q : Nat) : KpB w0 (wr.drewN q) gx L P cp I ci ls := ⟨h.box, h.row, h.len, ⟨h.below.os, h.below.tape, h.below.output, h.below.size, h.below.block⟩⟩
theorem KpB.store (h : KpB w0 wr gx L P cp I ci ls) {k g : Nat} {p : LPr} (hk : k < L.ps.length) (hp : ls[k]? = some p) (hg : P = some ⟨g, 0, none⟩) (s : ByteArray) : KpB w0 (wr.setCell ⟨g, k * 2 + 1, none⟩ (.string s)) gx L P cp I ci (ls.set k ⟨p.k, s⟩) := by
  obtain ⟨g', p', e, hB, hlt, hp', -, -, -, -, hk1⟩ := lp_edit h.row h.len hk
  subst hg
  injection e with e
  injection e with e
  subst e
  rw [hp] at hp'
  injection hp' with hp'
  subst hp'
  obtain ⟨o1, gr⟩ := hk1 s
  have hb1 : (Value.slice (some ⟨g, 0, none⟩) L.ps.length cp).ownBlock = some g := rfl
  exact ⟨h.box.grown gr (fun e => own_box_ne h.row h.box types3.1 g hb1 (by injection e with e; exact e.symm)), o1, by simpa using h.len, h.below.grown gr h.below.size (fun g' hg' => by injection hg' with hg'; omega)⟩
end
/-- a letter that was taken out, while its intents are written over, beside the net -/
structure KpC (w0 wr : World) (B sb mb gy : Nat) (en : NEn) (d : Nat) (L : Let) (P : Option Addr) (cp : Nat) (I : Option Addr) (ci : Nat) (is : List LIt) : Prop where
  net : NetAt wr B sb mb [en] d
  box : Box wr gy 26 #[.int .i64 L.kind, .int .i64 L.frm, .int .i64 L.to, .int .i64 L.a, .int .i64 L.b, .int .i64 L.c, .int .i64 L.d, .string L.s, .string L.t, .slice P L.ps.length cp, .slice I L.is.length ci, .int .i64 L.code, .bool L.yes, .string L.body]
  row : wr.ownsRow w0.heap.size 40 3 (.slice I L.is.length ci) L.is.length (liCells is)
  len : is.length = L.is.length
  off : ∀ g, (Value.slice I L.is.length ci).ownBlock = some g → (Value.slice en.Ai en.L.is.length en.ci).ownBlock ≠ some g
  below : Below w0.heap.size w0 wr
section
variable {w0 wr : World} {B sb mb gy d : Nat} {en : NEn} {L : Let} {P : Option Addr} {cp : Nat} {I : Option Addr} {ci : Nat} {is : List LIt}
theorem KpC.drewN (h : KpC w0 wr B sb mb gy en d L P cp I ci is) (q : Nat) : KpC w0 (wr.drewN q) B sb mb gy en d L P cp I ci is :=
  ⟨h.net.drewN q, h.box, h.row, h.len, h.off, ⟨h.below.os, h.below.tape, h.below.output, h.below.size, h.below.block⟩⟩
theorem KpC.store (h : KpC w0 wr B sb mb gy en d L P cp I ci is) {k g : Nat} {p : LIt} (hk : k < L.is.length) (hp : is[k]? = some p) (hg : I = some ⟨g, 0, none⟩) (b : Bool) : KpC w0 (wr.setCell ⟨g, k * 3 + 2, none⟩ (.bool b)) B sb mb gy en d L P cp I ci (is.set k ⟨p.e, p.v, b⟩) := by
  obtain ⟨g', p', e, hB, hlt, hp', -, -, hk1⟩ := li_edit h.row h.len hk
  subst hg
  injection e with e
  injection e with e
  subst e
  rw [hp] at hp'
  injection hp' with hp'
  subst hp'
  obtain ⟨o1, gr⟩ := hk1 b
  have hb1 : (Value.slice (some ⟨g, 0, none⟩) L.is.length ci).ownBlock = some g := rfl
  obtain ⟨es, c, hm⟩ := mapN_block h.net.own
  have h9 := own_no_net h.row h.net.box hm typesN.2 g hb1
  exact ⟨h.net.off gr h9 (fun q hq => by
      simp at hq
      subst hq
      exact ⟨fun e => own_own_ne h.row (h.net.rows q (by simp)).1 types3.2.2.symm hb1 g e rfl, h.off g hb1⟩),
    h.box.grown gr (fun e => own_box_ne h.row h.box types3.2.1 g hb1 (by injection e with e; exact e.symm)), o1, by simpa using h.len, h.off, h.below.grown gr h.below.size (fun g' hg' => by injection hg' with hg'; omega)⟩
end
/-- the letter's own copy behind its first new row -/
theorem keep7 {w3 w5 w6 w7 : World} {L : Let} {Ap : Option Addr} {np cp : Nat} {Ai : Option Addr} {ni ci : Nat} {Aq : Option Addr} {nq cq B g : Nat} {xs : List Value} (y6 : Box w6 w3.heap.size 26 #[.int .i64 L.kind, .int .i64 L.frm, .int .i64 L.to, .int .i64 L.a, .int .i64 L.b, .int .i64 L.c, .int .i64 L.d, .string L.s, .string L.t, .slice Ap np cp, .slice Ai ni ci, .int .i64 L.code, .bool L.yes, .string L.body]) (b5 : Below w3.heap.size w3 w5) (hg : w5.grownBy w6 (some g)) (hlt : w3.heap.size ≤ g)
    (ho : w6.ownsRow B 38 2 (.slice Aq nq cq) nq xs) (hB : w3.heap.size + 1 ≤ B) (hW : w6.setCell ⟨w3.heap.size, 9, none⟩ (.slice Aq nq cq) = w7) :
    Box w7 w3.heap.size 26 #[.int .i64 L.kind, .int .i64 L.frm, .int .i64 L.to, .int .i64 L.a, .int .i64 L.b, .int .i64 L.c, .int .i64 L.d, .string L.s, .string L.t, .slice Aq nq cq, .slice Ai ni ci, .int .i64 L.code, .bool L.yes, .string L.body] ∧ w7.ownsRow (w3.heap.size + 1) 38 2 (.slice Aq nq cq) nq xs ∧ Below w3.heap.size w3 w7 := by
  subst hW
  exact ⟨y6.set_ 9 _, own_setL (own_baseN ho hB) (Nat.lt_succ_self _), (b5.grown hg b5.size (fun g' hg' => by injection hg' with hg'; omega)).setCell (Nat.le_refl _) _⟩
theorem keep8 {w3 w7 w8 : World} {cs : Array Value} {v : Value} {m : Nat} {xs : List Value} {o : Obj} (h : Box w7 w3.heap.size 26 cs ∧ w7.ownsRow (w3.heap.size + 1) 38 2 v m xs ∧ Below w3.heap.size w3 w7) (hW : w7.alloc o = w8) :
    Box w8 w3.heap.size 26 cs ∧ w8.ownsRow (w3.heap.size + 1) 38 2 v m xs ∧ Below w3.heap.size w3 w8 := by
  subst hW
  exact ⟨h.1.alloc o, h.2.1.alloc o, h.2.2.alloc h.2.2.size o⟩
theorem keep10 {w3 w7 w8 w9 w10 : World} {L : Let} {Ap : Option Addr} {np cp : Nat} {Ai : Option Addr} {ni ci : Nat} {Ar : Option Addr} {nr cr : Nat} {cs : Array Value} {v : Value} {m : Nat} {xs ys : List Value}
    (h7 : Box w7 w3.heap.size 26 cs ∧ w7.ownsRow (w3.heap.size + 1) 38 2 v m xs ∧ Below w3.heap.size w3 w7) (h8 : Box w8 w3.heap.size 26 cs ∧ w8.ownsRow (w3.heap.size + 1) 38 2 v m xs ∧ Below w3.heap.size w3 w8)
    (ho : w9.ownsRow w7.heap.size 40 3 (.slice Ar nr cr) nr ys) (hg : w8.grownBy w9 (some w7.heap.size)) (y9 : Box w9 w3.heap.size 26 #[.int .i64 L.kind, .int .i64 L.frm, .int .i64 L.to, .int .i64 L.a, .int .i64 L.b, .int .i64 L.c, .int .i64 L.d, .string L.s, .string L.t, .slice Ap np cp, .slice Ai ni ci, .int .i64 L.code, .bool L.yes, .string L.body]) (hW : w9.setCell ⟨w3.heap.size, 10, none⟩ (.slice Ar nr cr) = w10) :
    Box w10 w3.heap.size 26 #[.int .i64 L.kind, .int .i64 L.frm, .int .i64 L.to, .int .i64 L.a, .int .i64 L.b, .int .i64 L.c, .int .i64 L.d, .string L.s, .string L.t, .slice Ap np cp, .slice Ar nr cr, .int .i64 L.code, .bool L.yes, .string L.body] ∧ w10.ownsRow (w3.heap.size + 1) 38 2 v m xs ∧ w10.ownsRow (w3.heap.size + 1) 40 3 (.slice Ar nr cr) nr ys ∧ Below w3.heap.size w3 w10 := by
  subst hW
  have hlt := h7.1.lt
  exact ⟨y9.set_ 10 _, own_setL (own_grownT h8.2.1 hg (fun b hb e => by have := (h7.2.1.lt b hb).2; omega)) (Nat.lt_succ_self _), own_setL (own_baseN ho (by omega)) (Nat.lt_succ_self _), (h8.2.2.grown hg h8.2.2.size (fun g' hg' => by injection hg' with hg'; omega)).setCell (Nat.le_refl _) _⟩
set_option maxRecDepth 100000 in
set_option maxHeartbeats 12800000 in
theorem netkeeps_walk (L : Let) (Ap : Option Addr) (np cp : Nat) (Ai : Option Addr) (ni ci : Nat) (C : Nat) (w : World) (hL : LetIn w C L Ap np Ai ni) (hC : C ≤ w.heap.size) :
    Calls Try.prog 8 #[.agg #[.int .i64 L.kind, .int .i64 L.frm, .int .i64 L.to, .int .i64 L.a, .int .i64 L.b, .int .i64 L.c, .int .i64 L.d, .string L.s, .string L.t, .slice Ap np cp, .slice Ai ni ci, .int .i64 L.code, .bool L.yes, .string L.body]] w fun e w' => e = .returned (.bool true) ∧ Below w.heap.size w w' := by
  obtain ⟨W0, hW0⟩ : ∃ W0, (w.alloc (.cells #[.int .i64 L.kind, .int .i64 L.frm, .int .i64 L.to, .int .i64 L.a, .int .i64 L.b, .int .i64 L.c, .int .i64 L.d, .string L.s, .string L.t, .slice Ap np cp, .slice Ai ni ci, .int .i64 L.code, .bool L.yes, .string L.body] 26)) = W0 := ⟨_, rfl⟩
  have b0 : Below w.heap.size w W0 := hW0 ▸ below_box _
  have x0 : Box W0 w.heap.size 26 #[.int .i64 L.kind, .int .i64 L.frm, .int .i64 L.to, .int .i64 L.a, .int .i64 L.b, .int .i64 L.c, .int .i64 L.d, .string L.s, .string L.t, .slice Ap np cp, .slice Ai ni ci, .int .i64 L.code, .bool L.yes, .string L.body] := hW0 ▸ Box.made _ _ _
  have HX : Hid (∀ wx, Below W0.heap.size W0 wx → Box wx w.heap.size 26 #[.int .i64 L.kind, .int .i64 L.frm, .int .i64 L.to, .int .i64 L.a, .int .i64 L.b, .int .i64 L.c, .int .i64 L.d, .string L.s, .string L.t, .slice Ap np cp, .slice Ai ni ci, .int .i64 L.code, .bool L.yes, .string L.body] ∧ LetIn wx C L Ap np Ai ni ∧ C ≤ wx.heap.size ∧ Below w.heap.size w wx) := Lib.hid fun wx hx =>
    ⟨x0.below hx x0.lt, hL.belowOf (b0.trans (hx.mono b0.size)) hC, Nat.le_trans hC (Nat.le_trans b0.size hx.size), b0.trans (hx.mono b0.size)⟩
  have Ha := Lib.hid (awake14_any W0)
  have HcL := Lib.hid (fun wx (hx : Below W0.heap.size W0 wx) => light13_any L Ap np cp Ai ni ci C wx (HX.out wx hx).2.1.ps (HX.out wx hx).2.1.is (HX.out wx hx).2.2.1 (HX.out wx hx).2.1.lens (HX.out wx hx).2.1.txt (HX.out wx hx).2.1.txp (HX.out wx hx).2.1.txi)
  have hln : np = L.ps.length ∧ ni = L.is.length := ⟨hL.ps.1.symm, hL.is.1.symm⟩
  obtain ⟨rfl, rfl⟩ := hln
  clear hL b0 x0
  go_enter Try.func8, Try.ntmps8
  go_wp2_with fail
  refine Ha.out.mono ?_
  rintro e w2 ⟨rfl, b2⟩
  have HB2 := Lib.hid b2
  clear b2 Ha hW0
  obtain ⟨⟨x0, x1, x2, x3, x4, x5, x6⟩, ⟨x7, x8⟩, ⟨x9, x10⟩, ⟨x11, x12, x13⟩⟩ := let_cells (HX.out w2 HB2.out).1
  go_wp2_with fail
  refine (HcL.out w2 HB2.out).mono ?_
  rintro e w3 ⟨bl, rfl, hbl, b3⟩
  have HB3 := Lib.hid (HB2.out.trans (b3.mono HB2.out.size))
  clear x0 x1 x2 x3 x4 x5 x6 x7 x8 x9 x10 x11 x12 x13 b3 HcL HB2
  cases bl with
  | false =>
    go_wp2
    go_ret
    exact ⟨rfl, (HX.out _ HB3.out).2.2.2⟩
  | true =>
  have HLL := Lib.hid (hbl rfl)
  have hnp : L.ps.length ≤ 300 := HLL.out.1
  have hni : L.is.length ≤ 300 := HLL.out.2
  clear hbl
  obtain ⟨⟨x0, x1, x2, x3, x4, x5, x6⟩, ⟨x7, x8⟩, ⟨x9, x10⟩, ⟨x11, x12, x13⟩⟩ := let_cells (HX.out w3 HB3.out).1
  obtain ⟨w4, hw4⟩ : ∃ w4, (w3.alloc (.cells #[.int .i64 L.kind, .int .i64 L.frm, .int .i64 L.to, .int .i64 L.a, .int .i64 L.b, .int .i64 L.c, .int .i64 L.d, .string L.s, .string L.t, .slice Ap L.ps.length cp, .slice Ai L.is.length ci, .int .i64 L.code, .bool L.yes, .string L.body] 26)) = w4 := ⟨_, rfl⟩
  have b4 : Below w3.heap.size w3 w4 := hw4 ▸ below_box _
  have y4 : Box w4 w3.heap.size 26 #[.int .i64 L.kind, .int .i64 L.frm, .int .i64 L.to, .int .i64 L.a, .int .i64 L.b, .int .i64 L.c, .int .i64 L.d, .string L.s, .string L.t, .slice Ap L.ps.length cp, .slice Ai L.is.length ci, .int .i64 L.code, .bool L.yes, .string L.body] := hw4 ▸ Box.made _ _ _
  have s4 : w4.heap.size = w3.heap.size + 1 := by rw [← hw4]; simp
  obtain ⟨w5, hw5⟩ : ∃ w5, w4.alloc (.cells #[] 38) = w5 := ⟨_, rfl⟩
  have b5 : Below w4.heap.size w4 w5 := hw5 ▸ below_box _
  have HO5 : Hid (w5.ownsRow w4.heap.size 38 2 (.slice (some ⟨w4.heap.size, 0, none⟩) 0 0) 0 []) := Lib.hid (hw5 ▸ own_emptyLp w4 w4.heap.size (Nat.le_refl _))
  have hB5 : Below W0.heap.size W0 w5 := HB3.out.trans ((b4.trans (b5.mono b4.size)).mono HB3.out.size)
  have HP5 := Lib.hid (HX.out w5 hB5).2.1.ps.2
  have HY5 := Lib.hid (And.intro (y4.below b5 y4.lt) (b4.trans (b5.mono b4.size)))
  have z9 : w5.cell? ⟨w.heap.size, 9, none⟩ = some (.slice Ap L.ps.length cp) := (HX.out w5 hB5).1.cell 9
  have HS4 := Lib.hid s4
  have hs45 : w4.heap.size ≤ w5.heap.size := b5.size
  clear b4 y4 s4 b5 hB5
  go_wp2_with (first
    | (at_builtin; refine wpList_append_hasN rfl (.tmp 22) (.tmp 24) _ rfl 38 lp_elem (by omega) Try.underlying22 rfl HO5.out rfl HP5.out (lpCells_one _) (by simp only [maxLen]; omega) (by omega) hs45 ?_; intro v6 w6 hown6 hg6 hz6; rw [Nat.zero_add, List.nil_append] at hown6; obtain ⟨Aq, cq, rfl, -⟩ := own_sliceN hown6; have y6 := HY5.out.1.grown hg6 (fun e => by have h1 := HS4.out; have h2 : some w3.heap.size = some w4.heap.size := e; injection h2 with h2; omega); have k9 : w6.cell? ⟨w3.heap.size, 9, none⟩ = some (.slice Ap L.ps.length cp) := y6.cell 9; have kf : w6.frozen? ⟨w3.heap.size, 9, none⟩ = false := y6.frozen 9; obtain ⟨w7, hw7⟩ : ∃ w7, w6.setCell ⟨w3.heap.size, 9, none⟩ (.slice Aq L.ps.length cq) = w7 := ⟨_, rfl⟩; have HQ7 := Lib.hid (keep7 y6 HY5.out.2 hg6 (by show w3.heap.size ≤ w4.heap.size; have := HS4.out; omega) hown6 (by have := HS4.out; omega) hw7); obtain ⟨w8, hw8⟩ : ∃ w8, w7.alloc (.cells #[] 40) = w8 := ⟨_, rfl⟩; have HO8 : Hid (w8.ownsRow w7.heap.size 40 3 (.slice (some ⟨w7.heap.size, 0, none⟩) 0 0) 0 []) := Lib.hid (hw8 ▸ own_emptyLi w7 w7.heap.size (Nat.le_refl _)); have HQ8 := Lib.hid (keep8 HQ7.out hw8); have z10 : w8.cell? ⟨w.heap.size, 10, none⟩ = some (.slice Ai L.is.length ci) := (HX.out w8 (HB3.out.trans (HQ8.out.2.2.mono HB3.out.size))).1.cell 10; have HP8 := Lib.hid (HX.out w8 (HB3.out.trans (HQ8.out.2.2.mono HB3.out.size))).2.1.is.2; have hs78 : w7.heap.size ≤ w8.heap.size := (by rw [← hw8]; simp); clear hown6 y6 hg6 hz6)
    | (at_builtin; refine wpList_append_hasN rfl (.tmp 27) (.tmp 29) _ rfl 40 li_elem (by omega) Try.underlying23 rfl HO8.out rfl HP8.out (liCells_one _) (by simp only [maxLen]; omega) (by omega) hs78 ?_; intro v9 w9 hown9 hg9 hz9; rw [Nat.zero_add, List.nil_append] at hown9; obtain ⟨Ar, cr, rfl, -⟩ := own_sliceN hown9; have y9 := HQ8.out.1.grown hg9 (fun e => by have h1 := HQ7.out.1.lt; have h2 : some w3.heap.size = some w7.heap.size := e; injection h2 with h2; omega); have k10 : w9.cell? ⟨w3.heap.size, 10, none⟩ = some (.slice Ai L.is.length ci) := y9.cell 10; have kg : w9.frozen? ⟨w3.heap.size, 10, none⟩ = false := y9.frozen 10; obtain ⟨w10, hw10⟩ : ∃ w10, w9.setCell ⟨w3.heap.size, 10, none⟩ (.slice Ar L.is.length cr) = w10 := ⟨_, rfl⟩; have HQ10 := Lib.hid (keep10 HQ7.out HQ8.out hown9 hg9 y9 hw10); clear hown9 y9 hg9 hz9))
  clear hs45 hs78 k9 kf z9 z10 k10 kg x0 x1 x2 x3 x4 x5 x6 x7 x8 x9 x10 x11 x12 x13
  have HB10 := Lib.hid (HB3.out.trans (HQ10.out.2.2.2.mono HB3.out.size))
  refine (netNew_any w10).mono ?_
  rintro e w11 ⟨sb, mb, rfl, n11, b11⟩
  have HB11 := Lib.hid (HB10.out.trans (b11.mono HB10.out.size))
  have HW0 : Hid (W0.heap.size ≤ w10.heap.size) := Lib.hid HB10.out.size
  have y11 := HQ10.out.1.below b11 HQ10.out.1.lt
  have HR : Hid (∀ wx, Kept2 sb mb w11 wx → HasLps wx wx.heap.size Aq L.ps.length L.ps ∧ HasLis wx wx.heap.size Ar L.is.length L.is) := Lib.hid fun wx hx => by
    have o1 := n11.rowKept hx (own_belowN HQ10.out.2.1 b11) typesN.1
    have o2 := n11.rowKept hx (own_belowN HQ10.out.2.2.1 b11) typesN.2
    exact ⟨⟨rfl, Has.of_ownN o1⟩, ⟨rfl, Has.of_ownN o2⟩⟩
  have hx11 := HX.out w11 HB11.out
  have Hs := Lib.hid (netSend_any n11 b11.size (by omega) L Aq L.ps.length cq Ar L.is.length cr HR.out ⟨by simp only [maxLen]; omega, by simp only [maxLen]; omega⟩ hx11.2.1.txt hx11.2.1.txp hx11.2.1.txi)
  have HN11 := Lib.hid (And.intro n11 (And.intro b11 y11))
  obtain ⟨⟨x0, x1, x2, x3, x4, x5, x6⟩, ⟨x7, x8⟩, ⟨x9, x10⟩, ⟨x11, x12, x13⟩⟩ := let_cells y11
  clear n11 b11 y11 hx11
  go_wp2_with fail
  refine Hs.out.mono ?_
  rintro e w12 hp
  clear x0 x1 x2 x3 x4 x5 x6 x7 x8 x9 x10 x11 x12 x13 Hs
  rcases hp with ⟨he, rfl, n12, b12⟩ | ⟨he, hp⟩
  · have hb0 : (L.err != 0) = true := by simpa using he
    have Hl := Lib.hid (netLen_any n12)
    have HB12 := Lib.hid (HB11.out.trans (b12.mono HB11.out.size))
    clear he n12 b12
    go_wp2_with fail
    refine Hl.out.mono ?_
    rintro e w13 ⟨rfl, b13⟩
    have HE := Lib.hid (HX.out w13 (HB12.out.trans (b13.mono HB12.out.size))).2.2.2
    clear b13
    go_wp2
    go_ret
    exact ⟨rfl, HE.out⟩
  obtain ⟨-, en, hn, hL2, rfl, n12, -, k12⟩ := hp.resolve_left (fun h => by have := h.1; simp at this)
  have y12 := HN11.out.1.boxKept k12 HN11.out.2.2 (by decide)
  have HKA : Hid (KpA w3 w12 w10.heap.size sb mb w3.heap.size en L Aq L.ps.length cq Ar L.is.length cr L.ps) := Lib.hid
    ⟨n12, y12, own_baseN (HN11.out.1.rowKept k12 (own_belowN HQ10.out.2.1 HN11.out.2.1) typesN.1) (Nat.le_succ _), rfl, fun g hg => (HQ10.out.2.1.lt g hg).2,
      (HQ10.out.2.2.2.trans (HN11.out.2.1.mono HQ10.out.2.2.2.size)).trans ((k12.below HN11.out.1.sB HN11.out.1.mB HN11.out.2.1.size).mono HQ10.out.2.2.2.size)⟩
  have HEN := Lib.hid (And.intro hn (And.intro hL2 he))
  have Htp : Hid (∀ p ∈ L.ps, p.k.size ≤ 140737488355328 ∧ p.v.size ≤ 140737488355328) := Lib.hid fun p hp => (HX.out w11 HB11.out).2.1.txp p hp
  have hS3 : Hid (w3.heap.size ≤ w10.heap.size) := Lib.hid HQ10.out.2.2.2.size
  clear hn hL2 he n12 k12 y12 hp HR HN11 HQ10
  go_wp2
  go_loopw [7] (fun iv wr => ∃ (k : Nat) (ls : List LPr), k ≤ L.ps.length ∧ iv = .int .i64 (k : Int) ∧ Hid (KpA w3 wr w10.heap.size sb mb w3.heap.size en L Aq L.ps.length cq Ar L.is.length cr ls) ∧ Hid (∀ j, k ≤ j → ls[j]? = L.ps[j]?)) (fun iv _ => L.ps.length - (intOf iv).toNat)
  case atStart => exact ⟨0, L.ps, by omega, rfl, HKA, Lib.hid fun _ _ => rfl⟩
  case round =>
    clear HKA
    obtain ⟨k, ls, hk, rfl, HK, Hj⟩ := hrel
    have x9 : wr.cell? ⟨w3.heap.size, 9, none⟩ = some (.slice Aq L.ps.length cq) := HK.out.box.cell 9
    by_cases hlt : k < L.ps.length
    · obtain ⟨g, p, rfl, hB, hg, hp, c0, c1, fz, -, -⟩ := lp_edit HK.out.row HK.out.len hlt
      have f0 := fz (k * 2)
      have hps : p.k.size ≤ 140737488355328 := (Htp.out p (by have h1 := Hj.out k (Nat.le_refl _); rw [hp] at h1; exact List.mem_of_getElem? h1.symm)).1
      have hk0 : (0 : Int) ≤ (k : Int) := by omega
      have hk1 : (k : Int) < (L.ps.length : Int) := by omega
      have HE : Hid (∀ q, KpA w3 ((wr.setCell ⟨g, k * 2, none⟩ (.string (p.k ++ ⟨#[33]⟩))).drewN q) w10.heap.size sb mb w3.heap.size en L (some ⟨g, 0, none⟩) L.ps.length cq Ar L.is.length cr (ls.set k ⟨p.k ++ ⟨#[33]⟩, p.v⟩)) := Lib.hid fun q => (HK.out.store hlt hp rfl _).drewN q
      have HJ : Hid (∀ j, k + 1 ≤ j → (ls.set k ⟨p.k ++ ⟨#[33]⟩, p.v⟩)[j]? = L.ps[j]?) := Lib.hid fun j hj => by rw [List.getElem?_set_ne (by omega)]; exact Hj.out j (by omega)
      clear hp c1 fz hB hg
      go_wp2
      go_region
      all_goals
        go_wp2
        go_roundw
        case rel => exact ⟨k + 1, _, by omega, by go_num, Lib.hid (HE.out 1), HJ⟩
        case measure => simp [intOf]; omega
    · have hlt' : ¬ (k : Int) < (L.ps.length : Int) := by omega
      clear hlt Hj
      obtain ⟨n, Ep, ep, Ei, ei, L2⟩ := en
      have hn := HEN.out.1
      have hL2 := HEN.out.2.1
      simp only at hn hL2
      subst hn hL2
      have hBr := HB3.out.trans (HK.out.below.mono HB3.out.size)
      have hSr : w10.heap.size ≤ wr.heap.size := by have h1 := HK.out.net.sB; have h2 := HK.out.net.lt.1; omega
      have Ht := Lib.hid (netTwice_any HK.out.net hSr (by omega) 1 (wf_small 1 (by omega) (by omega)))
      have HBr := Lib.hid hBr
      have HSr := Lib.hid hSr
      clear hBr hSr
      go_wp2_with fail
      refine Ht.out.mono ?_
      rintro e w14 hp
      rcases hp with ⟨hg, -⟩ | ⟨e0, hg, hp⟩
      · exact absurd hg (by simp [getN])
      obtain rfl : e0 = (⟨((0 + 1 : Nat) : Int), Ep, ep, Ei, ei, L2⟩ : NEn) := by simpa [getN] using hg.symm
      obtain ⟨-, en2, hn2, hL3, rfl, n14, o14, k14⟩ := hp.resolve_left (fun h => by have := h.1; simp at this)
      obtain ⟨n2, Fp, fp, Fi, fi, L3⟩ := en2
      simp only at hn2 hL3
      subst hn2 hL3
      have hB14 := HBr.out.trans (k14.below (Nat.le_trans HW0.out HK.out.net.sB) (Nat.le_trans HW0.out HK.out.net.mB) HBr.out.size)
      have hS14 : w10.heap.size ≤ w14.heap.size := Nat.le_trans HSr.out k14.size
      have HOF : Hid (∀ g, (Value.slice Ei L3.is.length ei).ownBlock = some g → (Value.slice Fi L3.is.length fi).ownBlock ≠ some g) := Lib.hid fun g h1 h2 => by
        have a1 := ((HK.out.net.rows (⟨((0 + 1 : Nat) : Int), Ep, ep, Ei, ei, L3⟩ : NEn) (by simp)).2.lt g h1).2
        have a2 := (o14.2.lt g h2).1
        omega
      have Hk := Lib.hid (netLook_any n14 1 (wf_small 1 (by omega) (by omega)))
      have HN14 := Lib.hid (And.intro n14 (And.intro hB14 hS14))
      clear hg hp n14 o14 k14 hB14 hS14 Ht HK
      go_wp2_with fail
      refine Hk.out.mono ?_
      rintro e w15 ⟨Xp, cx, Xi, dx, rfl, o1, o2, n15, b15⟩
      have hlk : lookL 1 ([(⟨((0 + 1 : Nat) : Int), Ep, ep, Ei, ei, L3⟩ : NEn)] ++ [(⟨((0 + 1 + 1 : Nat) : Int), Fp, fp, Fi, fi, L3⟩ : NEn)]) = L3 := by simp [lookL, getN]
      have his : (getN 1 ([(⟨((0 + 1 : Nat) : Int), Ep, ep, Ei, ei, L3⟩ : NEn)] ++ [(⟨((0 + 1 + 1 : Nat) : Int), Fp, fp, Fi, fi, L3⟩ : NEn)])).isSome = true := by simp [getN]
      rw [hlk] at o1 o2
      rw [hlk, his]
      obtain ⟨w16, hw16⟩ : ∃ w16, (w15.alloc (.cells #[.int .i64 L3.kind, .int .i64 L3.frm, .int .i64 L3.to, .int .i64 L3.a, .int .i64 L3.b, .int .i64 L3.c, .int .i64 L3.d, .string L3.s, .string L3.t, .slice Xp L3.ps.length cx, .slice Xi L3.is.length dx, .int .i64 L3.code, .bool L3.yes, .string L3.body] 26)) = w16 := ⟨_, rfl⟩
      have b16 : Below w15.heap.size w15 w16 := hw16 ▸ below_box _
      have HKB : Hid (KpB w14 w16 w15.heap.size L3 Xp cx Xi dx L3.ps) := Lib.hid ⟨hw16 ▸ Box.made _ _ _, o1.below b16, rfl, b15.trans (b16.mono b15.size)⟩
      clear o1 o2 n15 b15 b16 hlk his Hk
      go_wp2
      clear hw16
      generalize w15.heap.size = gx at *
      go_loopw [10] (fun iv wr => ∃ (k : Nat) (ls : List LPr), k ≤ L3.ps.length ∧ iv = .int .i64 (k : Int) ∧ Hid (KpB w14 wr gx L3 Xp cx Xi dx ls) ∧ Hid (∀ j, k ≤ j → ls[j]? = L3.ps[j]?)) (fun iv _ => L3.ps.length - (intOf iv).toNat)
      case atStart => exact ⟨0, L3.ps, by omega, rfl, HKB, Lib.hid fun _ _ => rfl⟩
      case round =>
        clear HKB
        obtain ⟨j, lt, hj, rfl, HM, Hj⟩ := hrel
        have x9 : wr.cell? ⟨gx, 9, none⟩ = some (.slice Xp L3.ps.length cx) := HM.out.box.cell 9
        by_cases hlt : j < L3.ps.length
        · obtain ⟨g, p, rfl, hB, hg, hp, c0, c1, fz, -, -⟩ := lp_edit HM.out.row HM.out.len hlt
          have f1 := fz (j * 2 + 1)
          have hps : p.v.size ≤ 140737488355328 := (Htp.out p (by have h1 := Hj.out j (Nat.le_refl _); rw [hp] at h1; exact List.mem_of_getElem? h1.symm)).2
          have hj0 : (0 : Int) ≤ (j : Int) := by omega
          have hj1 : (j : Int) < (L3.ps.length : Int) := by omega
          have HE : Hid (∀ q, KpB w14 ((wr.setCell ⟨g, j * 2 + 1, none⟩ (.string (p.v ++ ⟨#[33]⟩))).drewN q) gx L3 (some ⟨g, 0, none⟩) cx Xi dx (lt.set j ⟨p.k, p.v ++ ⟨#[33]⟩⟩)) := Lib.hid fun q => (HM.out.store hlt hp rfl _).drewN q
          have HJ : Hid (∀ i, j + 1 ≤ i → (lt.set j ⟨p.k, p.v ++ ⟨#[33]⟩⟩)[i]? = L3.ps[i]?) := Lib.hid fun i hi => by rw [List.getElem?_set_ne (by omega)]; exact Hj.out i (by omega)
          clear hp c0 fz hB hg
          go_wp2
          go_region
          all_goals
            go_wp2
            go_roundw
            case rel => exact ⟨j + 1, _, by omega, by go_num, Lib.hid (HE.out 1), HJ⟩
            case measure => simp [intOf]; omega
        · have hlt' : ¬ (j : Int) < (L3.ps.length : Int) := by omega
          clear hlt Hj
          have hn17 := HN14.out.1.below HM.out.below
          have hB17 := HN14.out.2.1.trans (HM.out.below.mono HN14.out.2.1.size)
          have Hd := Lib.hid (netDeliver_any hn17 1 (wf_small 1 (by omega) (by omega)))
          have HN17 := Lib.hid (And.intro hn17 (And.intro hB17 (Nat.le_trans HN14.out.2.2 HM.out.below.size)))
          clear hn17 hB17 HM HN14
          go_wp2_with fail
          refine Hd.out.mono ?_
          rintro e w18 hp
          rcases hp with ⟨hg, -⟩ | ⟨e0, hg, rfl, n18, o18, k18⟩
          · exact absurd hg (by simp [getN])
          obtain rfl : e0 = (⟨((0 + 1 : Nat) : Int), Ep, ep, Ei, ei, L3⟩ : NEn) := by simpa [getN] using hg.symm
          have hdl : delN 1 ([(⟨((0 + 1 : Nat) : Int), Ep, ep, Ei, ei, L3⟩ : NEn)] ++ [(⟨((0 + 1 + 1 : Nat) : Int), Fp, fp, Fi, fi, L3⟩ : NEn)]) = [(⟨((0 + 1 + 1 : Nat) : Int), Fp, fp, Fi, fi, L3⟩ : NEn)] := by simp [delN]
          rw [hdl] at n18
          obtain ⟨w19, hw19⟩ : ∃ w19, (w18.alloc (.cells #[.int .i64 L3.kind, .int .i64 L3.frm, .int .i64 L3.to, .int .i64 L3.a, .int .i64 L3.b, .int .i64 L3.c, .int .i64 L3.d, .string L3.s, .string L3.t, .slice Ep L3.ps.length ep, .slice Ei L3.is.length ei, .int .i64 L3.code, .bool L3.yes, .string L3.body] 26)) = w19 := ⟨_, rfl⟩
          have b19 : Below w18.heap.size w18 w19 := hw19 ▸ below_box _
          have hb10 : Below w10.heap.size wr w18 := k18.below HN17.out.1.sB HN17.out.1.mB HN17.out.2.2
          have hb18 : Below W0.heap.size W0 w18 := HN17.out.2.1.trans (k18.below (Nat.le_trans HW0.out HN17.out.1.sB) (Nat.le_trans HW0.out HN17.out.1.mB) HN17.out.2.1.size)
          have HKC : Hid (KpC W0 w19 w10.heap.size sb mb w18.heap.size (⟨((0 + 1 + 1 : Nat) : Int), Fp, fp, Fi, fi, L3⟩ : NEn) 2 L3 Ep ep Ei ei L3.is) := Lib.hid ⟨n18.below b19, hw19 ▸ Box.made _ _ _, own_baseN (o18.2.below b19) HW0.out, rfl, HOF.out, hb18.trans (b19.mono hb18.size)⟩
          clear hg n18 o18 k18 hdl b19 hb10 hb18 Hd HN17
          dsimp only
          go_wp2
          clear hw19
          generalize w18.heap.size = gy at *
          go_loopw [13] (fun iv wr => ∃ (k : Nat) (is : List LIt), k ≤ L3.is.length ∧ iv = .int .i64 (k : Int) ∧ Hid (KpC W0 wr w10.heap.size sb mb gy (⟨((0 + 1 + 1 : Nat) : Int), Fp, fp, Fi, fi, L3⟩ : NEn) 2 L3 Ep ep Ei ei is)) (fun iv _ => L3.is.length - (intOf iv).toNat)
          case atStart => exact ⟨0, L3.is, by omega, rfl, HKC⟩
          case round =>
            clear HKC
            obtain ⟨i, is, hi, rfl, HC⟩ := hrel
            have x10 : wr.cell? ⟨gy, 10, none⟩ = some (.slice Ei L3.is.length ei) := HC.out.box.cell 10
            by_cases hlt : i < L3.is.length
            · obtain ⟨g, p, rfl, hB, hg, hp, c2, fz, -⟩ := li_edit HC.out.row HC.out.len hlt
              have f2 := fz (i * 3 + 2)
              have hi0 : (0 : Int) ≤ (i : Int) := by omega
              have hi1 : (i : Int) < (L3.is.length : Int) := by omega
              have HE : Hid (∀ q, KpC W0 ((wr.setCell ⟨g, i * 3 + 2, none⟩ (.bool (!p.g))).drewN q) w10.heap.size sb mb gy (⟨((0 + 1 + 1 : Nat) : Int), Fp, fp, Fi, fi, L3⟩ : NEn) 2 L3 Ep ep (some ⟨g, 0, none⟩) ei (is.set i ⟨p.e, p.v, !p.g⟩)) := Lib.hid fun q => (HC.out.store hlt hp rfl _).drewN q
              clear hp fz hB hg
              go_wp2
              go_region
              all_goals
                go_wp2
                go_roundw
                case rel => exact ⟨i + 1, _, by omega, by go_num, Lib.hid (HE.out 1)⟩
                case measure => simp [intOf]; omega
            · have hlt' : ¬ (i : Int) < (L3.is.length : Int) := by omega
              clear hlt
              have Hd := Lib.hid (netDeliver_any HC.out.net 2 (wf_small 2 (by omega) (by omega)))
              have HN20 := Lib.hid (And.intro HC.out.net HC.out.below)
              clear HC
              go_wp2_with fail
              refine Hd.out.mono ?_
              rintro e w21 hp
              rcases hp with ⟨hg, -⟩ | ⟨e0, hg, rfl, n21, o21, k21⟩
              · exact absurd hg (by simp [getN])
              obtain rfl : e0 = (⟨((0 + 1 + 1 : Nat) : Int), Fp, fp, Fi, fi, L3⟩ : NEn) := by simpa [getN] using hg.symm
              have hdl : delN 2 [(⟨((0 + 1 + 1 : Nat) : Int), Fp, fp, Fi, fi, L3⟩ : NEn)] = [] := by simp [delN]
              rw [hdl] at n21
              obtain ⟨w22, hw22⟩ : ∃ w22, (w21.alloc (.cells #[.int .i64 L3.kind, .int .i64 L3.frm, .int .i64 L3.to, .int .i64 L3.a, .int .i64 L3.b, .int .i64 L3.c, .int .i64 L3.d, .string L3.s, .string L3.t, .slice Fp L3.ps.length fp, .slice Fi L3.is.length fi, .int .i64 L3.code, .bool L3.yes, .string L3.body] 26)) = w22 := ⟨_, rfl⟩
              have b22 : Below w21.heap.size w21 w22 := hw22 ▸ below_box _
              have z22 : Box w22 w21.heap.size 26 #[.int .i64 L3.kind, .int .i64 L3.frm, .int .i64 L3.to, .int .i64 L3.a, .int .i64 L3.b, .int .i64 L3.c, .int .i64 L3.d, .string L3.s, .string L3.t, .slice Fp L3.ps.length fp, .slice Fi L3.is.length fi, .int .i64 L3.code, .bool L3.yes, .string L3.body] := hw22 ▸ Box.made _ _ _
              have hb22 := (HN20.out.2.trans (k21.below (Nat.le_trans HW0.out HN20.out.1.sB) (Nat.le_trans HW0.out HN20.out.1.mB) HN20.out.2.size)).trans (b22.mono (Nat.le_trans HN20.out.2.size k21.size))
              have hx := HX.out w22 hb22
              obtain ⟨A1, c1, e1, -, m1, k1⟩ := (o21.1.below b22).slice
              obtain ⟨A2, c2, e2, -, m2, k2⟩ := (o21.2.below b22).slice
              injection e1 with e1 _ e1'
              injection e2 with e2 _ e2'
              subst e1 e2
              have hs := sameL_any L3 L3 Fp L3.ps.length fp Fi L3.is.length fi Ap L3.ps.length cp Ai L3.is.length ci w22.heap.size w22 k1 k2 (hx.2.1.ps.more hx.2.2.1) (hx.2.1.is.more hx.2.2.1) (Nat.le_refl _) hx.2.1.lens hx.2.1.lens
              rw [decide_eq_true rfl] at hs
              have Hs := Lib.hid hs
              have HL : Hid (∀ wx, Below w22.heap.size w22 wx → Calls Try.prog 34 #[.pointer (some ⟨sb, 0, none⟩)] wx fun e w' => e = .returned (.int .i64 0) ∧ Below wx.heap.size wx w') := Lib.hid fun wx hx => netLen_any ((n21.below b22).below hx)
              have HB22 := Lib.hid hb22
              obtain ⟨⟨x0, x1, x2, x3, x4, x5, x6⟩, ⟨x7, x8⟩, ⟨x9, q10⟩, ⟨x11, x12, x13⟩⟩ := let_cells z22
              obtain ⟨⟨y0, y1, y2, y3, y4, y5, y6⟩, ⟨y7, y8⟩, ⟨y9, y10⟩, ⟨y11, y12, y13⟩⟩ := let_cells hx.1
              clear hg n21 o21 k21 hdl b22 z22 hb22 hx k1 k2 hs Hd HN20 e1' e2' m1 m2
              dsimp only
              go_wp2_with fail
              refine Hs.out.mono ?_
              rintro e w23 ⟨rfl, b23⟩
              have Hl := Lib.hid (HL.out w23 b23)
              have HB23 := Lib.hid (HB22.out.trans (b23.mono HB22.out.size))
              clear x0 x1 x2 x3 x4 x5 x6 x7 x8 x9 x10 x11 x12 x13 y0 y1 y2 y3 y4 y5 y6 y7 y8 y9 y10 y11 y12 y13 b23 HL Hs
              go_wp2_with fail
              refine Hl.out.mono ?_
              rintro e w24 ⟨rfl, b24⟩
              have HE := Lib.hid (HX.out w24 (HB23.out.trans (b24.mono HB23.out.size))).2.2.2
              clear b24
              go_wp2
              go_ret
              exact ⟨rfl, HE.out⟩

namespace lawNetKeeps
open Go.ChangeShapes Go.WideShapes Go.ChangeAt

theorem own : ownKnob Try.prog.godebug = none := by kernel_rfl
theorem kids : Kids Try.prog (· < Try.prog.types.size) := kids_rows (by kernel_rfl) (by kernel_rfl)
theorem full : ∀ t e, t < Try.prog.types.size → Try.prog.underlying t = some (.slice e) → 0 < Try.prog.cellsOf e := slices_full_of Try.prog (by kernel_rfl)

set_option maxRecDepth 100000 in
theorem lifted (os : Os) (started : os.Started) (H : Type) (enc : TypeId × Value → H) :
    ReturnsInHanded {} Try.checked os 8 .any (Rows.netKeepsSpec.pre6 enc Try.prog Try.f8 Rows.netKeepsRow.domain false) (Rows.netKeepsSpec.post enc Try.prog Try.f8 false true false false) := by
  refine returnsInHanded_of_change_sized (C := Try.checked) own started (by kernel_rfl) Try.func8
    (ChangeSpec.witness6 (enc := enc) (C := Try.checked) false ⟨#[], #[.agg #[.int .i64 0, .int .i64 0, .int .i64 0, .int .i64 0, .int .i64 0, .int .i64 0, .int .i64 0, .string ⟨#[]⟩, .string ⟨#[]⟩, .slice none 0 0, .slice none 0 0, .int .i64 0, .bool false, .string ⟨#[]⟩]], []⟩ 8 (by kernel_rfl) (by kernel_rfl) (by kernel_rfl) (by kernel_rfl)) ?_
  intro W base args ds gs before hval0 hW _ hz _
  have hval : ∀ (j : Nat) t v, Try.f8.params[j]? = some t → args[j]? = some v → Value.okWide Try.prog W .any base t v := hval0
  have hW' := hW
  obtain ⟨p, q, hA0, hV, rfl, _, _⟩ := hW
  obtain ⟨rfl, rfl⟩ := trodVars_none hV
  have hA : DataW.TrodAll enc Try.prog W 0 (fun _ => true) true Try.f8.params.toList args.toList ds p := hA0
  rw [Try.params8] at hA hval
  obtain ⟨v0, vs0, d0, ds0, p0, q0, hargs, rfl, rfl, h0, r0⟩ := trodAll_cons hA
  obtain ⟨rfl, rfl, rfl⟩ := trodAll_nil r0
  obtain rfl : args = #[v0] := by cases args; simp_all
  have hlt := hW'.lt
  obtain ⟨L0, Ap0, np0, cp0, Ai0, ni0, ci0, rfl, hp0, hi0, hl0, ht0, htp0, hti0⟩ := open_letter (hval 0 26 v0 rfl rfl) h0 (fun k hk => of_decide_eq_true (List.all_eq_true.1 hz _ (DataW.weights_mem_each (j := 0) (d := d0) rfl rfl k hk))) (fun x hx => hlt x (by simp [hx]))
  refine (netkeeps_walk L0 Ap0 np0 cp0 Ai0 ni0 ci0 W.heap.size W ⟨hp0, hi0, hl0, ht0, htp0, hti0⟩ (Nat.le_refl _)).mono fun e W' ⟨he, hbel⟩ => ?_
  subst he
  exact ⟨_, rfl, law_post kids full (of_decide_eq_true (by kernel_rfl)) Try.underlying4 rfl rfl rfl hW' hbel⟩

theorem proved : Rows.NetKeepsSaid :=
  OpenClaim.holds_of_wide 8 Try.f8 rfl rfl rfl rfl rfl rfl rfl ⟨rfl, rfl, rfl, rfl, rfl⟩ rfl rfl rfl rfl rfl (by kernel_rfl) Try.func8 (by kernel_rfl)
    (of_decide_eq_true (by kernel_rfl)) (by unfold Func.isWrapper; first | (rw [if_pos (by decide +kernel)]; kernel_rfl) | (rw [if_neg (by decide +kernel)]; exact ⟨rfl, rfl⟩))
    (fun os started H enc _ => lifted os started H enc)
end lawNetKeeps

end Go.Proofs.Ytabcoidjbigdbaa

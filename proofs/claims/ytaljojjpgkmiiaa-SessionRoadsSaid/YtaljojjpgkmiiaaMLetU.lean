/- A letter stored in a box, as one step of a drawn region that is walked by hand. No condition. -/
import Derived.Test.YtaljojjpgkmiiaaMLet
import Derived.Laws.OwnMore
namespace Go.Proofs.Ytaljojjpgkmiiaa
open Go.RowKit
open Go.Lib (strCells)

def CopyPost (L : Let) (w : World) (e : Ending) (w' : World) : Prop := ∃ (Ap : Option Addr) (cp : Nat) (Ai : Option Addr) (ci : Nat), e = .returned (.agg #[.int .i64 L.kind, .int .i64 L.frm, .int .i64 L.to, .int .i64 L.a, .int .i64 L.b, .int .i64 L.c, .int .i64 L.d, .string L.s, .string L.t, .slice Ap L.ps.length cp, .slice Ai L.is.length ci, .int .i64 L.code, .bool L.yes, .string L.body]) ∧
  OwnLps w' (w.heap.size + 1) (.slice Ap L.ps.length cp) L.ps ∧ OwnLis w' (w.heap.size + 1) (.slice Ai L.is.length ci) L.is ∧ Below w.heap.size w w'
/-- what is known while a letter is copied -/
structure CyS (w : World) (cs : Array Value) (wx : World) : Prop where
  box : Box wx w.heap.size 69 cs
  res : Box wx (w.heap.size + 1) 69 #[.int .i64 0, .int .i64 0, .int .i64 0, .int .i64 0, .int .i64 0, .int .i64 0, .int .i64 0, .string ⟨#[]⟩, .string ⟨#[]⟩, .slice none 0 0, .slice none 0 0, .int .i64 0, .bool false, .string ⟨#[]⟩]
  below : Below w.heap.size w wx
section
variable {w wx w' : World} {cs : Array Value}
theorem CyS.start (w : World) (cs : Array Value) : CyS w cs ((w.alloc (.cells cs 69)).alloc (.cells #[.int .i64 0, .int .i64 0, .int .i64 0, .int .i64 0, .int .i64 0, .int .i64 0, .int .i64 0, .string ⟨#[]⟩, .string ⟨#[]⟩, .slice none 0 0, .slice none 0 0, .int .i64 0, .bool false, .string ⟨#[]⟩] 69)).drew :=
  ⟨(Box.made _ _ _).alloc _, by have := Box.made (w.alloc (.cells cs 69)) 69 #[.int .i64 0, .int .i64 0, .int .i64 0, .int .i64 0, .int .i64 0, .int .i64 0, .int .i64 0, .string ⟨#[]⟩, .string ⟨#[]⟩, .slice none 0 0, .slice none 0 0, .int .i64 0, .bool false, .string ⟨#[]⟩]; rwa [World.size_alloc] at this, ((below_box _).alloc (by simp) _).drew⟩
theorem CyS.call (h : CyS w cs wx) (hb : Below wx.heap.size wx w') : CyS w cs w' :=
  ⟨h.box.below hb h.box.lt, h.res.below hb h.res.lt, h.below.trans (hb.mono h.below.size)⟩
theorem CyS.set (h : CyS w cs wx) (i : Nat) (u : Value) : CyS w (cs.setIfInBounds i u) (wx.setCell ⟨w.heap.size, i, none⟩ u) :=
  ⟨h.box.set_ i u, h.res.far (by show w.heap.size + 1 ≠ w.heap.size; omega) _, h.below.setCell (Nat.le_refl _) _⟩
end
def CyC (w : World) (L : Let) (cs : Array Value) (wx : World) : Prop :=
  ((wx.cell? ⟨w.heap.size, 7, none⟩ = some (.string L.s) ∧ wx.cell? ⟨w.heap.size, 8, none⟩ = some (.string L.t) ∧ wx.cell? ⟨w.heap.size, 13, none⟩ = some (.string L.body)) ∧
    (wx.frozen? ⟨w.heap.size, 7, none⟩ = false ∧ wx.frozen? ⟨w.heap.size, 8, none⟩ = false ∧ wx.frozen? ⟨w.heap.size, 13, none⟩ = false)) ∧ CyS w cs wx
theorem CyS.both {w wx : World} {L : Let} {Ap : Option Addr} {np cp : Nat} {Ai : Option Addr} {ni ci : Nat} (h : CyS w #[.int .i64 L.kind, .int .i64 L.frm, .int .i64 L.to, .int .i64 L.a, .int .i64 L.b, .int .i64 L.c, .int .i64 L.d, .string L.s, .string L.t, .slice Ap np cp, .slice Ai ni ci, .int .i64 L.code, .bool L.yes, .string L.body] wx) : CyC w L #[.int .i64 L.kind, .int .i64 L.frm, .int .i64 L.to, .int .i64 L.a, .int .i64 L.b, .int .i64 L.c, .int .i64 L.d, .string L.s, .string L.t, .slice Ap np cp, .slice Ai ni ci, .int .i64 L.code, .bool L.yes, .string L.body] wx :=
  ⟨⟨⟨h.box.cell 7, h.box.cell 8, h.box.cell 13⟩, h.box.frozen 7, h.box.frozen 8, h.box.frozen 13⟩, h⟩
theorem CyS.set7 {w wx : World} {L : Let} {Ap : Option Addr} {np cp : Nat} {Ai : Option Addr} {ni ci : Nat} (h : CyS w #[.int .i64 L.kind, .int .i64 L.frm, .int .i64 L.to, .int .i64 L.a, .int .i64 L.b, .int .i64 L.c, .int .i64 L.d, .string L.s, .string L.t, .slice Ap np cp, .slice Ai ni ci, .int .i64 L.code, .bool L.yes, .string L.body] wx) : CyS w #[.int .i64 L.kind, .int .i64 L.frm, .int .i64 L.to, .int .i64 L.a, .int .i64 L.b, .int .i64 L.c, .int .i64 L.d, .string L.s, .string L.t, .slice Ap np cp, .slice Ai ni ci, .int .i64 L.code, .bool L.yes, .string L.body] (wx.setCell ⟨w.heap.size, 7, none⟩ (.string L.s)) := h.set 7 _
theorem CyS.set8 {w wx : World} {L : Let} {Ap : Option Addr} {np cp : Nat} {Ai : Option Addr} {ni ci : Nat} (h : CyS w #[.int .i64 L.kind, .int .i64 L.frm, .int .i64 L.to, .int .i64 L.a, .int .i64 L.b, .int .i64 L.c, .int .i64 L.d, .string L.s, .string L.t, .slice Ap np cp, .slice Ai ni ci, .int .i64 L.code, .bool L.yes, .string L.body] wx) : CyS w #[.int .i64 L.kind, .int .i64 L.frm, .int .i64 L.to, .int .i64 L.a, .int .i64 L.b, .int .i64 L.c, .int .i64 L.d, .string L.s, .string L.t, .slice Ap np cp, .slice Ai ni ci, .int .i64 L.code, .bool L.yes, .string L.body] (wx.setCell ⟨w.heap.size, 8, none⟩ (.string L.t)) := h.set 8 _
theorem CyS.set13 {w wx : World} {L : Let} {Ap : Option Addr} {np cp : Nat} {Ai : Option Addr} {ni ci : Nat} (h : CyS w #[.int .i64 L.kind, .int .i64 L.frm, .int .i64 L.to, .int .i64 L.a, .int .i64 L.b, .int .i64 L.c, .int .i64 L.d, .string L.s, .string L.t, .slice Ap np cp, .slice Ai ni ci, .int .i64 L.code, .bool L.yes, .string L.body] wx) : CyS w #[.int .i64 L.kind, .int .i64 L.frm, .int .i64 L.to, .int .i64 L.a, .int .i64 L.b, .int .i64 L.c, .int .i64 L.d, .string L.s, .string L.t, .slice Ap np cp, .slice Ai ni ci, .int .i64 L.code, .bool L.yes, .string L.body] (wx.setCell ⟨w.heap.size, 13, none⟩ (.string L.body)) := h.set 13 _
theorem own_setL {w : World} {B m size g i : Nat} {e : TypeId} {v u : Value} {xs : List Value} (h : w.ownsRow B e size v m xs) (hg : g < B) : (w.setCell ⟨g, i, none⟩ u).ownsRow B e size v m xs := by
  refine ⟨h.1, ?_⟩
  rcases h.2 with hn | ⟨b, cap, cur, rfl, hB, hb, rest⟩
  · exact .inl hn
  · exact .inr ⟨b, cap, cur, rfl, hB, (Below.heap_setCell w ⟨g, i, none⟩ u b (by show b ≠ g; omega)).trans hb, rest⟩
theorem own_grownL {w w' : World} {B m size g : Nat} {e : TypeId} {v : Value} {xs : List Value} (h : w.ownsRow B e size v m xs) (hg : w.grownBy w' (some g)) (hB : g < B) : w'.ownsRow B e size v m xs := by
  refine ⟨h.1, ?_⟩
  rcases h.2 with hn | ⟨b, cap, cur, rfl, hB', hb, rest⟩
  · exact .inl hn
  · exact .inr ⟨b, cap, cur, rfl, hB', (hg.block b (Array.getElem?_eq_some_iff.1 hb).1 (by intro e; injection e with e; omega)).trans hb, rest⟩
set_option maxRecDepth 100000 in
set_option maxHeartbeats 6400000 in
theorem copy_any (L : Let) (Ap : Option Addr) (np cp : Nat) (Ai : Option Addr) (ni ci : Nat) (C : Nat) (w : World) (hP : HasLps w C Ap np L.ps) (hI : HasLis w C Ai ni L.is) (hC : C ≤ w.heap.size) (hn : np ≤ 1000000 ∧ ni ≤ 1000000) (ht : ∀ s ∈ L.txts, s.size ≤ 140737488355328) (htp : ∀ p ∈ L.ps, p.k.size ≤ 140737488355328 ∧ p.v.size ≤ 140737488355328) (hti : ∀ p ∈ L.is, p.e.size ≤ 140737488355328) :
    Calls Try.prog 59 #[.agg #[.int .i64 L.kind, .int .i64 L.frm, .int .i64 L.to, .int .i64 L.a, .int .i64 L.b, .int .i64 L.c, .int .i64 L.d, .string L.s, .string L.t, .slice Ap np cp, .slice Ai ni ci, .int .i64 L.code, .bool L.yes, .string L.body]] w (CopyPost L w) := by
  have s7 : L.s.size ≤ 140737488355328 := ht _ (by simp [Let.txts])
  have s8 : L.t.size ≤ 140737488355328 := ht _ (by simp [Let.txts])
  have s9 : L.body.size ≤ 140737488355328 := ht _ (by simp [Let.txts])
  have HcP : Hid (∀ wx, Below w.heap.size w wx → Calls Try.prog 95 #[.slice Ap np cp, .func (.func 96) #[] #[]] wx fun e w' => ∃ v, e = .returned v ∧ OwnLps w' wx.heap.size v L.ps ∧ Below wx.heap.size wx w') := Lib.hid fun wx hx =>
    copiesP_any Ap np cp C L.ps wx (hP.belowOf hx hC) hn.1 (Nat.le_trans hC hx.size) htp
  have HcI : Hid (∀ wx, Below w.heap.size w wx → Calls Try.prog 97 #[.slice Ai ni ci, .func (.func 98) #[] #[]] wx fun e w' => ∃ v, e = .returned v ∧ OwnLis w' wx.heap.size v L.is ∧ Below wx.heap.size wx w') := Lib.hid fun wx hx =>
    copiesI_any Ai ni ci C L.is wx (hI.belowOf hx hC) hn.2 (Nat.le_trans hC hx.size) hti
  have HS := Lib.hid (CyS.start w #[.int .i64 L.kind, .int .i64 L.frm, .int .i64 L.to, .int .i64 L.a, .int .i64 L.b, .int .i64 L.c, .int .i64 L.d, .string L.s, .string L.t, .slice Ap np cp, .slice Ai ni ci, .int .i64 L.code, .bool L.yes, .string L.body]).both
  unfold CyC at HS
  clear hP hI hC hn ht htp hti
  go_enter Try.func59, Try.ntmps59
  go_wp2
  go_region_held3 (fun wx => ((wx.cell? ⟨w.heap.size, 7, none⟩ = some (.string L.s) ∧ wx.cell? ⟨w.heap.size, 8, none⟩ = some (.string L.t) ∧ wx.cell? ⟨w.heap.size, 13, none⟩ = some (.string L.body)) ∧
      (wx.frozen? ⟨w.heap.size, 7, none⟩ = false ∧ wx.frozen? ⟨w.heap.size, 8, none⟩ = false ∧ wx.frozen? ⟨w.heap.size, 13, none⟩ = false)) ∧ CyS w #[.int .i64 L.kind, .int .i64 L.frm, .int .i64 L.to, .int .i64 L.a, .int .i64 L.b, .int .i64 L.c, .int .i64 L.d, .string L.s, .string L.t, .slice Ap np cp, .slice Ai ni ci, .int .i64 L.code, .bool L.yes, .string L.body] wx)
    (first | exact HS.out | exact CyS.both (CyS.call (And.right (by assumption)) hb) | exact CyS.both (CyS.set7 (And.right (by assumption))) | exact CyS.both (CyS.set8 (And.right (by assumption))) | exact CyS.both (CyS.set13 (And.right (by assumption))))
    (first | (go_at_call 61; refine (clone_any _ _ (by first | exact s7 | exact s8 | exact s9)).mono ?_; rintro e w' ⟨rfl, hb⟩))
  all_goals
    have hS := ‹_ ∧ CyS w _ (World.setCell _ _ _)›.2
    clear ‹_ ∧ CyS w _ (World.setCell _ _ _)›
    generalize (World.setCell (World.setCell (World.setCell _ _ _) _ _) _ _ : World) = wz at hS ⊢
    have HSz := Lib.hid hS
    have q9 : wz.cell? ⟨w.heap.size, 9, none⟩ = some (.slice Ap np cp) := hS.box.cell 9
    clear hS HS s7 s8 s9 hb
    go_wp2_with fail
    refine (HcP.out wz HSz.out.below).mono ?_
    rintro e w2 ⟨vp, rfl, op, b2⟩
    have hk2 := (HSz.out.call b2)
    obtain ⟨Aq, cq, rfl, -⟩ := OwnLps.slice op
    have r9 : w2.cell? ⟨w.heap.size, 9, none⟩ = some (.slice Ap np cp) := hk2.box.cell 9
    have f9 : w2.frozen? ⟨w.heap.size, 9, none⟩ = false := hk2.box.frozen 9
    have hk3 : CyS w #[.int .i64 L.kind, .int .i64 L.frm, .int .i64 L.to, .int .i64 L.a, .int .i64 L.b, .int .i64 L.c, .int .i64 L.d, .string L.s, .string L.t, .slice Aq L.ps.length cq, .slice Ai ni ci, .int .i64 L.code, .bool L.yes, .string L.body] (w2.setCell ⟨w.heap.size, 9, none⟩ (.slice Aq L.ps.length cq)) := hk2.set 9 _
    have op3 : OwnLps (w2.setCell ⟨w.heap.size, 9, none⟩ (.slice Aq L.ps.length cq)) (w.heap.size + 1 + 1) (.slice Aq L.ps.length cq) L.ps := own_setL (own_baseN op HSz.out.res.lt) (by omega)
    obtain ⟨w3, hw3⟩ : ∃ w3, w2.setCell ⟨w.heap.size, 9, none⟩ (.slice Aq L.ps.length cq) = w3 := ⟨_, rfl⟩
    rw [hw3] at hk3 op3
    have HS3 := Lib.hid hk3
    have HP3 := Lib.hid op3
    have q10 : w3.cell? ⟨w.heap.size, 10, none⟩ = some (.slice Ai ni ci) := hk3.box.cell 10
    clear hk2 hk3 op op3 b2 q9 HSz
    go_wp2_with fail
    refine (HcI.out w3 HS3.out.below).mono ?_
    rintro e w4 ⟨vi, rfl, oi, b4⟩
    have hk4 := (HS3.out.call b4)
    obtain ⟨Ar, cr, rfl, -⟩ := OwnLis.slice oi
    have r10 : w4.cell? ⟨w.heap.size, 10, none⟩ = some (.slice Ai ni ci) := hk4.box.cell 10
    have f10 : w4.frozen? ⟨w.heap.size, 10, none⟩ = false := hk4.box.frozen 10
    have hk5 : CyS w #[.int .i64 L.kind, .int .i64 L.frm, .int .i64 L.to, .int .i64 L.a, .int .i64 L.b, .int .i64 L.c, .int .i64 L.d, .string L.s, .string L.t, .slice Aq L.ps.length cq, .slice Ar L.is.length cr, .int .i64 L.code, .bool L.yes, .string L.body] (w4.setCell ⟨w.heap.size, 10, none⟩ (.slice Ar L.is.length cr)) := hk4.set 10 _
    have oi5 : OwnLis (w4.setCell ⟨w.heap.size, 10, none⟩ (.slice Ar L.is.length cr)) (w.heap.size + 1 + 1) (.slice Ar L.is.length cr) L.is := own_setL (own_baseN oi HS3.out.res.lt) (by omega)
    have op5 : OwnLps (w4.setCell ⟨w.heap.size, 10, none⟩ (.slice Ar L.is.length cr)) (w.heap.size + 1 + 1) (.slice Aq L.ps.length cq) L.ps := own_setL (HP3.out.below b4) (by omega)
    obtain ⟨w5, hw5⟩ : ∃ w5, w4.setCell ⟨w.heap.size, 10, none⟩ (.slice Ar L.is.length cr) = w5 := ⟨_, rfl⟩
    rw [hw5] at hk5 oi5 op5
    obtain ⟨⟨x0, x1, x2, x3, x4, x5, x6⟩, ⟨x7, x8⟩, ⟨x9, x10⟩, ⟨x11, x12, x13⟩⟩ := let_cells hk5.box
    obtain ⟨W3, hW3⟩ : ∃ W3, ((((((((((((((w5.setCell ⟨w.heap.size + 1, 0, none⟩ (.int .i64 L.kind)).setCell ⟨w.heap.size + 1, 1, none⟩ (.int .i64 L.frm)).setCell ⟨w.heap.size + 1, 2, none⟩ (.int .i64 L.to)).setCell ⟨w.heap.size + 1, 3, none⟩ (.int .i64 L.a)).setCell ⟨w.heap.size + 1, 4, none⟩ (.int .i64 L.b)).setCell ⟨w.heap.size + 1, 5, none⟩ (.int .i64 L.c)).setCell ⟨w.heap.size + 1, 6, none⟩ (.int .i64 L.d)).setCell ⟨w.heap.size + 1, 7, none⟩ (.string L.s)).setCell ⟨w.heap.size + 1, 8, none⟩ (.string L.t)).setCell ⟨w.heap.size + 1, 9, none⟩ (.slice Aq L.ps.length cq)).setCell ⟨w.heap.size + 1, 10, none⟩ (.slice Ar L.is.length cr)).setCell ⟨w.heap.size + 1, 11, none⟩ (.int .i64 L.code)).setCell ⟨w.heap.size + 1, 12, none⟩ (.bool L.yes)).setCell ⟨w.heap.size + 1, 13, none⟩ (.string L.body)) = W3 := ⟨_, rfl⟩
    obtain ⟨hb6, hg6, -⟩ := store14 hk5.res hW3
    have HE : Hid (OwnLps W3 (w.heap.size + 1) (.slice Aq L.ps.length cq) L.ps ∧ OwnLis W3 (w.heap.size + 1) (.slice Ar L.is.length cr) L.is ∧ Below w.heap.size w W3) := Lib.hid ⟨own_baseN (own_grownL op5 hg6 (by omega)) (by omega), own_baseN (own_grownL oi5 hg6 (by omega)) (by omega), hk5.below.grown hg6 hk5.below.size (fun g hg => by injection hg with hg; omega)⟩
    have hres := hk5.res
    have d := let_cells hb6
    obtain ⟨⟨p0, p1, p2, p3, p4, p5, p6⟩, ⟨p7, p8⟩, ⟨p9, p10⟩, ⟨p11, p12, p13⟩⟩ := d
    have d0 : w5.cell? ⟨w.heap.size + 1, 0, none⟩ = some (.int .i64 0) := hres.cell 0
    have f0 : w5.frozen? ⟨w.heap.size + 1, 0, none⟩ = false := hres.frozen 0
    have d1 : w5.cell? ⟨w.heap.size + 1, 1, none⟩ = some (.int .i64 0) := hres.cell 1
    have f1 : w5.frozen? ⟨w.heap.size + 1, 1, none⟩ = false := hres.frozen 1
    have d2 : w5.cell? ⟨w.heap.size + 1, 2, none⟩ = some (.int .i64 0) := hres.cell 2
    have f2 : w5.frozen? ⟨w.heap.size + 1, 2, none⟩ = false := hres.frozen 2
    have d3 : w5.cell? ⟨w.heap.size + 1, 3, none⟩ = some (.int .i64 0) := hres.cell 3
    have f3 : w5.frozen? ⟨w.heap.size + 1, 3, none⟩ = false := hres.frozen 3
    have d4 : w5.cell? ⟨w.heap.size + 1, 4, none⟩ = some (.int .i64 0) := hres.cell 4
    have f4 : w5.frozen? ⟨w.heap.size + 1, 4, none⟩ = false := hres.frozen 4
    have d5 : w5.cell? ⟨w.heap.size + 1, 5, none⟩ = some (.int .i64 0) := hres.cell 5
    have f5 : w5.frozen? ⟨w.heap.size + 1, 5, none⟩ = false := hres.frozen 5
    have d6 : w5.cell? ⟨w.heap.size + 1, 6, none⟩ = some (.int .i64 0) := hres.cell 6
    have f6 : w5.frozen? ⟨w.heap.size + 1, 6, none⟩ = false := hres.frozen 6
    have d7 : w5.cell? ⟨w.heap.size + 1, 7, none⟩ = some (.string ⟨#[]⟩) := hres.cell 7
    have f7 : w5.frozen? ⟨w.heap.size + 1, 7, none⟩ = false := hres.frozen 7
    have d8 : w5.cell? ⟨w.heap.size + 1, 8, none⟩ = some (.string ⟨#[]⟩) := hres.cell 8
    have f8 : w5.frozen? ⟨w.heap.size + 1, 8, none⟩ = false := hres.frozen 8
    have d9 : w5.cell? ⟨w.heap.size + 1, 9, none⟩ = some (.slice none 0 0) := hres.cell 9
    have f9 : w5.frozen? ⟨w.heap.size + 1, 9, none⟩ = false := hres.frozen 9
    have d10 : w5.cell? ⟨w.heap.size + 1, 10, none⟩ = some (.slice none 0 0) := hres.cell 10
    have f10 : w5.frozen? ⟨w.heap.size + 1, 10, none⟩ = false := hres.frozen 10
    have d11 : w5.cell? ⟨w.heap.size + 1, 11, none⟩ = some (.int .i64 0) := hres.cell 11
    have f11 : w5.frozen? ⟨w.heap.size + 1, 11, none⟩ = false := hres.frozen 11
    have d12 : w5.cell? ⟨w.heap.size + 1, 12, none⟩ = some (.bool false) := hres.cell 12
    have f12 : w5.frozen? ⟨w.heap.size + 1, 12, none⟩ = false := hres.frozen 12
    have d13 : w5.cell? ⟨w.heap.size + 1, 13, none⟩ = some (.string ⟨#[]⟩) := hres.cell 13
    have f13 : w5.frozen? ⟨w.heap.size + 1, 13, none⟩ = false := hres.frozen 13
    clear hk5 oi5 op5 hb6 hg6 hres HS3 HP3 oi b4 hk4 HcP HcI
    go_wp2
    refine bodyPost_ret (v := .agg #[.int .i64 L.kind, .int .i64 L.frm, .int .i64 L.to, .int .i64 L.a, .int .i64 L.b, .int .i64 L.c, .int .i64 L.d, .string L.s, .string L.t, .slice Aq L.ps.length cq, .slice Ar L.is.length cr, .int .i64 L.code, .bool L.yes, .string L.body]) ?_ rfl ⟨Aq, cq, Ar, cr, rfl, HE.out.1, HE.out.2.1, HE.out.2.2⟩
    simp [results, Try.results59, go_sem, p0, p1, p2, p3, p4, p5, p6, p7, p8, p9, p10, p11, p12, p13]
end Go.Proofs.Ytaljojjpgkmiiaa

namespace Go.Proofs.Ytaljojjpgkmiiaa
open Go.RowKit

theorem lpCells_set0 : ∀ (l : List LPr) (i : Nat) (p : LPr) (k : ByteArray), l[i]? = some p → (lpCells l).set (i * 2) (.string k) = lpCells (l.set i ⟨k, p.v⟩)
  | [], i, p, k, h => by simp at h
  | q :: l, 0, p, k, h => by simp at h; subst h; simp [lpCells]
  | q :: l, i + 1, p, k, h => by
    rw [show (i + 1) * 2 = i * 2 + 1 + 1 from by omega]
    simpa [lpCells] using lpCells_set0 l i p k (by simpa using h)
theorem lpCells_set1 : ∀ (l : List LPr) (i : Nat) (p : LPr) (v : ByteArray), l[i]? = some p → (lpCells l).set (i * 2 + 1) (.string v) = lpCells (l.set i ⟨p.k, v⟩)
  | [], i, p, k, h => by simp at h
  | q :: l, 0, p, k, h => by simp at h; subst h; simp [lpCells]
  | q :: l, i + 1, p, k, h => by
    rw [show (i + 1) * 2 + 1 = i * 2 + 1 + 1 + 1 from by omega]
    simpa [lpCells] using lpCells_set1 l i p k (by simpa using h)
theorem liCells_set2 : ∀ (l : List LIt) (i : Nat) (p : LIt) (b : Bool), l[i]? = some p → (liCells l).set (i * 3 + 2) (.bool b) = liCells (l.set i ⟨p.e, p.v, b⟩)
  | [], i, p, k, h => by simp at h
  | q :: l, 0, p, k, h => by simp at h; subst h; simp [liCells, licells]
  | q :: l, i + 1, p, k, h => by
    rw [show (i + 1) * 3 + 2 = i * 3 + 2 + 1 + 1 + 1 from by omega]
    simpa [liCells, licells] using liCells_set2 l i p k (by simpa using h)
theorem own_at0 {w : World} {B m size c : Nat} {e : TypeId} {A : Option Addr} {xs : List Value} (h : w.ownsRow B e size (.slice A m c) m xs) (hm : 0 < m) : ∃ g, A = some ⟨g, 0, none⟩ ∧ B ≤ g ∧ g < w.heap.size := by
  rcases h.2 with ⟨_, h0⟩ | ⟨g, cap, cur, hv, hb, hh, _⟩
  · omega
  · injection hv with hA _ _
    exact ⟨g, hA, hb, (Array.getElem?_eq_some_iff.1 hh).1⟩
/-- a text of pair i written over -/
theorem lp_edit {w : World} {B N c i : Nat} {A : Option Addr} {l : List LPr} (h : w.ownsRow B 94 2 (.slice A N c) N (lpCells l)) (hl : l.length = N) (hi : i < N) :
    ∃ g p, A = some ⟨g, 0, none⟩ ∧ B ≤ g ∧ g < w.heap.size ∧ l[i]? = some p ∧ w.cell? ⟨g, i * 2, none⟩ = some (.string p.k) ∧ w.cell? ⟨g, i * 2 + 1, none⟩ = some (.string p.v) ∧
      (∀ j, w.frozen? ⟨g, j, none⟩ = false) ∧
      (∀ k, (w.setCell ⟨g, i * 2, none⟩ (.string k)).ownsRow B 94 2 (.slice A N c) N (lpCells (l.set i ⟨k, p.v⟩)) ∧ w.grownBy (w.setCell ⟨g, i * 2, none⟩ (.string k)) (some g)) ∧
      (∀ v, (w.setCell ⟨g, i * 2 + 1, none⟩ (.string v)).ownsRow B 94 2 (.slice A N c) N (lpCells (l.set i ⟨p.k, v⟩)) ∧ w.grownBy (w.setCell ⟨g, i * 2 + 1, none⟩ (.string v)) (some g)) := by
  obtain ⟨g, rfl, hB, hg⟩ := own_at0 h (by omega)
  obtain ⟨c0, c1⟩ := lpCells_at l i l[i] (List.getElem?_eq_getElem (by omega))
  refine ⟨g, l[i], rfl, hB, hg, List.getElem?_eq_getElem (by omega), (h.cellAt (i * 2) (by omega)).trans c0, (h.cellAt (i * 2 + 1) (by omega)).trans c1, fun j => h.frozenAt j, fun k => ?_, fun v => ?_⟩
  · have h1 := h.stored (i * 2) (.string k)
    rwa [lpCells_set0 l i l[i] k (List.getElem?_eq_getElem (by omega))] at h1
  · have h1 := h.stored (i * 2 + 1) (.string v)
    rwa [lpCells_set1 l i l[i] v (List.getElem?_eq_getElem (by omega))] at h1
/-- the mark of intent i written over -/
theorem li_edit {w : World} {B N c i : Nat} {A : Option Addr} {l : List LIt} (h : w.ownsRow B 96 3 (.slice A N c) N (liCells l)) (hl : l.length = N) (hi : i < N) :
    ∃ g p, A = some ⟨g, 0, none⟩ ∧ B ≤ g ∧ g < w.heap.size ∧ l[i]? = some p ∧ w.cell? ⟨g, i * 3 + 2, none⟩ = some (.bool p.g) ∧
      (∀ j, w.frozen? ⟨g, j, none⟩ = false) ∧
      (∀ b, (w.setCell ⟨g, i * 3 + 2, none⟩ (.bool b)).ownsRow B 96 3 (.slice A N c) N (liCells (l.set i ⟨p.e, p.v, b⟩)) ∧ w.grownBy (w.setCell ⟨g, i * 3 + 2, none⟩ (.bool b)) (some g)) := by
  obtain ⟨g, rfl, hB, hg⟩ := own_at0 h (by omega)
  obtain ⟨-, -, c2⟩ := liCells_at l i l[i] (List.getElem?_eq_getElem (by omega))
  refine ⟨g, l[i], rfl, hB, hg, List.getElem?_eq_getElem (by omega), (h.cellAt (i * 3 + 2) (by omega)).trans c2, fun j => h.frozenAt j, fun b => ?_⟩
  have h1 := h.stored (i * 3 + 2) (.bool b)
  rwa [liCells_set2 l i l[i] b (List.getElem?_eq_getElem (by omega))] at h1
/-- a row lies in a block of its elements' type: not in a box of another type -/
theorem own_box_ne {w : World} {B m size g : Nat} {e t : TypeId} {v : Value} {xs : List Value} {cs : Array Value} (h : w.ownsRow B e size v m xs) (hb : Box w g t cs) (hne : e ≠ t) : ∀ b, v.ownBlock = some b → b ≠ g := by
  intro b hv e0
  subst e0
  rcases h.2 with ⟨rfl, _⟩ | ⟨g', cap, cur, rfl, hB, hh, rest⟩
  · cases hv
  · cases hv
    unfold Box at hb
    rw [hh] at hb
    injection hb with hb
    injection hb with _ hb
    exact hne hb
theorem own_grownT {w w' : World} {B m size g : Nat} {e : TypeId} {v : Value} {xs : List Value} (h : w.ownsRow B e size v m xs) (hg : w.grownBy w' (some g)) (hB : ∀ b, v.ownBlock = some b → b ≠ g) : w'.ownsRow B e size v m xs := by
  refine ⟨h.1, ?_⟩
  rcases h.2 with hn | ⟨b, cap, cur, rfl, hB', hb, rest⟩
  · exact .inl hn
  · exact .inr ⟨b, cap, cur, rfl, hB', (hg.block b (Array.getElem?_eq_some_iff.1 hb).1 (by intro e; injection e with e; exact hB b rfl e)).trans hb, rest⟩
/-- two copies of a letter in boxes of the call's own -/
structure KFin (w5 W : World) (L : Let) (g5 g6 : Nat) (P1 : Option Addr) (p1 : Nat) (I1 : Option Addr) (i1 : Nat) (P2 : Option Addr) (p2 : Nat) (I2 : Option Addr) (i2 : Nat) : Prop where
  b5 : Box W g5 69 #[.int .i64 L.kind, .int .i64 L.frm, .int .i64 L.to, .int .i64 L.a, .int .i64 L.b, .int .i64 L.c, .int .i64 L.d, .string L.s, .string L.t, .slice P1 L.ps.length p1, .slice I1 L.is.length i1, .int .i64 L.code, .bool L.yes, .string L.body]
  b6 : Box W g6 69 #[.int .i64 L.kind, .int .i64 L.frm, .int .i64 L.to, .int .i64 L.a, .int .i64 L.b, .int .i64 L.c, .int .i64 L.d, .string L.s, .string L.t, .slice P2 L.ps.length p2, .slice I2 L.is.length i2, .int .i64 L.code, .bool L.yes, .string L.body]
  ne : g5 ≠ g6
  h5 : w5.heap.size ≤ g5
  h6 : w5.heap.size ≤ g6
  op1 : OwnLps W w5.heap.size (.slice P1 L.ps.length p1) L.ps
  oi1 : OwnLis W w5.heap.size (.slice I1 L.is.length i1) L.is
  op2 : OwnLps W w5.heap.size (.slice P2 L.ps.length p2) L.ps
  oi2 : OwnLis W w5.heap.size (.slice I2 L.is.length i2) L.is
  sp : ∀ g, (Value.slice P1 L.ps.length p1).ownBlock = some g → (Value.slice P2 L.ps.length p2).ownBlock ≠ some g
  si : ∀ g, (Value.slice I1 L.is.length i1).ownBlock = some g → (Value.slice I2 L.is.length i2).ownBlock ≠ some g
  below : Below w5.heap.size w5 W
theorem kfin {w5 wx ws wt : World} {L : Let} {g5 g6 : Nat} {P1 : Option Addr} {p1 : Nat} {I1 : Option Addr} {i1 : Nat} {P2 : Option Addr} {p2 : Nat} {I2 : Option Addr} {i2 : Nat} {cs ds : Array Value}
    (b5 : Box ws g5 69 #[.int .i64 L.kind, .int .i64 L.frm, .int .i64 L.to, .int .i64 L.a, .int .i64 L.b, .int .i64 L.c, .int .i64 L.d, .string L.s, .string L.t, .slice P1 L.ps.length p1, .slice I1 L.is.length i1, .int .i64 L.code, .bool L.yes, .string L.body]) (b6 : Box wt g6 69 #[.int .i64 L.kind, .int .i64 L.frm, .int .i64 L.to, .int .i64 L.a, .int .i64 L.b, .int .i64 L.c, .int .i64 L.d, .string L.s, .string L.t, .slice P2 L.ps.length p2, .slice I2 L.is.length i2, .int .i64 L.code, .bool L.yes, .string L.body]) (ne : g5 ≠ g6) (h5 : w5.heap.size ≤ g5) (h6 : w5.heap.size ≤ g6)
    (op1 : OwnLps wx w5.heap.size (.slice P1 L.ps.length p1) L.ps) (oi1 : OwnLis wx w5.heap.size (.slice I1 L.is.length i1) L.is) (op2 : OwnLps wx w5.heap.size (.slice P2 L.ps.length p2) L.ps) (oi2 : OwnLis wx w5.heap.size (.slice I2 L.is.length i2) L.is)
    (sp : ∀ g, (Value.slice P1 L.ps.length p1).ownBlock = some g → (Value.slice P2 L.ps.length p2).ownBlock ≠ some g) (si : ∀ g, (Value.slice I1 L.is.length i1).ownBlock = some g → (Value.slice I2 L.is.length i2).ownBlock ≠ some g)
    (hb : Below w5.heap.size w5 wt) (z5 : Box wx g5 69 cs) (z6 : Box ws g6 69 ds) (gs : wx.grownBy ws (some g5)) (gt : ws.grownBy wt (some g6)) : KFin w5 wt L g5 g6 P1 p1 I1 i1 P2 p2 I2 i2 := by
  have n1 : (94 : TypeId) ≠ 69 := by decide
  have n2 : (96 : TypeId) ≠ 69 := by decide
  have a1 := own_grownT op1 gs (own_box_ne op1 z5 n1)
  have a2 := own_grownT oi1 gs (own_box_ne oi1 z5 n2)
  have a3 := own_grownT op2 gs (own_box_ne op2 z5 n1)
  have a4 := own_grownT oi2 gs (own_box_ne oi2 z5 n2)
  exact ⟨b5.grown gt (fun e => ne (by injection e)), b6, ne, h5, h6, own_grownT a1 gt (own_box_ne a1 z6 n1), own_grownT a2 gt (own_box_ne a2 z6 n2), own_grownT a3 gt (own_box_ne a3 z6 n1), own_grownT a4 gt (own_box_ne a4 z6 n2), sp, si, hb⟩
end Go.Proofs.Ytaljojjpgkmiiaa

namespace Go.Proofs.Ytaljojjpgkmiiaa
open Go.RowKit

set_option maxRecDepth 100000 in
set_option maxHeartbeats 1600000 in
theorem step_storeL {w W : World} {ops : Array Oper} {o : Oper} {a : Act} {K : Act → World → Prop} {Q : Exit → Act → World → Prop} {E : Prop} (hgd : o.guard = none) (x v : Operand) (ho : o.op = Op.store 69 x v) {g : Nat} (hx : a.eval x = .pointer (some ⟨g, 0, none⟩))
    {L : Let} {Ap : Option Addr} {np cp : Nat} {Ai : Option Addr} {ni ci : Nat} (hv : a.eval v = .agg #[.int .i64 L.kind, .int .i64 L.frm, .int .i64 L.to, .int .i64 L.a, .int .i64 L.b, .int .i64 L.c, .int .i64 L.d, .string L.s, .string L.t, .slice Ap np cp, .slice Ai ni ci, .int .i64 L.code, .bool L.yes, .string L.body]) {y0 y1 y2 y3 y4 y5 y6 y7 y8 y9 y10 y11 y12 y13 : Value} (h : Box w g 69 #[y0, y1, y2, y3, y4, y5, y6, y7, y8, y9, y10, y11, y12, y13]) (hW : ((((((((((((((w.setCell ⟨g, 0, none⟩ (.int .i64 L.kind)).setCell ⟨g, 1, none⟩ (.int .i64 L.frm)).setCell ⟨g, 2, none⟩ (.int .i64 L.to)).setCell ⟨g, 3, none⟩ (.int .i64 L.a)).setCell ⟨g, 4, none⟩ (.int .i64 L.b)).setCell ⟨g, 5, none⟩ (.int .i64 L.c)).setCell ⟨g, 6, none⟩ (.int .i64 L.d)).setCell ⟨g, 7, none⟩ (.string L.s)).setCell ⟨g, 8, none⟩ (.string L.t)).setCell ⟨g, 9, none⟩ (.slice Ap np cp)).setCell ⟨g, 10, none⟩ (.slice Ai ni ci)).setCell ⟨g, 11, none⟩ (.int .i64 L.code)).setCell ⟨g, 12, none⟩ (.bool L.yes)).setCell ⟨g, 13, none⟩ (.string L.body)) = W) (hK : K (a.put o.dst undef) W) :
    if Region.wanted o (yielded ops a.tmps) = true then Oper.wp Try.prog o a w K Q else E := by
  have hw : Region.wanted o (yielded ops a.tmps) = true := by simp [Region.wanted, hgd]
  rw [if_pos hw]
  have d0 : w.cell? ⟨g, 0, none⟩ = some y0 := h.cell 0
  have f0 : w.frozen? ⟨g, 0, none⟩ = false := h.frozen 0
  have d1 : w.cell? ⟨g, 1, none⟩ = some y1 := h.cell 1
  have f1 : w.frozen? ⟨g, 1, none⟩ = false := h.frozen 1
  have d2 : w.cell? ⟨g, 2, none⟩ = some y2 := h.cell 2
  have f2 : w.frozen? ⟨g, 2, none⟩ = false := h.frozen 2
  have d3 : w.cell? ⟨g, 3, none⟩ = some y3 := h.cell 3
  have f3 : w.frozen? ⟨g, 3, none⟩ = false := h.frozen 3
  have d4 : w.cell? ⟨g, 4, none⟩ = some y4 := h.cell 4
  have f4 : w.frozen? ⟨g, 4, none⟩ = false := h.frozen 4
  have d5 : w.cell? ⟨g, 5, none⟩ = some y5 := h.cell 5
  have f5 : w.frozen? ⟨g, 5, none⟩ = false := h.frozen 5
  have d6 : w.cell? ⟨g, 6, none⟩ = some y6 := h.cell 6
  have f6 : w.frozen? ⟨g, 6, none⟩ = false := h.frozen 6
  have d7 : w.cell? ⟨g, 7, none⟩ = some y7 := h.cell 7
  have f7 : w.frozen? ⟨g, 7, none⟩ = false := h.frozen 7
  have d8 : w.cell? ⟨g, 8, none⟩ = some y8 := h.cell 8
  have f8 : w.frozen? ⟨g, 8, none⟩ = false := h.frozen 8
  have d9 : w.cell? ⟨g, 9, none⟩ = some y9 := h.cell 9
  have f9 : w.frozen? ⟨g, 9, none⟩ = false := h.frozen 9
  have d10 : w.cell? ⟨g, 10, none⟩ = some y10 := h.cell 10
  have f10 : w.frozen? ⟨g, 10, none⟩ = false := h.frozen 10
  have d11 : w.cell? ⟨g, 11, none⟩ = some y11 := h.cell 11
  have f11 : w.frozen? ⟨g, 11, none⟩ = false := h.frozen 11
  have d12 : w.cell? ⟨g, 12, none⟩ = some y12 := h.cell 12
  have f12 : w.frozen? ⟨g, 12, none⟩ = false := h.frozen 12
  have d13 : w.cell? ⟨g, 13, none⟩ = some y13 := h.cell 13
  have f13 : w.frozen? ⟨g, 13, none⟩ = false := h.frozen 13
  clear h
  unfold Oper.wp
  simp only [execOp, ho, hx, hv]
  go_simp
  exact hK
end Go.Proofs.Ytaljojjpgkmiiaa

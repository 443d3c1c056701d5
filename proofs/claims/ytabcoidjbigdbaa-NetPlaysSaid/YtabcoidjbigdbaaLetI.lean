/- letter's reader: the closures that read a pair and an intent, and the lists. Condition: the bytes are in memory below the reader. -/
import Derived.Test.YtabcoidjbigdbaaLetH
import Derived.Deep.RegionLaw
namespace Go.Proofs.Ytabcoidjbigdbaa
open Go.RowKit
open Go.Lib (strCells)

abbrev S2 := Nat × Nat
def rdP (l : List UInt8) (s : S2) : LPr × S2 := (⟨⟨(rdT l s).1.toArray⟩, ⟨(rdT l (rdT l s).2).1.toArray⟩⟩, (rdT l (rdT l s).2).2)
def rdI (l : List UInt8) (s : S2) : LIt × S2 :=
  (⟨⟨(rdT l s).1.toArray⟩, ((rdN l 1099511627776 (rdT l s).2).1 : Int), decide ((rdN l 1 (rdN l 1099511627776 (rdT l s).2).2).1 = 1)⟩, (rdN l 1 (rdN l 1099511627776 (rdT l s).2).2).2)
/-- how many more things are read, one by one, till a fault -/
def rdMany {α : Type} (f : S2 → α × S2) : Nat → S2 → List α × S2
  | 0, s => ([], s)
  | k + 1, s => if s.2 ≠ 0 then ([], s) else ((f s).1 :: (rdMany f k (f s).2).1, (rdMany f k (f s).2).2)
/-- how many things, and then each -/
def rdCount (l : List UInt8) (s : S2) : Nat × S2 :=
  let c := rdN l 1099511627776 s
  (c.1, if 256 < c.1 then (c.2.1, if c.2.2 = 0 then 4 else c.2.2) else c.2)
def rdList {α : Type} (l : List UInt8) (f : S2 → α × S2) (s : S2) : List α × S2 := rdMany f (rdCount l s).1 (rdCount l s).2
theorem grown_box {w w' : World} {r g : Nat} {t : TypeId} {cs : Array Value} (h : w.grownBy w' (some r)) (hb : Box w g t cs) (hg : g ≠ r) : Box w' g t cs := hb.grown h (fun e => hg (by injection e))
theorem drewG (w : World) (r : Nat) : w.grownBy w.drew (some r) := grown_bel (Below.refl _ _).drew _
theorem grown_new {w w' : World} {r : Nat} (h : w.grownBy w' (some r)) (i : Nat) (u : Value) : w.grownBy (w'.setCell ⟨w.heap.size, i, none⟩ u) (some r) :=
  ⟨h.os, h.tape, h.output, by have := h.size; simpa using this, fun k hk hne => (Below.heap_setCell w' ⟨w.heap.size, i, none⟩ u k (fun e => by have e1 : k = w.heap.size := e; omega)).trans (h.block k hk hne)⟩
set_option maxRecDepth 100000 in
set_option maxHeartbeats 3200000 in
theorem clP_any (r gv : Nat) (A : Option Addr) (n c : Nat) (l : List UInt8) (s : S2) (w : World) (h : RdAt w r A n c l s) (hv : Box w gv 79 #[.pointer (some ⟨r, 0, none⟩)]) (hgv : gv ≠ r) :
    Calls Try.prog 78 #[.pointer (some ⟨gv, 0, none⟩)] w (RdPost w r A n c l (lpagg (rdP l s).1) (rdP l s).2) := by
  have hal := below_box (w := w) (Obj.cells #[.string ⟨#[]⟩, .string ⟨#[]⟩] 38)
  have hrw := h.box.lt
  have H0 := Lib.hid (h.below hal)
  have HV : Hid (∀ wx, (w.alloc (.cells #[.string ⟨#[]⟩, .string ⟨#[]⟩] 38)).grownBy wx (some r) → wx.cell? ⟨gv, 0, none⟩ = some (.pointer (some ⟨r, 0, none⟩))) := Lib.hid fun wx hg => (grown_box hg (hv.below hal hv.lt) hgv).cell 0
  have HR : Hid (∀ wx, (w.alloc (.cells #[.string ⟨#[]⟩, .string ⟨#[]⟩] 38)).grownBy wx (some r) → Box wx w.heap.size 38 #[.string ⟨#[]⟩, .string ⟨#[]⟩]) := Lib.hid fun wx hg => grown_box hg (Box.made _ _ _) (by omega)
  have HA0 : Hid (w.grownBy (w.alloc (.cells #[.string ⟨#[]⟩, .string ⟨#[]⟩] 38)) (some r)) := Lib.hid (grown_bel hal _)
  have HD := Lib.hid (drewG (w.alloc (.cells #[.string ⟨#[]⟩, .string ⟨#[]⟩] 38)) r)
  have d0 : (w.alloc (.cells #[.string ⟨#[]⟩, .string ⟨#[]⟩] 38)).cell? ⟨gv, 0, none⟩ = some (.pointer (some ⟨r, 0, none⟩)) := HV.out _ (grown_bel (Below.refl _ _) _)
  obtain ⟨⟨t1, s1⟩, ht1⟩ : ∃ x, rdT l s = x := ⟨_, rfl⟩
  have C1 := Lib.hid (fun wx (hx : RdAt wx r A n c l s) => rdText_any r A n c l s wx hx)
  rw [ht1] at C1
  obtain ⟨⟨t2, s2⟩, ht2⟩ : ∃ x, rdT l s1 = x := ⟨_, rfl⟩
  have C2 := Lib.hid (fun wx (hx : RdAt wx r A n c l s1) => rdText_any r A n c l s1 wx hx)
  rw [ht2] at C2
  have HE : Hid (rdP l s = (⟨⟨t1.toArray⟩, ⟨t2.toArray⟩⟩, s2)) := Lib.hid (by unfold rdP; rw [ht1]; simp only; rw [ht2])
  obtain ⟨R9, hR9⟩ : ∃ R9, rdP l s = R9 := ⟨_, rfl⟩
  rw [hR9] at HE ⊢
  obtain rfl := HE.out.symm
  clear h hv hal HE hR9 ht1 ht2
  go_enter Try.func78, Try.ntmps78
  go_wp2
  go_region_law (first
    | (go_simp; refine (C1.out _ (H0.out.below (Below.refl _ _).drew)).mono ?_; rintro e x1 ⟨rfl, h1, g1⟩; have G1 : (w.alloc (.cells #[.string ⟨#[]⟩, .string ⟨#[]⟩] 38)).grownBy x1 (some r) := World.grownBy.trans HD.out g1; have d1 : x1.cell? ⟨gv, 0, none⟩ = some (.pointer (some ⟨r, 0, none⟩)) := HV.out _ G1)
    | (go_simp; refine (C2.out _ h1).mono ?_; rintro e x2 ⟨rfl, h2, g2⟩; have G2 : (w.alloc (.cells #[.string ⟨#[]⟩, .string ⟨#[]⟩] 38)).grownBy x2 (some r) := World.grownBy.trans G1 g2; have d2 : x2.cell? ⟨gv, 0, none⟩ = some (.pointer (some ⟨r, 0, none⟩)) := HV.out _ G2; have hb9 := HR.out _ G2; have u0 : x2.cell? ⟨w.heap.size, 0, none⟩ = some (.string ⟨#[]⟩) := hb9.cell 0; have f0 : x2.frozen? ⟨w.heap.size, 0, none⟩ = false := hb9.frozen 0; have u1 : x2.cell? ⟨w.heap.size, 1, none⟩ = some (.string ⟨#[]⟩) := hb9.cell 1; have f1 : x2.frozen? ⟨w.heap.size, 1, none⟩ = false := hb9.frozen 1))
  all_goals
    have hz9 := HR.out _ G2
    have hS := ((hz9.set_ 0 (.string ⟨t1.toArray⟩)).set_ 1 (.string ⟨t2.toArray⟩))
    have hG := (World.grownBy.trans HA0.out G2)
    have HRE : Hid (RdAt ((x2.setCell ⟨w.heap.size, 0, none⟩ (.string ⟨t1.toArray⟩)).setCell ⟨w.heap.size, 1, none⟩ (.string ⟨t2.toArray⟩)) r A n c l s2 ∧ w.grownBy ((x2.setCell ⟨w.heap.size, 0, none⟩ (.string ⟨t1.toArray⟩)).setCell ⟨w.heap.size, 1, none⟩ (.string ⟨t2.toArray⟩)) (some r)) := Lib.hid ⟨⟨((h2.box.far (p := ⟨w.heap.size, 0, none⟩) (by show r ≠ w.heap.size; omega) _).far (p := ⟨w.heap.size, 1, none⟩) (by show r ≠ w.heap.size; omega) _), (Has.setCell (Has.setCell h2.bytes (p := ⟨w.heap.size, 0, none⟩) (by show r ≤ w.heap.size; omega) _) (p := ⟨w.heap.size, 1, none⟩) (by show r ≤ w.heap.size; omega) _), h2.cap, h2.most⟩, (grown_new (grown_new hG 0 _) 1 _)⟩
    have p0 : ((x2.setCell ⟨w.heap.size, 0, none⟩ (.string ⟨t1.toArray⟩)).setCell ⟨w.heap.size, 1, none⟩ (.string ⟨t2.toArray⟩)).cell? ⟨w.heap.size, 0, none⟩ = some (.string ⟨t1.toArray⟩) := hS.cell 0
    have p1 : ((x2.setCell ⟨w.heap.size, 0, none⟩ (.string ⟨t1.toArray⟩)).setCell ⟨w.heap.size, 1, none⟩ (.string ⟨t2.toArray⟩)).cell? ⟨w.heap.size, 1, none⟩ = some (.string ⟨t2.toArray⟩) := hS.cell 1
    clear hS hz9 hG
    go_wp2
    refine bodyPost_ret (v := .agg #[.string ⟨t1.toArray⟩, .string ⟨t2.toArray⟩]) ?_ rfl ⟨rfl, HRE.out.1, HRE.out.2⟩
    simp [results, Try.results78, go_sem, p0, p1]
set_option maxRecDepth 100000 in
set_option maxHeartbeats 3200000 in
theorem clI_any (r gv : Nat) (A : Option Addr) (n c : Nat) (l : List UInt8) (s : S2) (w : World) (h : RdAt w r A n c l s) (hv : Box w gv 79 #[.pointer (some ⟨r, 0, none⟩)]) (hgv : gv ≠ r) :
    Calls Try.prog 80 #[.pointer (some ⟨gv, 0, none⟩)] w (RdPost w r A n c l (liagg (rdI l s).1) (rdI l s).2) := by
  have hal := below_box (w := w) (Obj.cells #[.string ⟨#[]⟩, .int .i64 0, .bool false] 40)
  have hrw := h.box.lt
  have H0 := Lib.hid (h.below hal)
  have HV : Hid (∀ wx, (w.alloc (.cells #[.string ⟨#[]⟩, .int .i64 0, .bool false] 40)).grownBy wx (some r) → wx.cell? ⟨gv, 0, none⟩ = some (.pointer (some ⟨r, 0, none⟩))) := Lib.hid fun wx hg => (grown_box hg (hv.below hal hv.lt) hgv).cell 0
  have HR : Hid (∀ wx, (w.alloc (.cells #[.string ⟨#[]⟩, .int .i64 0, .bool false] 40)).grownBy wx (some r) → Box wx w.heap.size 40 #[.string ⟨#[]⟩, .int .i64 0, .bool false]) := Lib.hid fun wx hg => grown_box hg (Box.made _ _ _) (by omega)
  have HA0 : Hid (w.grownBy (w.alloc (.cells #[.string ⟨#[]⟩, .int .i64 0, .bool false] 40)) (some r)) := Lib.hid (grown_bel hal _)
  have HD := Lib.hid (drewG (w.alloc (.cells #[.string ⟨#[]⟩, .int .i64 0, .bool false] 40)) r)
  have d0 : (w.alloc (.cells #[.string ⟨#[]⟩, .int .i64 0, .bool false] 40)).cell? ⟨gv, 0, none⟩ = some (.pointer (some ⟨r, 0, none⟩)) := HV.out _ (grown_bel (Below.refl _ _) _)
  obtain ⟨⟨t1, s1⟩, ht1⟩ : ∃ x, rdT l s = x := ⟨_, rfl⟩
  have C1 := Lib.hid (fun wx (hx : RdAt wx r A n c l s) => rdText_any r A n c l s wx hx)
  rw [ht1] at C1
  obtain ⟨⟨t2, s2⟩, ht2⟩ : ∃ x, rdN l 1099511627776 s1 = x := ⟨_, rfl⟩
  have C2 := Lib.hid (fun wx (hx : RdAt wx r A n c l s1) => rdNum_any r A n c l s1 1099511627776 wx hx)
  rw [ht2] at C2
  obtain ⟨⟨t3, s3⟩, ht3⟩ : ∃ x, rdN l 1 s2 = x := ⟨_, rfl⟩
  have C3 := Lib.hid (fun wx (hx : RdAt wx r A n c l s2) => yes_any r A n c l s2 wx hx)
  rw [ht3] at C3
  have HE : Hid (rdI l s = (⟨⟨t1.toArray⟩, (t2 : Int), decide (t3 = 1)⟩, s3)) := Lib.hid (by unfold rdI; rw [ht1]; simp only; rw [ht2]; simp only; rw [ht3])
  obtain ⟨R9, hR9⟩ : ∃ R9, rdI l s = R9 := ⟨_, rfl⟩
  rw [hR9] at HE ⊢
  obtain rfl := HE.out.symm
  clear h hv hal HE hR9 ht1 ht2 ht3
  go_enter Try.func80, Try.ntmps80
  go_wp2
  go_region_law (first
    | (go_simp; refine (C1.out _ (H0.out.below (Below.refl _ _).drew)).mono ?_; rintro e x1 ⟨rfl, h1, g1⟩; have G1 : (w.alloc (.cells #[.string ⟨#[]⟩, .int .i64 0, .bool false] 40)).grownBy x1 (some r) := World.grownBy.trans HD.out g1; have d1 : x1.cell? ⟨gv, 0, none⟩ = some (.pointer (some ⟨r, 0, none⟩)) := HV.out _ G1)
    | (go_simp; refine (C2.out _ h1).mono ?_; rintro e x2 ⟨rfl, h2, g2⟩; have G2 : (w.alloc (.cells #[.string ⟨#[]⟩, .int .i64 0, .bool false] 40)).grownBy x2 (some r) := World.grownBy.trans G1 g2; have d2 : x2.cell? ⟨gv, 0, none⟩ = some (.pointer (some ⟨r, 0, none⟩)) := HV.out _ G2)
    | (go_simp; refine (C3.out _ h2).mono ?_; rintro e x3 ⟨rfl, h3, g3⟩; have G3 : (w.alloc (.cells #[.string ⟨#[]⟩, .int .i64 0, .bool false] 40)).grownBy x3 (some r) := World.grownBy.trans G2 g3; have d3 : x3.cell? ⟨gv, 0, none⟩ = some (.pointer (some ⟨r, 0, none⟩)) := HV.out _ G3; have hb9 := HR.out _ G3; have u0 : x3.cell? ⟨w.heap.size, 0, none⟩ = some (.string ⟨#[]⟩) := hb9.cell 0; have f0 : x3.frozen? ⟨w.heap.size, 0, none⟩ = false := hb9.frozen 0; have u1 : x3.cell? ⟨w.heap.size, 1, none⟩ = some (.int .i64 0) := hb9.cell 1; have f1 : x3.frozen? ⟨w.heap.size, 1, none⟩ = false := hb9.frozen 1; have u2 : x3.cell? ⟨w.heap.size, 2, none⟩ = some (.bool false) := hb9.cell 2; have f2 : x3.frozen? ⟨w.heap.size, 2, none⟩ = false := hb9.frozen 2))
  all_goals
    have hz9 := HR.out _ G3
    have hS := (((hz9.set_ 0 (.string ⟨t1.toArray⟩)).set_ 1 (.int .i64 (t2 : Int))).set_ 2 (.bool (decide (t3 = 1))))
    have hG := (World.grownBy.trans HA0.out G3)
    have HRE : Hid (RdAt (((x3.setCell ⟨w.heap.size, 0, none⟩ (.string ⟨t1.toArray⟩)).setCell ⟨w.heap.size, 1, none⟩ (.int .i64 (t2 : Int))).setCell ⟨w.heap.size, 2, none⟩ (.bool (decide (t3 = 1)))) r A n c l s3 ∧ w.grownBy (((x3.setCell ⟨w.heap.size, 0, none⟩ (.string ⟨t1.toArray⟩)).setCell ⟨w.heap.size, 1, none⟩ (.int .i64 (t2 : Int))).setCell ⟨w.heap.size, 2, none⟩ (.bool (decide (t3 = 1)))) (some r)) := Lib.hid ⟨⟨(((h3.box.far (p := ⟨w.heap.size, 0, none⟩) (by show r ≠ w.heap.size; omega) _).far (p := ⟨w.heap.size, 1, none⟩) (by show r ≠ w.heap.size; omega) _).far (p := ⟨w.heap.size, 2, none⟩) (by show r ≠ w.heap.size; omega) _), (Has.setCell (Has.setCell (Has.setCell h3.bytes (p := ⟨w.heap.size, 0, none⟩) (by show r ≤ w.heap.size; omega) _) (p := ⟨w.heap.size, 1, none⟩) (by show r ≤ w.heap.size; omega) _) (p := ⟨w.heap.size, 2, none⟩) (by show r ≤ w.heap.size; omega) _), h3.cap, h3.most⟩, (grown_new (grown_new (grown_new hG 0 _) 1 _) 2 _)⟩
    have p0 : (((x3.setCell ⟨w.heap.size, 0, none⟩ (.string ⟨t1.toArray⟩)).setCell ⟨w.heap.size, 1, none⟩ (.int .i64 (t2 : Int))).setCell ⟨w.heap.size, 2, none⟩ (.bool (decide (t3 = 1)))).cell? ⟨w.heap.size, 0, none⟩ = some (.string ⟨t1.toArray⟩) := hS.cell 0
    have p1 : (((x3.setCell ⟨w.heap.size, 0, none⟩ (.string ⟨t1.toArray⟩)).setCell ⟨w.heap.size, 1, none⟩ (.int .i64 (t2 : Int))).setCell ⟨w.heap.size, 2, none⟩ (.bool (decide (t3 = 1)))).cell? ⟨w.heap.size, 1, none⟩ = some (.int .i64 (t2 : Int)) := hS.cell 1
    have p2 : (((x3.setCell ⟨w.heap.size, 0, none⟩ (.string ⟨t1.toArray⟩)).setCell ⟨w.heap.size, 1, none⟩ (.int .i64 (t2 : Int))).setCell ⟨w.heap.size, 2, none⟩ (.bool (decide (t3 = 1)))).cell? ⟨w.heap.size, 2, none⟩ = some (.bool (decide (t3 = 1))) := hS.cell 2
    clear hS hz9 hG
    go_wp2
    refine bodyPost_ret (v := .agg #[.string ⟨t1.toArray⟩, .int .i64 (t2 : Int), .bool (decide (t3 = 1))]) ?_ rfl ⟨rfl, HRE.out.1, HRE.out.2⟩
    simp [results, Try.results80, go_sem, p0, p1, p2]
end Go.Proofs.Ytabcoidjbigdbaa

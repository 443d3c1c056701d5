/- letter's lists of pairs and intents, read one by one. Condition: the bytes are in memory below the reader. -/
import Derived.Test.YtaljojjpgkmiiaaMLetH
import Derived.Deep.RegionLaw
namespace Go.Proofs.Ytaljojjpgkmiiaa
open Go.RowKit
open Go.Lib (strCells)

abbrev S2 := Nat × Nat
def rdP (l : List UInt8) (s : S2) : LPr × S2 := (⟨⟨(rdT l s).1.toArray⟩, ⟨(rdT l (rdT l s).2).1.toArray⟩⟩, (rdT l (rdT l s).2).2)
def rdI (l : List UInt8) (s : S2) : LIt × S2 :=
  (⟨⟨(rdT l s).1.toArray⟩, ((rdN l 1099511627776 (rdT l s).2).1 : Int), decide ((rdN l 1 (rdN l 1099511627776 (rdT l s).2).2).1 = 1)⟩, (rdN l 1 (rdN l 1099511627776 (rdT l s).2).2).2)
/-- how many more things are read, one by one, till a fault -/
def rdMany {α : Type} (f : S2 → α × S2) : Nat → S2 → List α × S2
  | 0, s => ([], s)
  | k + 1, s => if s.2 ≠ 0 then ([], s) else ((f s).1 :: (rdMany f k (f s).2).1, (rdMany f k (f s).2).2)
/-- how many things, and then each -/
def rdCount (l : List UInt8) (s : S2) : Nat × S2 :=
  let c := rdN l 1099511627776 s
  (c.1, if 256 < c.1 then (c.2.1, if c.2.2 = 0 then 4 else c.2.2) else c.2)
def rdList {α : Type} (l : List UInt8) (f : S2 → α × S2) (s : S2) : List α × S2 := rdMany f (rdCount l s).1 (rdCount l s).2
theorem grown_box {w w' : World} {r g : Nat} {t : TypeId} {cs : Array Value} (h : w.grownBy w' (some r)) (hb : Box w g t cs) (hg : g ≠ r) : Box w' g t cs := hb.grown h (fun e => hg (by injection e))
theorem drewG (w : World) (r : Nat) : w.grownBy w.drew (some r) := grown_bel (Below.refl _ _).drew _
theorem grown_new {w w' : World} {r : Nat} (h : w.grownBy w' (some r)) (i : Nat) (u : Value) : w.grownBy (w'.setCell ⟨w.heap.size, i, none⟩ u) (some r) :=
  ⟨h.os, h.tape, h.output, by have := h.size; simpa using this, fun k hk hne => (Below.heap_setCell w' ⟨w.heap.size, i, none⟩ u k (fun e => by have e1 : k = w.heap.size := e; omega)).trans (h.block k hk hne)⟩
set_option maxRecDepth 100000 in
set_option maxHeartbeats 3200000 in
theorem clP_any (r gv : Nat) (A : Option Addr) (n c : Nat) (l : List UInt8) (s : S2) (w : World) (h : RdAt w r A n c l s) (hv : Box w gv 138 #[.pointer (some ⟨r, 0, none⟩)]) (hgv : gv ≠ r) :
    Calls Try.prog 119 #[.pointer (some ⟨gv, 0, none⟩)] w (RdPost w r A n c l (lpagg (rdP l s).1) (rdP l s).2) := by
  have hal := below_box (w := w) (Obj.cells #[.string ⟨#[]⟩, .string ⟨#[]⟩] 94)
  have hrw := h.box.lt
  have H0 := Lib.hid (h.below hal)
  have HV : Hid (∀ wx, (w.alloc (.cells #[.string ⟨#[]⟩, .string ⟨#[]⟩] 94)).grownBy wx (some r) → wx.cell? ⟨gv, 0, none⟩ = some (.pointer (some ⟨r, 0, none⟩))) := Lib.hid fun wx hg => (grown_box hg (hv.below hal hv.lt) hgv).cell 0
  have HR : Hid (∀ wx, (w.alloc (.cells #[.string ⟨#[]⟩, .string ⟨#[]⟩] 94)).grownBy wx (some r) → Box wx w.heap.size 94 #[.string ⟨#[]⟩, .string ⟨#[]⟩]) := Lib.hid fun wx hg => grown_box hg (Box.made _ _ _) (by omega)
  have HA0 : Hid (w.grownBy (w.alloc (.cells #[.string ⟨#[]⟩, .string ⟨#[]⟩] 94)) (some r)) := Lib.hid (grown_bel hal _)
  have HD := Lib.hid (drewG (w.alloc (.cells #[.string ⟨#[]⟩, .string ⟨#[]⟩] 94)) r)
  have d0 : (w.alloc (.cells #[.string ⟨#[]⟩, .string ⟨#[]⟩] 94)).cell? ⟨gv, 0, none⟩ = some (.pointer (some ⟨r, 0, none⟩)) := HV.out _ (grown_bel (Below.refl _ _) _)
  obtain ⟨⟨t1, s1⟩, ht1⟩ : ∃ x, rdT l s = x := ⟨_, rfl⟩
  have C1 := Lib.hid (fun wx (hx : RdAt wx r A n c l s) => rdText_any r A n c l s wx hx)
  rw [ht1] at C1
  obtain ⟨⟨t2, s2⟩, ht2⟩ : ∃ x, rdT l s1 = x := ⟨_, rfl⟩
  have C2 := Lib.hid (fun wx (hx : RdAt wx r A n c l s1) => rdText_any r A n c l s1 wx hx)
  rw [ht2] at C2
  have HE : Hid (rdP l s = (⟨⟨t1.toArray⟩, ⟨t2.toArray⟩⟩, s2)) := Lib.hid (by unfold rdP; rw [ht1]; simp only; rw [ht2])
  obtain ⟨R9, hR9⟩ : ∃ R9, rdP l s = R9 := ⟨_, rfl⟩
  rw [hR9] at HE ⊢
  obtain rfl := HE.out.symm
  clear h hv hal HE hR9 ht1 ht2
  go_enter Try.func119, Try.ntmps119
  go_wp2
  go_region_law (first
    | (go_simp; refine (C1.out _ (H0.out.below (Below.refl _ _).drew)).mono ?_; rintro e x1 ⟨rfl, h1, g1⟩; have G1 : (w.alloc (.cells #[.string ⟨#[]⟩, .string ⟨#[]⟩] 94)).grownBy x1 (some r) := World.grownBy.trans HD.out g1; have d1 : x1.cell? ⟨gv, 0, none⟩ = some (.pointer (some ⟨r, 0, none⟩)) := HV.out _ G1)
    | (go_simp; refine (C2.out _ h1).mono ?_; rintro e x2 ⟨rfl, h2, g2⟩; have G2 : (w.alloc (.cells #[.string ⟨#[]⟩, .string ⟨#[]⟩] 94)).grownBy x2 (some r) := World.grownBy.trans G1 g2; have d2 : x2.cell? ⟨gv, 0, none⟩ = some (.pointer (some ⟨r, 0, none⟩)) := HV.out _ G2; have hb9 := HR.out _ G2; have u0 : x2.cell? ⟨w.heap.size, 0, none⟩ = some (.string ⟨#[]⟩) := hb9.cell 0; have f0 : x2.frozen? ⟨w.heap.size, 0, none⟩ = false := hb9.frozen 0; have u1 : x2.cell? ⟨w.heap.size, 1, none⟩ = some (.string ⟨#[]⟩) := hb9.cell 1; have f1 : x2.frozen? ⟨w.heap.size, 1, none⟩ = false := hb9.frozen 1))
  all_goals
    have hz9 := HR.out _ G2
    have hS := ((hz9.set_ 0 (.string ⟨t1.toArray⟩)).set_ 1 (.string ⟨t2.toArray⟩))
    have hG := (World.grownBy.trans HA0.out G2)
    have HRE : Hid (RdAt ((x2.setCell ⟨w.heap.size, 0, none⟩ (.string ⟨t1.toArray⟩)).setCell ⟨w.heap.size, 1, none⟩ (.string ⟨t2.toArray⟩)) r A n c l s2 ∧ w.grownBy ((x2.setCell ⟨w.heap.size, 0, none⟩ (.string ⟨t1.toArray⟩)).setCell ⟨w.heap.size, 1, none⟩ (.string ⟨t2.toArray⟩)) (some r)) := Lib.hid ⟨⟨((h2.box.far (p := ⟨w.heap.size, 0, none⟩) (by show r ≠ w.heap.size; omega) _).far (p := ⟨w.heap.size, 1, none⟩) (by show r ≠ w.heap.size; omega) _), (Has.setCell (Has.setCell h2.bytes (p := ⟨w.heap.size, 0, none⟩) (by show r ≤ w.heap.size; omega) _) (p := ⟨w.heap.size, 1, none⟩) (by show r ≤ w.heap.size; omega) _), h2.cap, h2.most⟩, (grown_new (grown_new hG 0 _) 1 _)⟩
    have p0 : ((x2.setCell ⟨w.heap.size, 0, none⟩ (.string ⟨t1.toArray⟩)).setCell ⟨w.heap.size, 1, none⟩ (.string ⟨t2.toArray⟩)).cell? ⟨w.heap.size, 0, none⟩ = some (.string ⟨t1.toArray⟩) := hS.cell 0
    have p1 : ((x2.setCell ⟨w.heap.size, 0, none⟩ (.string ⟨t1.toArray⟩)).setCell ⟨w.heap.size, 1, none⟩ (.string ⟨t2.toArray⟩)).cell? ⟨w.heap.size, 1, none⟩ = some (.string ⟨t2.toArray⟩) := hS.cell 1
    clear hS hz9 hG
    go_wp2
    refine bodyPost_ret (v := .agg #[.string ⟨t1.toArray⟩, .string ⟨t2.toArray⟩]) ?_ rfl ⟨rfl, HRE.out.1, HRE.out.2⟩
    simp [results, Try.results119, go_sem, p0, p1]
set_option maxRecDepth 100000 in
set_option maxHeartbeats 3200000 in
theorem clI_any (r gv : Nat) (A : Option Addr) (n c : Nat) (l : List UInt8) (s : S2) (w : World) (h : RdAt w r A n c l s) (hv : Box w gv 138 #[.pointer (some ⟨r, 0, none⟩)]) (hgv : gv ≠ r) :
    Calls Try.prog 121 #[.pointer (some ⟨gv, 0, none⟩)] w (RdPost w r A n c l (liagg (rdI l s).1) (rdI l s).2) := by
  have hal := below_box (w := w) (Obj.cells #[.string ⟨#[]⟩, .int .i64 0, .bool false] 96)
  have hrw := h.box.lt
  have H0 := Lib.hid (h.below hal)
  have HV : Hid (∀ wx, (w.alloc (.cells #[.string ⟨#[]⟩, .int .i64 0, .bool false] 96)).grownBy wx (some r) → wx.cell? ⟨gv, 0, none⟩ = some (.pointer (some ⟨r, 0, none⟩))) := Lib.hid fun wx hg => (grown_box hg (hv.below hal hv.lt) hgv).cell 0
  have HR : Hid (∀ wx, (w.alloc (.cells #[.string ⟨#[]⟩, .int .i64 0, .bool false] 96)).grownBy wx (some r) → Box wx w.heap.size 96 #[.string ⟨#[]⟩, .int .i64 0, .bool false]) := Lib.hid fun wx hg => grown_box hg (Box.made _ _ _) (by omega)
  have HA0 : Hid (w.grownBy (w.alloc (.cells #[.string ⟨#[]⟩, .int .i64 0, .bool false] 96)) (some r)) := Lib.hid (grown_bel hal _)
  have HD := Lib.hid (drewG (w.alloc (.cells #[.string ⟨#[]⟩, .int .i64 0, .bool false] 96)) r)
  have d0 : (w.alloc (.cells #[.string ⟨#[]⟩, .int .i64 0, .bool false] 96)).cell? ⟨gv, 0, none⟩ = some (.pointer (some ⟨r, 0, none⟩)) := HV.out _ (grown_bel (Below.refl _ _) _)
  obtain ⟨⟨t1, s1⟩, ht1⟩ : ∃ x, rdT l s = x := ⟨_, rfl⟩
  have C1 := Lib.hid (fun wx (hx : RdAt wx r A n c l s) => rdText_any r A n c l s wx hx)
  rw [ht1] at C1
  obtain ⟨⟨t2, s2⟩, ht2⟩ : ∃ x, rdN l 1099511627776 s1 = x := ⟨_, rfl⟩
  have C2 := Lib.hid (fun wx (hx : RdAt wx r A n c l s1) => rdNum_any r A n c l s1 1099511627776 wx hx)
  rw [ht2] at C2
  obtain ⟨⟨t3, s3⟩, ht3⟩ : ∃ x, rdN l 1 s2 = x := ⟨_, rfl⟩
  have C3 := Lib.hid (fun wx (hx : RdAt wx r A n c l s2) => yes_any r A n c l s2 wx hx)
  rw [ht3] at C3
  have HE : Hid (rdI l s = (⟨⟨t1.toArray⟩, (t2 : Int), decide (t3 = 1)⟩, s3)) := Lib.hid (by unfold rdI; rw [ht1]; simp only; rw [ht2]; simp only; rw [ht3])
  obtain ⟨R9, hR9⟩ : ∃ R9, rdI l s = R9 := ⟨_, rfl⟩
  rw [hR9] at HE ⊢
  obtain rfl := HE.out.symm
  clear h hv hal HE hR9 ht1 ht2 ht3
  go_enter Try.func121, Try.ntmps121
  go_wp2
  go_region_law (first
    | (go_simp; refine (C1.out _ (H0.out.below (Below.refl _ _).drew)).mono ?_; rintro e x1 ⟨rfl, h1, g1⟩; have G1 : (w.alloc (.cells #[.string ⟨#[]⟩, .int .i64 0, .bool false] 96)).grownBy x1 (some r) := World.grownBy.trans HD.out g1; have d1 : x1.cell? ⟨gv, 0, none⟩ = some (.pointer (some ⟨r, 0, none⟩)) := HV.out _ G1)
    | (go_simp; refine (C2.out _ h1).mono ?_; rintro e x2 ⟨rfl, h2, g2⟩; have G2 : (w.alloc (.cells #[.string ⟨#[]⟩, .int .i64 0, .bool false] 96)).grownBy x2 (some r) := World.grownBy.trans G1 g2; have d2 : x2.cell? ⟨gv, 0, none⟩ = some (.pointer (some ⟨r, 0, none⟩)) := HV.out _ G2)
    | (go_simp; refine (C3.out _ h2).mono ?_; rintro e x3 ⟨rfl, h3, g3⟩; have G3 : (w.alloc (.cells #[.string ⟨#[]⟩, .int .i64 0, .bool false] 96)).grownBy x3 (some r) := World.grownBy.trans G2 g3; have d3 : x3.cell? ⟨gv, 0, none⟩ = some (.pointer (some ⟨r, 0, none⟩)) := HV.out _ G3; have hb9 := HR.out _ G3; have u0 : x3.cell? ⟨w.heap.size, 0, none⟩ = some (.string ⟨#[]⟩) := hb9.cell 0; have f0 : x3.frozen? ⟨w.heap.size, 0, none⟩ = false := hb9.frozen 0; have u1 : x3.cell? ⟨w.heap.size, 1, none⟩ = some (.int .i64 0) := hb9.cell 1; have f1 : x3.frozen? ⟨w.heap.size, 1, none⟩ = false := hb9.frozen 1; have u2 : x3.cell? ⟨w.heap.size, 2, none⟩ = some (.bool false) := hb9.cell 2; have f2 : x3.frozen? ⟨w.heap.size, 2, none⟩ = false := hb9.frozen 2))
  all_goals
    have hz9 := HR.out _ G3
    have hS := (((hz9.set_ 0 (.string ⟨t1.toArray⟩)).set_ 1 (.int .i64 (t2 : Int))).set_ 2 (.bool (decide (t3 = 1))))
    have hG := (World.grownBy.trans HA0.out G3)
    have HRE : Hid (RdAt (((x3.setCell ⟨w.heap.size, 0, none⟩ (.string ⟨t1.toArray⟩)).setCell ⟨w.heap.size, 1, none⟩ (.int .i64 (t2 : Int))).setCell ⟨w.heap.size, 2, none⟩ (.bool (decide (t3 = 1)))) r A n c l s3 ∧ w.grownBy (((x3.setCell ⟨w.heap.size, 0, none⟩ (.string ⟨t1.toArray⟩)).setCell ⟨w.heap.size, 1, none⟩ (.int .i64 (t2 : Int))).setCell ⟨w.heap.size, 2, none⟩ (.bool (decide (t3 = 1)))) (some r)) := Lib.hid ⟨⟨(((h3.box.far (p := ⟨w.heap.size, 0, none⟩) (by show r ≠ w.heap.size; omega) _).far (p := ⟨w.heap.size, 1, none⟩) (by show r ≠ w.heap.size; omega) _).far (p := ⟨w.heap.size, 2, none⟩) (by show r ≠ w.heap.size; omega) _), (Has.setCell (Has.setCell (Has.setCell h3.bytes (p := ⟨w.heap.size, 0, none⟩) (by show r ≤ w.heap.size; omega) _) (p := ⟨w.heap.size, 1, none⟩) (by show r ≤ w.heap.size; omega) _) (p := ⟨w.heap.size, 2, none⟩) (by show r ≤ w.heap.size; omega) _), h3.cap, h3.most⟩, (grown_new (grown_new (grown_new hG 0 _) 1 _) 2 _)⟩
    have p0 : (((x3.setCell ⟨w.heap.size, 0, none⟩ (.string ⟨t1.toArray⟩)).setCell ⟨w.heap.size, 1, none⟩ (.int .i64 (t2 : Int))).setCell ⟨w.heap.size, 2, none⟩ (.bool (decide (t3 = 1)))).cell? ⟨w.heap.size, 0, none⟩ = some (.string ⟨t1.toArray⟩) := hS.cell 0
    have p1 : (((x3.setCell ⟨w.heap.size, 0, none⟩ (.string ⟨t1.toArray⟩)).setCell ⟨w.heap.size, 1, none⟩ (.int .i64 (t2 : Int))).setCell ⟨w.heap.size, 2, none⟩ (.bool (decide (t3 = 1)))).cell? ⟨w.heap.size, 1, none⟩ = some (.int .i64 (t2 : Int)) := hS.cell 1
    have p2 : (((x3.setCell ⟨w.heap.size, 0, none⟩ (.string ⟨t1.toArray⟩)).setCell ⟨w.heap.size, 1, none⟩ (.int .i64 (t2 : Int))).setCell ⟨w.heap.size, 2, none⟩ (.bool (decide (t3 = 1)))).cell? ⟨w.heap.size, 2, none⟩ = some (.bool (decide (t3 = 1))) := hS.cell 2
    clear hS hz9 hG
    go_wp2
    refine bodyPost_ret (v := .agg #[.string ⟨t1.toArray⟩, .int .i64 (t2 : Int), .bool (decide (t3 = 1))]) ?_ rfl ⟨rfl, HRE.out.1, HRE.out.2⟩
    simp [results, Try.results121, go_sem, p0, p1, p2]
end Go.Proofs.Ytaljojjpgkmiiaa

namespace Go.Proofs.Ytaljojjpgkmiiaa
open Go.RowKit
open Go.Lib (strCells)

def lenOf : Value → Nat
  | .slice _ n _ => n
  | _ => 0
theorem many_stop {α : Type} {f : S2 → α × S2} {k : Nat} {s : S2} (h : k = 0 ∨ s.2 ≠ 0) : rdMany f k s = ([], s) := by
  cases k with
  | zero => rfl
  | succ k =>
    rw [rdMany, if_pos]
    rcases h with h | h
    · omega
    · exact h
theorem many_step {α : Type} {f : S2 → α × S2} {k : Nat} {s : S2} {L : List α} {x : α} {s' : S2} {R : List α × S2} (hk : L.length < k) (hs : s.2 = 0) (hf : f s = (x, s'))
    (h : R = (L ++ (rdMany f (k - L.length) s).1, (rdMany f (k - L.length) s).2)) : R = ((L ++ [x]) ++ (rdMany f (k - (L ++ [x]).length) s').1, (rdMany f (k - (L ++ [x]).length) s').2) := by
  rw [h]
  obtain ⟨m, hm⟩ : ∃ m, k - L.length = m + 1 := ⟨k - L.length - 1, by omega⟩
  have hm' : k - (L ++ [x]).length = m := by rw [List.length_append]; simp; omega
  rw [hm, hm', rdMany, if_neg (by rw [hs]; simp)]
  simp [hf]
theorem own_far {w w' : World} {B m size r : Nat} {e : TypeId} {v : Value} {xs : List Value} (h : w.ownsRow B e size v m xs) (hg : w.grownBy w' (some r)) (hr : r < B) : w'.ownsRow B e size v m xs :=
  own_keepP h fun g e => hg.block g (h.lt g e).2 (fun e1 => by injection e1 with e1; have := (h.lt g e).1; omega)
/-- a row's own growth leaves what is older than it, but for the reader -/
theorem grown_own {w w1 w2 : World} {r B m size : Nat} {e : TypeId} {v : Value} {xs : List Value} (h : w.grownBy w1 (some r)) (ho : w1.ownsRow B e size v m xs) (hg : w1.grownBy w2 v.ownBlock) (hB : w.heap.size ≤ B) : w.grownBy w2 (some r) :=
  ⟨hg.os.trans h.os, hg.tape.trans h.tape, hg.output.trans h.output, Nat.le_trans h.size hg.size, fun k hk hne => (hg.block k (Nat.lt_of_lt_of_le hk h.size) (fun e1 => by have := (ho.lt k e1.symm).1; omega)).trans (h.block k hk hne)⟩
theorem RdAt.grownO {w w' : World} {r n c B : Nat} {A : Option Addr} {l : List UInt8} {s : Nat × Nat} {row : Option Nat} (h : RdAt w r A n c l s) (hB : r < B) (hg : w.grownBy w' row) (hr : ∀ g, row = some g → B ≤ g) : RdAt w' r A n c l s :=
  ⟨h.box.grown hg (fun e => by have := hr r e.symm; omega), Has.grown h.bytes hg (Nat.le_of_lt h.box.lt) (fun g e => by have := hr g e; omega), h.cap, h.most⟩
/-- what a list comes to -/
def listPPost (l : List UInt8) (s : S2) (w : World) (r : Nat) (A : Option Addr) (n c : Nat) (e : Ending) (w' : World) : Prop :=
  ∃ v, e = .returned v ∧ OwnLps w' w.heap.size v (rdList l (rdP l) s).1 ∧ RdAt w' r A n c l (rdList l (rdP l) s).2 ∧ w.grownBy w' (some r)
set_option maxRecDepth 100000 in
set_option maxHeartbeats 3200000 in
theorem listP_any (r gv : Nat) (A : Option Addr) (n c : Nat) (l : List UInt8) (s : S2) (w : World) (h : RdAt w r A n c l s) (hv : Box w gv 138 #[.pointer (some ⟨r, 0, none⟩)]) (hgv : gv ≠ r) :
    Calls Try.prog 118 #[.pointer (some ⟨r, 0, none⟩), .func (.func 119) #[] #[.pointer (some ⟨gv, 0, none⟩)]] w (listPPost l s w r A n c) := by
  have hrw := h.box.lt
  have HV := Lib.hid hv
  obtain ⟨R, hR⟩ : ∃ R, rdList l (rdP l) s = R := ⟨_, rfl⟩
  unfold listPPost
  rw [hR]
  unfold rdList rdCount at hR
  simp only at hR
  have HN := Lib.hid (rdNum_any r A n c l s 1099511627776 w h)
  obtain ⟨⟨k, s1⟩, hk⟩ : ∃ x, rdN l 1099511627776 s = x := ⟨_, rfl⟩
  rw [hk] at HN hR
  simp only at hR
  clear h hk hv
  by_cases h9 : 256 < k
  · rw [if_pos h9] at hR
    obtain ⟨s2, hs2⟩ : ∃ s2, (s1.1, if s1.2 = 0 then 4 else s1.2) = s2 := ⟨_, rfl⟩
    rw [hs2] at hR
    have HR := Lib.hid hR
    have HS2 := Lib.hid hs2
    have Hok : Hid (s2.2 = 0 → k ≤ 256) := Lib.hid fun h8 => by
      rw [← hs2] at h8
      by_cases h7 : s1.2 = 0 <;> simp [h7] at h8
    have h9' : (256 : Int) < (k : Int) := by omega
    clear hR hs2 h9
    go_enter Try.func118, Try.ntmps118
    go_wp2_with fail
    refine HN.out.mono ?_
    rintro e w1 hq
    obtain ⟨rfl, h1, g1⟩ := hq
    have HF : Hid (Calls Try.prog 90 #[.pointer (some ⟨r, 0, none⟩), .int .i64 4] w1 (RdPost w1 r A n c l (.tuple #[]) s2)) := Lib.hid (by rw [← HS2.out]; exact fail_any r A n c l s1 4 w1 h1)
    have HG1 := Lib.hid g1
    clear h1 g1 HN
    go_wp2_with fail
    refine HF.out.mono ?_
    rintro e w3 hq
    obtain ⟨rfl, h3, g3⟩ := hq
    have HA := Lib.hid (And.intro h3 (World.grownBy.trans HG1.out g3))
    clear h3 g3 HF
    go_wp2
    go_loopw [6] (fun lv wr => ∃ (L : List LPr) (s' : S2), OwnLps wr w.heap.size lv L ∧ RdAt wr r A n c l s' ∧ w.grownBy wr (some r) ∧ Hid (R = (L ++ (rdMany (rdP l) (k - L.length) s').1, (rdMany (rdP l) (k - L.length) s').2)) ∧ Hid (s'.2 = 0 → k ≤ 256) ∧ L.length ≤ k) (fun lv _ => k - lenOf lv)
    case atStart => exact ⟨[], s2, OwnLps.nil _ _, HA.out.1, HA.out.2, Lib.hid (by rw [← HR.out]; simp), Hok, Nat.zero_le _⟩
    case round =>
      clear HA
      obtain ⟨L, s', ho, hrd, hg, HJ, Hok', hLk⟩ := hrel
      obtain ⟨N, hN⟩ : ∃ N, L.length = N := ⟨_, rfl⟩
      obtain ⟨Ao, co, rfl, -, -, -⟩ := ho.slice
      have HO : Hid (wr.ownsRow w.heap.size 94 2 (.slice Ao N co) N (lpCells L)) := Lib.hid (by have h9 := ho; unfold OwnLps at h9; rw [hN] at h9; exact h9)
      have HOL := Lib.hid ho
      have HS := Lib.hid (And.intro hrd hg)
      obtain ⟨⟨c0, c1, c2⟩, f1, f2⟩ := hrd.cells
      have HNl := Lib.hid hN
      rw [hN] at hLk HOL ⊢
      obtain ⟨p', e'⟩ := s'
      simp only at c1 c2
      clear ho hrd hg hN c0 c1 f1 f2
      by_cases hlt : N < k
      · have hlt' : (N : Int) < (k : Int) := by omega
        by_cases he : e' = 0
        · subst he
          exact absurd (Hok'.out rfl) (by omega)
        · have he' : ((e' : Int) == 0) = false := by simpa using he
          have HE : Hid (R = (L, (p', e'))) := Lib.hid (by rw [HJ.out, many_stop (.inr he)]; simp)
          clear he
          go_wp2
          go_ret
          exact ⟨_, rfl, by rw [HE.out]; exact HOL.out, by rw [HE.out]; exact HS.out.1, HS.out.2⟩
      · have hlt' : ¬ (N : Int) < (k : Int) := by omega
        have HE : Hid (R = (L, (p', e'))) := Lib.hid (by rw [HJ.out, many_stop (.inl (by rw [HNl.out]; omega))]; simp)
        go_wp2
        go_ret
        exact ⟨_, rfl, by rw [HE.out]; exact HOL.out, by rw [HE.out]; exact HS.out.1, HS.out.2⟩
  · rw [if_neg h9] at hR
    obtain ⟨s2, hs2⟩ : ∃ s2, s1 = s2 := ⟨_, rfl⟩
    rw [hs2] at hR HN
    have HR := Lib.hid hR
    have Hok : Hid (s2.2 = 0 → k ≤ 256) := Lib.hid fun _ => by omega
    have h9' : ¬ (256 : Int) < (k : Int) := by omega
    clear hR hs2 h9
    go_enter Try.func118, Try.ntmps118
    go_wp2_with fail
    refine HN.out.mono ?_
    rintro e w1 hq
    obtain ⟨rfl, h1, g1⟩ := hq
    have HA := Lib.hid (And.intro h1 g1)
    clear h1 g1 HN
    go_wp2
    go_loopw [6] (fun lv wr => ∃ (L : List LPr) (s' : S2), OwnLps wr w.heap.size lv L ∧ RdAt wr r A n c l s' ∧ w.grownBy wr (some r) ∧ Hid (R = (L ++ (rdMany (rdP l) (k - L.length) s').1, (rdMany (rdP l) (k - L.length) s').2)) ∧ Hid (s'.2 = 0 → k ≤ 256) ∧ L.length ≤ k) (fun lv _ => k - lenOf lv)
    case atStart => exact ⟨[], s2, OwnLps.nil _ _, HA.out.1, HA.out.2, Lib.hid (by rw [← HR.out]; simp), Hok, Nat.zero_le _⟩
    case round =>
      clear HA
      obtain ⟨L, s', ho, hrd, hg, HJ, Hok', hLk⟩ := hrel
      obtain ⟨N, hN⟩ : ∃ N, L.length = N := ⟨_, rfl⟩
      obtain ⟨Ao, co, rfl, -, -, -⟩ := ho.slice
      have HO : Hid (wr.ownsRow w.heap.size 94 2 (.slice Ao N co) N (lpCells L)) := Lib.hid (by have h9 := ho; unfold OwnLps at h9; rw [hN] at h9; exact h9)
      have HOL := Lib.hid ho
      have HS := Lib.hid (And.intro hrd hg)
      obtain ⟨⟨c0, c1, c2⟩, f1, f2⟩ := hrd.cells
      have HNl := Lib.hid hN
      rw [hN] at hLk HOL ⊢
      obtain ⟨p', e'⟩ := s'
      simp only at c1 c2
      clear ho hrd hg hN c0 c1 f1 f2
      by_cases hlt : N < k
      · have hlt' : (N : Int) < (k : Int) := by omega
        by_cases he : e' = 0
        · subst he
          have hk256 : k ≤ 256 := Hok'.out rfl
          have HC := Lib.hid (clP_any r gv A n c l (p', 0) wr HS.out.1 (HV.out.grown HS.out.2 (fun e => hgv (by injection e))) hgv)
          obtain ⟨⟨⟨pk, pv⟩, s''⟩, hx⟩ : ∃ x, rdP l (p', 0) = x := ⟨_, rfl⟩
          rw [hx] at HC
          have HX := Lib.hid hx
          unfold lpagg at HC
          clear hx
          go_wp2_with fail
          refine HC.out.mono ?_
          rintro e w2 hq
          obtain ⟨rfl, h2, g2⟩ := hq
          have HO2 := Lib.hid (own_far HO.out g2 hrw)
          have H2 := Lib.hid (And.intro h2 (World.grownBy.trans HS.out.2 g2))
          have hbl := below_box (w := w2) (Obj.cells #[.string pk, .string pv] 94)
          have HO3 := Lib.hid (own_belowN HO2.out hbl)
          have H3 := Lib.hid (And.intro (h2.below hbl) (World.grownBy.trans H2.out.2 (grown_bel hbl (some r))))
          have hsz3 : w.heap.size ≤ (w2.alloc (Obj.cells #[.string pk, .string pv] 94)).heap.size := H3.out.2.size
          clear h2 g2 HC hbl
          go_wp2_with (at_builtin; refine wpList_append_hasN rfl (.tmp 24) (.tmp 27) _ rfl 94 lp_elem (by omega) Try.underlying66 rfl HO3.out rfl (Has.lit w2 #[.string pk, .string pv] 94) (lpCells_one [⟨pk, pv⟩]) (by simp only [maxLen]; omega) (by omega) hsz3 ?_; intro v7 w7 o7 g7 z7; obtain ⟨A7, c7, rfl, -, -, -⟩ := own_sliceN o7)
          have H7 : Hid (OwnLps w7 w.heap.size (.slice A7 (N + 1) c7) (L ++ [⟨pk, pv⟩]) ∧ RdAt w7 r A n c l s'' ∧ w.grownBy w7 (some r)) := Lib.hid ⟨by unfold OwnLps; rw [List.length_append, HNl.out, lpCells_app]; exact o7, H3.out.1.grownO (B := w.heap.size) hrw g7 (fun g e => (HO3.out.lt g e).1), grown_own H3.out.2 HO3.out g7 (Nat.le_refl _)⟩
          have HJ7 := Lib.hid (many_step (by rw [HNl.out]; exact hlt) rfl HX.out HJ.out)
          clear o7 g7 z7
          go_wp2
          go_roundw
          case rel => exact ⟨_, s'', H7.out.1, H7.out.2.1, H7.out.2.2, HJ7, Lib.hid (fun _ => hk256), by rw [List.length_append, HNl.out]; simp; omega⟩
          case measure => simp [lenOf]; omega
        · have he' : ((e' : Int) == 0) = false := by simpa using he
          have HE : Hid (R = (L, (p', e'))) := Lib.hid (by rw [HJ.out, many_stop (.inr he)]; simp)
          clear he
          go_wp2
          go_ret
          exact ⟨_, rfl, by rw [HE.out]; exact HOL.out, by rw [HE.out]; exact HS.out.1, HS.out.2⟩
      · have hlt' : ¬ (N : Int) < (k : Int) := by omega
        have HE : Hid (R = (L, (p', e'))) := Lib.hid (by rw [HJ.out, many_stop (.inl (by rw [HNl.out]; omega))]; simp)
        go_wp2
        go_ret
        exact ⟨_, rfl, by rw [HE.out]; exact HOL.out, by rw [HE.out]; exact HS.out.1, HS.out.2⟩
/-- what a list comes to -/
def listIPost (l : List UInt8) (s : S2) (w : World) (r : Nat) (A : Option Addr) (n c : Nat) (e : Ending) (w' : World) : Prop :=
  ∃ v, e = .returned v ∧ OwnLis w' w.heap.size v (rdList l (rdI l) s).1 ∧ RdAt w' r A n c l (rdList l (rdI l) s).2 ∧ w.grownBy w' (some r)
set_option maxRecDepth 100000 in
set_option maxHeartbeats 3200000 in
theorem listI_any (r gv : Nat) (A : Option Addr) (n c : Nat) (l : List UInt8) (s : S2) (w : World) (h : RdAt w r A n c l s) (hv : Box w gv 138 #[.pointer (some ⟨r, 0, none⟩)]) (hgv : gv ≠ r) :
    Calls Try.prog 120 #[.pointer (some ⟨r, 0, none⟩), .func (.func 121) #[] #[.pointer (some ⟨gv, 0, none⟩)]] w (listIPost l s w r A n c) := by
  have hrw := h.box.lt
  have HV := Lib.hid hv
  obtain ⟨R, hR⟩ : ∃ R, rdList l (rdI l) s = R := ⟨_, rfl⟩
  unfold listIPost
  rw [hR]
  unfold rdList rdCount at hR
  simp only at hR
  have HN := Lib.hid (rdNum_any r A n c l s 1099511627776 w h)
  obtain ⟨⟨k, s1⟩, hk⟩ : ∃ x, rdN l 1099511627776 s = x := ⟨_, rfl⟩
  rw [hk] at HN hR
  simp only at hR
  clear h hk hv
  by_cases h9 : 256 < k
  · rw [if_pos h9] at hR
    obtain ⟨s2, hs2⟩ : ∃ s2, (s1.1, if s1.2 = 0 then 4 else s1.2) = s2 := ⟨_, rfl⟩
    rw [hs2] at hR
    have HR := Lib.hid hR
    have HS2 := Lib.hid hs2
    have Hok : Hid (s2.2 = 0 → k ≤ 256) := Lib.hid fun h8 => by
      rw [← hs2] at h8
      by_cases h7 : s1.2 = 0 <;> simp [h7] at h8
    have h9' : (256 : Int) < (k : Int) := by omega
    clear hR hs2 h9
    go_enter Try.func120, Try.ntmps120
    go_wp2_with fail
    refine HN.out.mono ?_
    rintro e w1 hq
    obtain ⟨rfl, h1, g1⟩ := hq
    have HF : Hid (Calls Try.prog 90 #[.pointer (some ⟨r, 0, none⟩), .int .i64 4] w1 (RdPost w1 r A n c l (.tuple #[]) s2)) := Lib.hid (by rw [← HS2.out]; exact fail_any r A n c l s1 4 w1 h1)
    have HG1 := Lib.hid g1
    clear h1 g1 HN
    go_wp2_with fail
    refine HF.out.mono ?_
    rintro e w3 hq
    obtain ⟨rfl, h3, g3⟩ := hq
    have HA := Lib.hid (And.intro h3 (World.grownBy.trans HG1.out g3))
    clear h3 g3 HF
    go_wp2
    go_loopw [6] (fun lv wr => ∃ (L : List LIt) (s' : S2), OwnLis wr w.heap.size lv L ∧ RdAt wr r A n c l s' ∧ w.grownBy wr (some r) ∧ Hid (R = (L ++ (rdMany (rdI l) (k - L.length) s').1, (rdMany (rdI l) (k - L.length) s').2)) ∧ Hid (s'.2 = 0 → k ≤ 256) ∧ L.length ≤ k) (fun lv _ => k - lenOf lv)
    case atStart => exact ⟨[], s2, OwnLis.nil _ _, HA.out.1, HA.out.2, Lib.hid (by rw [← HR.out]; simp), Hok, Nat.zero_le _⟩
    case round =>
      clear HA
      obtain ⟨L, s', ho, hrd, hg, HJ, Hok', hLk⟩ := hrel
      obtain ⟨N, hN⟩ : ∃ N, L.length = N := ⟨_, rfl⟩
      obtain ⟨Ao, co, rfl, -, -, -⟩ := ho.slice
      have HO : Hid (wr.ownsRow w.heap.size 96 3 (.slice Ao N co) N (liCells L)) := Lib.hid (by have h9 := ho; unfold OwnLis at h9; rw [hN] at h9; exact h9)
      have HOL := Lib.hid ho
      have HS := Lib.hid (And.intro hrd hg)
      obtain ⟨⟨c0, c1, c2⟩, f1, f2⟩ := hrd.cells
      have HNl := Lib.hid hN
      rw [hN] at hLk HOL ⊢
      obtain ⟨p', e'⟩ := s'
      simp only at c1 c2
      clear ho hrd hg hN c0 c1 f1 f2
      by_cases hlt : N < k
      · have hlt' : (N : Int) < (k : Int) := by omega
        by_cases he : e' = 0
        · subst he
          exact absurd (Hok'.out rfl) (by omega)
        · have he' : ((e' : Int) == 0) = false := by simpa using he
          have HE : Hid (R = (L, (p', e'))) := Lib.hid (by rw [HJ.out, many_stop (.inr he)]; simp)
          clear he
          go_wp2
          go_ret
          exact ⟨_, rfl, by rw [HE.out]; exact HOL.out, by rw [HE.out]; exact HS.out.1, HS.out.2⟩
      · have hlt' : ¬ (N : Int) < (k : Int) := by omega
        have HE : Hid (R = (L, (p', e'))) := Lib.hid (by rw [HJ.out, many_stop (.inl (by rw [HNl.out]; omega))]; simp)
        go_wp2
        go_ret
        exact ⟨_, rfl, by rw [HE.out]; exact HOL.out, by rw [HE.out]; exact HS.out.1, HS.out.2⟩
  · rw [if_neg h9] at hR
    obtain ⟨s2, hs2⟩ : ∃ s2, s1 = s2 := ⟨_, rfl⟩
    rw [hs2] at hR HN
    have HR := Lib.hid hR
    have Hok : Hid (s2.2 = 0 → k ≤ 256) := Lib.hid fun _ => by omega
    have h9' : ¬ (256 : Int) < (k : Int) := by omega
    clear hR hs2 h9
    go_enter Try.func120, Try.ntmps120
    go_wp2_with fail
    refine HN.out.mono ?_
    rintro e w1 hq
    obtain ⟨rfl, h1, g1⟩ := hq
    have HA := Lib.hid (And.intro h1 g1)
    clear h1 g1 HN
    go_wp2
    go_loopw [6] (fun lv wr => ∃ (L : List LIt) (s' : S2), OwnLis wr w.heap.size lv L ∧ RdAt wr r A n c l s' ∧ w.grownBy wr (some r) ∧ Hid (R = (L ++ (rdMany (rdI l) (k - L.length) s').1, (rdMany (rdI l) (k - L.length) s').2)) ∧ Hid (s'.2 = 0 → k ≤ 256) ∧ L.length ≤ k) (fun lv _ => k - lenOf lv)
    case atStart => exact ⟨[], s2, OwnLis.nil _ _, HA.out.1, HA.out.2, Lib.hid (by rw [← HR.out]; simp), Hok, Nat.zero_le _⟩
    case round =>
      clear HA
      obtain ⟨L, s', ho, hrd, hg, HJ, Hok', hLk⟩ := hrel
      obtain ⟨N, hN⟩ : ∃ N, L.length = N := ⟨_, rfl⟩
      obtain ⟨Ao, co, rfl, -, -, -⟩ := ho.slice
      have HO : Hid (wr.ownsRow w.heap.size 96 3 (.slice Ao N co) N (liCells L)) := Lib.hid (by have h9 := ho; unfold OwnLis at h9; rw [hN] at h9; exact h9)
      have HOL := Lib.hid ho
      have HS := Lib.hid (And.intro hrd hg)
      obtain ⟨⟨c0, c1, c2⟩, f1, f2⟩ := hrd.cells
      have HNl := Lib.hid hN
      rw [hN] at hLk HOL ⊢
      obtain ⟨p', e'⟩ := s'
      simp only at c1 c2
      clear ho hrd hg hN c0 c1 f1 f2
      by_cases hlt : N < k
      · have hlt' : (N : Int) < (k : Int) := by omega
        by_cases he : e' = 0
        · subst he
          have hk256 : k ≤ 256 := Hok'.out rfl
          have HC := Lib.hid (clI_any r gv A n c l (p', 0) wr HS.out.1 (HV.out.grown HS.out.2 (fun e => hgv (by injection e))) hgv)
          obtain ⟨⟨⟨pe, pn, pg⟩, s''⟩, hx⟩ : ∃ x, rdI l (p', 0) = x := ⟨_, rfl⟩
          rw [hx] at HC
          have HX := Lib.hid hx
          unfold liagg at HC
          clear hx
          go_wp2_with fail
          refine HC.out.mono ?_
          rintro e w2 hq
          obtain ⟨rfl, h2, g2⟩ := hq
          have HO2 := Lib.hid (own_far HO.out g2 hrw)
          have H2 := Lib.hid (And.intro h2 (World.grownBy.trans HS.out.2 g2))
          have hbl := below_box (w := w2) (Obj.cells #[.string pe, .int .i64 pn, .bool pg] 96)
          have HO3 := Lib.hid (own_belowN HO2.out hbl)
          have H3 := Lib.hid (And.intro (h2.below hbl) (World.grownBy.trans H2.out.2 (grown_bel hbl (some r))))
          have hsz3 : w.heap.size ≤ (w2.alloc (Obj.cells #[.string pe, .int .i64 pn, .bool pg] 96)).heap.size := H3.out.2.size
          clear h2 g2 HC hbl
          go_wp2_with (at_builtin; refine wpList_append_hasN rfl (.tmp 24) (.tmp 27) _ rfl 96 li_elem (by omega) Try.underlying67 rfl HO3.out rfl (Has.lit w2 #[.string pe, .int .i64 pn, .bool pg] 96) (liCells_one [⟨pe, pn, pg⟩]) (by simp only [maxLen]; omega) (by omega) hsz3 ?_; intro v7 w7 o7 g7 z7; obtain ⟨A7, c7, rfl, -, -, -⟩ := own_sliceN o7)
          have H7 : Hid (OwnLis w7 w.heap.size (.slice A7 (N + 1) c7) (L ++ [⟨pe, pn, pg⟩]) ∧ RdAt w7 r A n c l s'' ∧ w.grownBy w7 (some r)) := Lib.hid ⟨by unfold OwnLis; rw [List.length_append, HNl.out, liCells_app]; exact o7, H3.out.1.grownO (B := w.heap.size) hrw g7 (fun g e => (HO3.out.lt g e).1), grown_own H3.out.2 HO3.out g7 (Nat.le_refl _)⟩
          have HJ7 := Lib.hid (many_step (by rw [HNl.out]; exact hlt) rfl HX.out HJ.out)
          clear o7 g7 z7
          go_wp2
          go_roundw
          case rel => exact ⟨_, s'', H7.out.1, H7.out.2.1, H7.out.2.2, HJ7, Lib.hid (fun _ => hk256), by rw [List.length_append, HNl.out]; simp; omega⟩
          case measure => simp [lenOf]; omega
        · have he' : ((e' : Int) == 0) = false := by simpa using he
          have HE : Hid (R = (L, (p', e'))) := Lib.hid (by rw [HJ.out, many_stop (.inr he)]; simp)
          clear he
          go_wp2
          go_ret
          exact ⟨_, rfl, by rw [HE.out]; exact HOL.out, by rw [HE.out]; exact HS.out.1, HS.out.2⟩
      · have hlt' : ¬ (N : Int) < (k : Int) := by omega
        have HE : Hid (R = (L, (p', e'))) := Lib.hid (by rw [HJ.out, many_stop (.inl (by rw [HNl.out]; omega))]; simp)
        go_wp2
        go_ret
        exact ⟨_, rfl, by rw [HE.out]; exact HOL.out, by rw [HE.out]; exact HS.out.1, HS.out.2⟩
end Go.Proofs.Ytaljojjpgkmiiaa

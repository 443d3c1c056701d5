/- A table beside a reader; once's load of one client. Condition: both are in memory, in blocks of their own; at most 100,000 bytes. -/
import Derived.Test.YtdfhnjocpfjagaaMSvA
import Derived.Test.YtdfhnjocpfjagaaMSvPk
import Derived.Test.YtdfhnjocpfjagaaObA
import Derived.Test.YtdfhnjocpfjagaaStep
import Derived.Deep.RegionHeld3
import Derived.Deep.RegionLaw
namespace Go.Proofs.Ytdfhnjocpfjagaa
open Go.RowKit
open Go.Lib (strCells)

/-- a reader in memory: of the bytes l, at a place, with a fault -/
structure RdO (w : World) (r : Nat) (A : Option Addr) (n c : Nat) (l : List UInt8) (s : Rs) : Prop where
  box : Box w r 145 #[.slice A n c, .int .i64 (s.1 : Int), .int .i64 (s.2 : Int)]
  bytes : HasBytes w r A n l
  cap : n ≤ c
  most : n ≤ 100000
section
variable {w w' : World} {r n c : Nat} {A : Option Addr} {l : List UInt8} {s : Rs}
theorem RdO.below (h : RdO w r A n c l s) (hb : Below w.heap.size w w') : RdO w' r A n c l s := ⟨h.box.below hb h.box.lt, Has.belowOf h.bytes hb (Nat.le_of_lt h.box.lt), h.cap, h.most⟩
theorem RdO.cells (h : RdO w r A n c l s) : (w.cell? ⟨r, 0, none⟩ = some (.slice A n c) ∧ w.cell? ⟨r, 1, none⟩ = some (.int .i64 (s.1 : Int)) ∧ w.cell? ⟨r, 2, none⟩ = some (.int .i64 (s.2 : Int))) ∧ (w.frozen? ⟨r, 1, none⟩ = false ∧ w.frozen? ⟨r, 2, none⟩ = false) :=
  ⟨⟨h.box.cell 0, h.box.cell 1, h.box.cell 2⟩, h.box.frozen 1, h.box.frozen 2⟩
theorem RdO.set (h : RdO w r A n c l s) (p e : Nat) : RdO ((w.setCell ⟨r, 1, none⟩ (.int .i64 (p : Int))).setCell ⟨r, 2, none⟩ (.int .i64 (e : Int))) r A n c l (p, e) ∧ w.grownBy ((w.setCell ⟨r, 1, none⟩ (.int .i64 (p : Int))).setCell ⟨r, 2, none⟩ (.int .i64 (e : Int))) (some r) := by
  have b1 : Box _ r 145 #[.slice A n c, .int .i64 (p : Int), .int .i64 (s.2 : Int)] := h.box.set_ 1 (.int .i64 (p : Int))
  have b2 : Box _ r 145 #[.slice A n c, .int .i64 (p : Int), .int .i64 (e : Int)] := b1.set_ 2 (.int .i64 (e : Int))
  exact ⟨⟨b2, Has.setCell (Has.setCell h.bytes (Nat.le_refl _) _) (Nat.le_refl _) _, h.cap, h.most⟩, World.grownBy.trans (grown_set w r 1 _) (grown_set _ r 2 _)⟩
end
/-- what a call of the reader's leaves -/
def RdP (w : World) (r : Nat) (A : Option Addr) (n c : Nat) (l : List UInt8) (v : Value) (s' : Rs) (e : Ending) (w' : World) : Prop :=
  e = .returned v ∧ RdO w' r A n c l s' ∧ w.grownBy w' (some r)
set_option maxRecDepth 100000 in
set_option maxHeartbeats 3200000 in
theorem rdN_any (r : Nat) (A : Option Addr) (n c : Nat) (l : List UInt8) (s : Rs) (w : World) (h : RdO w r A n c l s) :
    Calls Try.prog 99 #[.pointer (some ⟨r, 0, none⟩)] w (RdP w r A n c l (.int .i64 (((rNum l s).1 : Nat) : Int)) (rNum l s).2) := by
  obtain ⟨p, e⟩ := s
  obtain ⟨⟨c0, c1, c2⟩, f1, f2⟩ := h.cells
  simp only at c1 c2
  obtain ⟨R, hR⟩ : ∃ R, rNum l (p, e) = R := ⟨_, rfl⟩
  rw [hR]
  have HRR := Lib.hid hR
  clear hR
  by_cases he : e = 0
  · subst he
    have HR := Lib.hid h
    obtain ⟨⟨x, q, z⟩, hg⟩ : ∃ g, getNum l (p : Int) = g := ⟨_, rfl⟩
    have HE : Hid (R = (x, (q, z))) := Lib.hid (by rw [← HRR.out]; unfold rNum; simp only [hg]; rw [if_neg (by simp)])
    have HC := Lib.hid (fun wx (hx : Below w.heap.size w wx) => getNum_any A n c r (p : Int) l wx (HR.out.below hx).bytes (by have := HR.out.most; unfold maxLen; omega) HR.out.cap)
    rw [hg] at HC
    have HK : Hid (∀ wx, Below w.heap.size w wx → wx.cell? ⟨r, 0, none⟩ = some (.slice A n c)) := Lib.hid fun wx hx => (HR.out.below hx).cells.1.1
    have HD : Hid (Below w.heap.size w w.drew) := Lib.hid (Below.refl _ _).drew
    have HC1 := Lib.hid (HC.out _ HD.out)
    have HZ : Hid (∀ wx, Below w.heap.size w wx → RdO wx r A n c l (p, 0)) := Lib.hid fun wx hx => HR.out.below hx
    have HZ1 : Hid (∀ wx, Below w.heap.size w wx → wx.cell? ⟨r, 1, none⟩ = some (.int .i64 (p : Int)) ∧ wx.frozen? ⟨r, 1, none⟩ = false) := Lib.hid fun wx hx => ⟨(HR.out.below hx).cells.1.2.1, (HR.out.below hx).cells.2.1⟩
    clear h hg HC HRR
    obtain rfl : R = _ := HE.out
    go_enter Try.func99, Try.ntmps99
    go_wp2
    go_region_law (first | (go_simp; go_wp2_with (go_at_call 16; refine HC1.out.mono ?_; rintro e w2 ⟨rfl, rfl⟩)))
    all_goals
      obtain ⟨m1, m2⟩ := HR.out.set q z
      obtain ⟨W, hW⟩ : ∃ W, ((w.setCell ⟨r, 1, none⟩ (.int .i64 (q : Int))).setCell ⟨r, 2, none⟩ (.int .i64 (z : Int))).drew = W := ⟨_, rfl⟩
      have HF : Hid (RdO W r A n c l (q, z) ∧ w.grownBy W (some r)) := Lib.hid (hW ▸ ⟨m1.below (Below.refl _ _).drew, World.grownBy.trans m2 (grown_bel (Below.refl _ _).drew _)⟩)
      rw [hW]
      clear hW m1 m2
      go_wp2
      go_ret
      exact ⟨rfl, HF.out.1, HF.out.2⟩
  · have he' : ((e : Int) == 0) = false := by simpa using he
    have HE : Hid (rNum l (p, e) = (0, (p, e))) := Lib.hid (if_pos he)
    have HR := Lib.hid h
    obtain rfl : _ = R := HE.out.symm.trans HRR.out
    clear he h
    go_enter Try.func99, Try.ntmps99
    go_wp2
    go_ret
    exact ⟨rfl, HR.out, grown_bel (Below.refl _ _) _⟩
set_option maxRecDepth 100000 in
set_option maxHeartbeats 3200000 in
theorem rdT_any (r : Nat) (A : Option Addr) (n c : Nat) (l : List UInt8) (s : Rs) (w : World) (h : RdO w r A n c l s) :
    Calls Try.prog 128 #[.pointer (some ⟨r, 0, none⟩)] w (RdP w r A n c l (.string ⟨(rTxt l s).1.toArray⟩) (rTxt l s).2) := by
  obtain ⟨p, e⟩ := s
  obtain ⟨⟨c0, c1, c2⟩, f1, f2⟩ := h.cells
  simp only at c1 c2
  obtain ⟨R, hR⟩ : ∃ R, rTxt l (p, e) = R := ⟨_, rfl⟩
  rw [hR]
  have HRR := Lib.hid hR
  clear hR
  by_cases he : e = 0
  · subst he
    have HR := Lib.hid h
    obtain ⟨⟨x, q, z⟩, hg⟩ : ∃ g, getText l (p : Int) (l.length : Int) = g := ⟨_, rfl⟩
    have HE : Hid (R = (x, (q, z))) := Lib.hid (by rw [← HRR.out]; unfold rTxt; simp only [hg]; rw [if_neg (by simp)])
    have HC := Lib.hid (fun wx (hx : Below w.heap.size w wx) => getText_any A n c r (p : Int) (l.length : Int) l wx (HR.out.below hx).bytes (by have := HR.out.most; omega) HR.out.cap)
    rw [hg] at HC
    have hln : (l.length : Int) = (n : Int) := by have := HR.out.bytes.len; omega
    rw [hln] at HC
    clear hln
    have HK : Hid (∀ wx, Below w.heap.size w wx → wx.cell? ⟨r, 0, none⟩ = some (.slice A n c)) := Lib.hid fun wx hx => (HR.out.below hx).cells.1.1
    have HD : Hid (Below w.heap.size w w.drew) := Lib.hid (Below.refl _ _).drew
    have HC1 := Lib.hid (HC.out _ HD.out)
    have HZ : Hid (∀ wx, Below w.heap.size w wx → RdO wx r A n c l (p, 0)) := Lib.hid fun wx hx => HR.out.below hx
    have HZ1 : Hid (∀ wx, Below w.heap.size w wx → wx.cell? ⟨r, 1, none⟩ = some (.int .i64 (p : Int)) ∧ wx.frozen? ⟨r, 1, none⟩ = false) := Lib.hid fun wx hx => ⟨(HR.out.below hx).cells.1.2.1, (HR.out.below hx).cells.2.1⟩
    clear h hg HC HRR
    obtain rfl : R = _ := HE.out
    go_enter Try.func128, Try.ntmps128
    go_wp2
    go_region_law (first | (go_simp; go_wp2_with (go_at_call 23; refine HC1.out.mono ?_; rintro e w2 ⟨rfl, rfl⟩)))
    all_goals
      obtain ⟨m1, m2⟩ := HR.out.set q z
      obtain ⟨W, hW⟩ : ∃ W, ((w.setCell ⟨r, 1, none⟩ (.int .i64 (q : Int))).setCell ⟨r, 2, none⟩ (.int .i64 (z : Int))).drew = W := ⟨_, rfl⟩
      have HF : Hid (RdO W r A n c l (q, z) ∧ w.grownBy W (some r)) := Lib.hid (hW ▸ ⟨m1.below (Below.refl _ _).drew, World.grownBy.trans m2 (grown_bel (Below.refl _ _).drew _)⟩)
      rw [hW]
      clear hW m1 m2
      go_wp2
      go_ret
      exact ⟨rfl, HF.out.1, HF.out.2⟩
  · have he' : ((e : Int) == 0) = false := by simpa using he
    have HE : Hid (rTxt l (p, e) = ([], (p, e))) := Lib.hid (if_pos he)
    have HR := Lib.hid h
    obtain rfl : _ = R := HE.out.symm.trans HRR.out
    clear he h
    go_enter Try.func128, Try.ntmps128
    go_wp2
    go_ret
    exact ⟨rfl, HR.out, grown_bel (Below.refl _ _) _⟩
end Go.Proofs.Ytdfhnjocpfjagaa

namespace Go.Proofs.Ytdfhnjocpfjagaa
open Go.RowKit
open Go.Lib (strCells)

theorem getText_short (l : List UInt8) (p : Int) : (getText l p (l.length : Int)).1.length ≤ l.length := by
  unfold getText
  simp only
  split
  · simp
  · split
    · simp
    · split
      · simp
      · simp only [List.length_take, List.length_drop]; omega
theorem rTxt_short (l : List UInt8) (s : Rs) : (rTxt l s).1.length ≤ l.length := by
  unfold rTxt
  split
  · simp
  · exact getText_short _ _
theorem rd_grown {w w' : World} {r n c : Nat} {A : Option Addr} {l : List UInt8} {s : Rs} (h : RdO w r A n c l s) {g : Nat} (hg : w.grownBy w' (some g)) (hne : r < g) : RdO w' r A n c l s :=
  ⟨h.box.grown hg (by intro e; injection e with e; omega), Has.keep h.bytes fun p hp => by unfold World.cell?; rw [hg.block p.block (by have := h.box.lt; omega) (by intro e; injection e with e; omega)], h.cap, h.most⟩
theorem grown_new {w a b : World} {r g : Nat} (h : w.grownBy a (some r)) (k : a.grownBy b (some g)) (hg : w.heap.size ≤ g) : w.grownBy b (some r) :=
  ⟨k.os.trans h.os, k.tape.trans h.tape, k.output.trans h.output, Nat.le_trans h.size k.size, fun i hi hne => (k.block i (Nat.lt_of_lt_of_le hi h.size) (by intro e; injection e with e; omega)).trans (h.block i hi hne)⟩
/-- what reply leaves -/
def RepP (w : World) (r : Nat) (A : Option Addr) (n c : Nat) (l : List UInt8) (q : Rp) (s' : Rs) (e : Ending) (w' : World) : Prop :=
  ∃ (A' : Option Addr) (c' : Nat), e = .returned (.agg #[.int .i64 q.code, .bool q.there, .slice A' q.rc.length c', .slice none 0 0, .int .i64 q.id]) ∧ HasVals w' w'.heap.size A' q.rc.length q.rc ∧ RdO w' r A n c l s' ∧ w.grownBy w' (some r)
set_option maxRecDepth 100000 in
set_option maxHeartbeats 6400000 in
theorem rdR_any (r : Nat) (A : Option Addr) (n c : Nat) (l : List UInt8) (s : Rs) (w : World) (h : RdO w r A n c l s) :
    Calls Try.prog 117 #[.pointer (some ⟨r, 0, none⟩)] w (RepP w r A n c l (rRep l s).1 (rRep l s).2) := by
  obtain ⟨w1, hw1⟩ : ∃ w1, w.alloc (.cells #[.int .i64 0, .bool false, .slice none 0 0, .slice none 0 0, .int .i64 0] 82) = w1 := ⟨_, rfl⟩
  have bx1 : Box w1 w.heap.size 82 #[.int .i64 0, .bool false, .slice none 0 0, .slice none 0 0, .int .i64 0] := hw1 ▸ Box.made _ _ _
  have bw1 : Below w.heap.size w w1 := hw1 ▸ below_box _
  have HR1 := Lib.hid (And.intro (h.below bw1) (And.intro bx1 bw1))
  have hrw : r < w.heap.size := h.box.lt
  obtain ⟨⟨x1, s1⟩, h1⟩ : ∃ R, rNum l s = R := ⟨_, rfl⟩
  obtain ⟨⟨x2, s2⟩, h2⟩ : ∃ R, rNum l s1 = R := ⟨_, rfl⟩
  obtain ⟨⟨x3, s3⟩, h3⟩ : ∃ R, rNum l s2 = R := ⟨_, rfl⟩
  obtain ⟨⟨t4, s4⟩, h4⟩ : ∃ R, rTxt l s3 = R := ⟨_, rfl⟩
  have hE : rRep l s = (⟨(x1 : Nat), decide (x2 = 1), unpT t4, (x3 : Nat)⟩, s4) := by unfold rRep; rw [h1]; simp only; rw [h2]; simp only; rw [h3]; simp only; rw [h4]
  have Ht4 : Hid (t4.length ≤ 100000) := Lib.hid (by
    have q1 := rTxt_short l s3
    rw [h4] at q1
    have q2 := h.bytes.len
    have q3 := h.most
    simp only at q1
    omega)
  rw [hE]
  simp only
  have Hn1 := Lib.hid (fun wx (hx : RdO wx r A n c l s) => rdN_any r A n c l s wx hx)
  have Hn2 := Lib.hid (fun wx (hx : RdO wx r A n c l s1) => rdN_any r A n c l s1 wx hx)
  have Hn3 := Lib.hid (fun wx (hx : RdO wx r A n c l s2) => rdN_any r A n c l s2 wx hx)
  have Hn4 := Lib.hid (fun wx (hx : RdO wx r A n c l s3) => rdT_any r A n c l s3 wx hx)
  have Hun := Lib.hid (fun wx => unpack17_any ⟨t4.toArray⟩ wx (by have := Ht4.out; simp [ByteArray.size]; omega))
  rw [h1] at Hn1
  rw [h2] at Hn2
  rw [h3] at Hn3
  rw [h4] at Hn4
  simp only at Hn1 Hn2 Hn3 Hn4 Hun
  clear h h1 h2 h3 h4 hE bx1 bw1
  go_enter Try.func117, Try.ntmps117
  go_wp2_with fail
  refine (Hn1.out w1 HR1.out.1).mono ?_
  rintro e w2 ⟨rfl, r2, g2⟩
  have HR2 := Lib.hid (And.intro r2 (And.intro (HR1.out.2.1.grown g2 (by intro e; injection e with e; omega)) ((grown_bel HR1.out.2.2 (some r)).trans g2)))
  clear r2 g2
  go_wp2_with fail
  refine (Hn2.out w2 HR2.out.1).mono ?_
  rintro e w3 ⟨rfl, r3, g3⟩
  have HR3 := Lib.hid (And.intro r3 (And.intro (HR2.out.2.1.grown g3 (by intro e; injection e with e; omega)) (HR2.out.2.2.trans g3)))
  clear r3 g3
  go_wp2_with fail
  refine (Hn3.out w3 HR3.out.1).mono ?_
  rintro e w4 ⟨rfl, r4, g4⟩
  have HR4 := Lib.hid (And.intro r4 (And.intro (HR3.out.2.1.grown g4 (by intro e; injection e with e; omega)) (HR3.out.2.2.trans g4)))
  clear r4 g4
  obtain ⟨B2, hB2⟩ : ∃ B2, decide (x2 = 1) = B2 := ⟨_, rfl⟩
  have hb2 : ((x2 : Int) == 1) = B2 := by
    rw [← hB2]
    by_cases h : x2 = 1
    · subst h; rfl
    · have h2 : ((x2 : Int) == 1) = false := beq_false_of_ne (by omega)
      rw [h2]; exact (decide_eq_false h).symm
  have HB2 := Lib.hid hB2
  clear hB2
  obtain ⟨w5a, hw5a⟩ : ∃ wx, w4.alloc (.cells #[.int .i64 0, .bool false, .slice none 0 0, .slice none 0 0, .int .i64 0] 82) = wx := ⟨_, rfl⟩
  have xw5a : Box w5a w4.heap.size 82 #[.int .i64 0, .bool false, .slice none 0 0, .slice none 0 0, .int .i64 0] := hw5a ▸ Box.made _ _ _
  have uw5a : Below w4.heap.size w4 w5a := hw5a ▸ below_box _
  obtain ⟨w5, hw5⟩ : ∃ wx, (((((w5a.setCell ⟨w4.heap.size, 0, none⟩ (.int .i64 (x1 : Int))).setCell ⟨w4.heap.size, 1, none⟩ (.bool B2)).setCell ⟨w4.heap.size, 2, none⟩ (.slice none 0 0)).setCell ⟨w4.heap.size, 3, none⟩ (.slice none 0 0)).setCell ⟨w4.heap.size, 4, none⟩ (.int .i64 (x3 : Int))) = wx := ⟨_, rfl⟩
  obtain ⟨xw5, gw5, sw5⟩ := store5 xw5a hw5
  have uw5 : Below w4.heap.size w4 w5 := uw5a.grown gw5 uw5a.size (fun g hg => by injection hg with hg; omega)
  have d0 : w5a.cell? ⟨w4.heap.size, 0, none⟩ = some (.int .i64 0) := xw5a.cell 0
  have d1 : w5a.cell? ⟨w4.heap.size, 1, none⟩ = some (.bool false) := xw5a.cell 1
  have d2 : w5a.cell? ⟨w4.heap.size, 2, none⟩ = some (.slice none 0 0) := xw5a.cell 2
  have d3 : w5a.cell? ⟨w4.heap.size, 3, none⟩ = some (.slice none 0 0) := xw5a.cell 3
  have d4 : w5a.cell? ⟨w4.heap.size, 4, none⟩ = some (.int .i64 0) := xw5a.cell 4
  have f0 : w5a.frozen? ⟨w4.heap.size, 0, none⟩ = false := xw5a.frozen 0
  have f1 : w5a.frozen? ⟨w4.heap.size, 1, none⟩ = false := xw5a.frozen 1
  have f2 : w5a.frozen? ⟨w4.heap.size, 2, none⟩ = false := xw5a.frozen 2
  have f3 : w5a.frozen? ⟨w4.heap.size, 3, none⟩ = false := xw5a.frozen 3
  have f4 : w5a.frozen? ⟨w4.heap.size, 4, none⟩ = false := xw5a.frozen 4
  have HR5 := Lib.hid (And.intro (HR4.out.1.below uw5) (And.intro (HR4.out.2.1.below uw5 HR4.out.2.1.lt) (And.intro xw5 (World.grownBy.trans HR4.out.2.2 (grown_bel uw5 _)))))
  have hgl : w.heap.size < w4.heap.size := HR4.out.2.1.lt
  clear xw5a uw5a xw5 gw5 sw5 uw5
  go_wp2_with fail
  refine (Hn4.out w5 HR5.out.1).mono ?_
  rintro e w6 ⟨rfl, r6, g6⟩
  have HR6 := Lib.hid (And.intro r6 (And.intro (HR5.out.2.1.grown g6 (by intro e; injection e with e; omega)) (And.intro (HR5.out.2.2.1.grown g6 (by intro e; injection e with e; omega)) (HR5.out.2.2.2.trans g6))))
  clear r6 g6
  go_wp2_with fail
  refine (Hun.out w6).mono ?_
  rintro e w7 ⟨v7, z7, rfl, o7, b7⟩
  obtain ⟨A7, c7, rfl, -, -, -⟩ := own_sliceN o7
  obtain ⟨n7, hn7⟩ : ∃ n7, (unpT t4).length = n7 := ⟨_, rfl⟩
  have HN7 := Lib.hid hn7
  rw [hn7] at o7 ⊢
  clear hn7
  have hg5 : w4.heap.size < w6.heap.size := HR6.out.2.2.1.lt
  have x7 := HR6.out.2.2.1.below b7 HR6.out.2.2.1.lt
  have z7b := HR6.out.2.1.below b7 HR6.out.2.1.lt
  have hr7 : RdO w7 r A n c l s4 := HR6.out.1.below b7
  have k7 : w.grownBy w7 (some r) := World.grownBy.trans HR6.out.2.2.2 (grown_bel b7 _)
  have p0 : w7.cell? ⟨w4.heap.size, 0, none⟩ = some (.int .i64 (x1 : Int)) := x7.cell 0
  have p1 : w7.cell? ⟨w4.heap.size, 1, none⟩ = some (.bool B2) := x7.cell 1
  have p2 : w7.cell? ⟨w4.heap.size, 2, none⟩ = some (.slice none 0 0) := x7.cell 2
  have p3 : w7.cell? ⟨w4.heap.size, 3, none⟩ = some (.slice none 0 0) := x7.cell 3
  have p4 : w7.cell? ⟨w4.heap.size, 4, none⟩ = some (.int .i64 (x3 : Int)) := x7.cell 4
  have pf : w7.frozen? ⟨w4.heap.size, 2, none⟩ = false := x7.frozen 2
  obtain ⟨w8, hw8⟩ : ∃ w8, w7.setCell ⟨w4.heap.size, 2, none⟩ (.slice A7 n7 c7) = w8 := ⟨_, rfl⟩
  have g8 : w7.grownBy w8 (some w4.heap.size) := hw8 ▸ grown_set w7 w4.heap.size 2 _
  have x8 : Box w8 w4.heap.size 82 #[.int .i64 (x1 : Int), .bool B2, .slice A7 n7 c7, .slice none 0 0, .int .i64 (x3 : Int)] := hw8 ▸ x7.set_ 2 (.slice A7 n7 c7)
  have z8 : Box w8 w.heap.size 82 #[.int .i64 0, .bool false, .slice none 0 0, .slice none 0 0, .int .i64 0] := z7b.grown g8 (by intro e; injection e with e; omega)
  have q0 : w8.cell? ⟨w4.heap.size, 0, none⟩ = some (.int .i64 (x1 : Int)) := x8.cell 0
  have q1 : w8.cell? ⟨w4.heap.size, 1, none⟩ = some (.bool B2) := x8.cell 1
  have q2 : w8.cell? ⟨w4.heap.size, 2, none⟩ = some (.slice A7 n7 c7) := x8.cell 2
  have q3 : w8.cell? ⟨w4.heap.size, 3, none⟩ = some (.slice none 0 0) := x8.cell 3
  have q4 : w8.cell? ⟨w4.heap.size, 4, none⟩ = some (.int .i64 (x3 : Int)) := x8.cell 4
  have y0 : w8.cell? ⟨w.heap.size, 0, none⟩ = some (.int .i64 0) := z8.cell 0
  have y1 : w8.cell? ⟨w.heap.size, 1, none⟩ = some (.bool false) := z8.cell 1
  have y2 : w8.cell? ⟨w.heap.size, 2, none⟩ = some (.slice none 0 0) := z8.cell 2
  have y3 : w8.cell? ⟨w.heap.size, 3, none⟩ = some (.slice none 0 0) := z8.cell 3
  have y4 : w8.cell? ⟨w.heap.size, 4, none⟩ = some (.int .i64 0) := z8.cell 4
  have j0 : w8.frozen? ⟨w.heap.size, 0, none⟩ = false := z8.frozen 0
  have j1 : w8.frozen? ⟨w.heap.size, 1, none⟩ = false := z8.frozen 1
  have j2 : w8.frozen? ⟨w.heap.size, 2, none⟩ = false := z8.frozen 2
  have j3 : w8.frozen? ⟨w.heap.size, 3, none⟩ = false := z8.frozen 3
  have j4 : w8.frozen? ⟨w.heap.size, 4, none⟩ = false := z8.frozen 4
  obtain ⟨w9, hw9⟩ : ∃ w9, (((((w8.setCell ⟨w.heap.size, 0, none⟩ (.int .i64 (x1 : Int))).setCell ⟨w.heap.size, 1, none⟩ (.bool B2)).setCell ⟨w.heap.size, 2, none⟩ (.slice A7 n7 c7)).setCell ⟨w.heap.size, 3, none⟩ (.slice none 0 0)).setCell ⟨w.heap.size, 4, none⟩ (.int .i64 (x3 : Int))) = w9 := ⟨_, rfl⟩
  obtain ⟨x9, g9, -⟩ := store5 z8 hw9
  have u0 : w9.cell? ⟨w.heap.size, 0, none⟩ = some (.int .i64 (x1 : Int)) := x9.cell 0
  have u1 : w9.cell? ⟨w.heap.size, 1, none⟩ = some (.bool B2) := x9.cell 1
  have u2 : w9.cell? ⟨w.heap.size, 2, none⟩ = some (.slice A7 n7 c7) := x9.cell 2
  have u3 : w9.cell? ⟨w.heap.size, 3, none⟩ = some (.slice none 0 0) := x9.cell 3
  have u4 : w9.cell? ⟨w.heap.size, 4, none⟩ = some (.int .i64 (x3 : Int)) := x9.cell 4
  have HE : Hid (HasVals w9 w9.heap.size A7 n7 (unpT t4) ∧ RdO w9 r A n c l s4 ∧ w.grownBy w9 (some r)) := Lib.hid (by
    have o9 : OwnVals w9 w6.heap.size (.slice A7 n7 c7) (unpT t4) := by
      unfold OwnVals
      rw [HN7.out]
      refine ownL_keep o7 fun b hb => ?_
      have h1 := World.ownsRow.lt o7 b hb
      exact (g9.block b (Nat.lt_of_lt_of_le h1.2 g8.size) (by intro e; injection e with e; omega)).trans (g8.block b h1.2 (by intro e; injection e with e; omega))
    refine ⟨?_, ?_, ?_⟩
    · have h1 := (OwnVals.has o9).2
      rw [HN7.out] at h1
      exact h1
    · exact rd_grown (rd_grown hr7 g8 (by omega)) g9 (by omega)
    · exact grown_new (grown_new k7 g8 (by omega)) g9 (Nat.le_refl _))
  clear x7 z7b hr7 k7 g8 x8 z8 x9 g9 o7 b7 hgl hg5
  go_wp2
  refine bodyPost_ret (v := .agg #[.int .i64 (x1 : Int), .bool B2, .slice A7 n7 c7, .slice none 0 0, .int .i64 (x3 : Int)]) ?_ rfl ⟨A7, c7, ?_, ?_, HE.out.2.1, HE.out.2.2⟩
  · simp [results, Try.results117, go_sem, u0, u1, u2, u3, u4]
  · simp only [HB2.out, HN7.out]
  · simp only [HN7.out]
    exact HE.out.1
end Go.Proofs.Ytdfhnjocpfjagaa

namespace Go.Proofs.Ytdfhnjocpfjagaa
open Go.RowKit

section
variable {F G : Nat → Prop} {w w0 w' : World} {sb r n c : Nat} {A : Option Addr} {l : List UInt8} {s : Rs} {T : Tb}
theorem RdO.kept (h : RdO w r A n c l s) (k : KeptF F w w') (hr : ¬ F r) (hA : ∀ a, A = some a → ¬ F a.block) : RdO w' r A n c l s := by
  refine ⟨k.box h.box hr, ⟨h.bytes.1, fun j u hu => ?_⟩, h.cap, h.most⟩
  obtain ⟨a, e, hb, hc⟩ := h.bytes.2 j u hu
  refine ⟨a, e, hb, ?_⟩
  rw [← hc]
  unfold World.cell?
  rw [addr_block, k.block a.block (Nat.lt_trans hb h.box.lt) (hA a e)]
/-- a table and a reader, each in blocks of its own -/
structure LdSt (w : World) (F : Nat → Prop) (sb r : Nat) (A : Option Addr) (n c : Nat) (l : List UInt8) (T : Tb) (s : Rs) : Prop where
  tab : TabAt w F sb T
  good : TGood T
  int : TInt T
  rd : RdO w r A n c l s
  rF : ¬ F r
  aF : ∀ a, A = some a → ¬ F a.block
theorem LdSt.lt (h : LdSt w F sb r A n c l T s) (a : Addr) (ha : A = some a) (hn : 0 < n) : a.block < r := by
  obtain ⟨a', e, hb, -⟩ := h.rd.bytes.cell hn
  rw [ha] at e
  injection e with e
  subst e
  exact hb
/-- since world w0, but for blocks of G nothing has turned -/
def LdF (w0 : World) (G : Nat → Prop) (w : World) (sb r : Nat) (A : Option Addr) (n c : Nat) (l : List UInt8) (T : Tb) (s : Rs) : Prop :=
  ∃ F, LdSt w F sb r A n c l T s ∧ (∀ i, F i → addF G w0 w i) ∧ KeptF G w0 w ∧ addF G w0 w r ∧ ∀ a, A = some a → a.block < w.heap.size
theorem LdF.rd (h : LdF w0 G w sb r A n c l T s) : RdO w r A n c l s := by obtain ⟨F, h1, -⟩ := h; exact h1.rd
theorem LdF.turn (h : LdF w0 G w sb r A n c l T s) {s' : Rs} (hr : RdO w' r A n c l s') (hg : w.grownBy w' (some r)) : LdF w0 G w' sb r A n c l T s' := by
  obtain ⟨F, h1, h2, h3, h4, h5⟩ := h
  have k : KeptF (fun i => i = r) w w' := KeptF.grown hg rfl
  have hadd : ∀ i, addF G w0 w i → addF G w0 w' i := fun i hi => hi.elim .inl fun hi => .inr ⟨hi.1, Nat.lt_of_lt_of_le hi.2 hg.size⟩
  exact ⟨F, ⟨h1.tab.other k fun i hi e => h1.rF (e ▸ hi), h1.good, h1.int, hr, h1.rF, h1.aF⟩, fun i hi => hadd i (h2 i hi), h3.trans (k.weak fun i _ hi => by rw [hi]; exact h4), hadd r h4, fun a ha => Nat.lt_of_lt_of_le (h5 a ha) hg.size⟩
theorem LdF.num (h : LdF w0 G w sb r A n c l T s) : Calls Try.prog 99 #[.pointer (some ⟨r, 0, none⟩)] w fun e w' => e = .returned (.int .i64 (((rNum l s).1 : Nat) : Int)) ∧ LdF w0 G w' sb r A n c l T (rNum l s).2 := by
  refine (rdN_any r A n c l s w h.rd).mono ?_
  rintro e w' ⟨rfl, h1, h2⟩
  exact ⟨rfl, h.turn h1 h2⟩
theorem LdF.rep (h : LdF w0 G w sb r A n c l T s) : Calls Try.prog 117 #[.pointer (some ⟨r, 0, none⟩)] w fun e w' => ∃ (A' : Option Addr) (c' : Nat), e = .returned (.agg #[.int .i64 (rRep l s).1.code, .bool (rRep l s).1.there, .slice A' (rRep l s).1.rc.length c', .slice none 0 0, .int .i64 (rRep l s).1.id]) ∧ HasVals w' w'.heap.size A' (rRep l s).1.rc.length (rRep l s).1.rc ∧ LdF w0 G w' sb r A n c l T (rRep l s).2 := by
  refine (rdR_any r A n c l s w h.rd).mono ?_
  rintro e w' ⟨A', c', rfl, h0, h1, h2⟩
  exact ⟨A', c', rfl, h0, h.turn h1 h2⟩
theorem LdF.keep (h : LdF w0 G w sb r A n c l T s) (hT : T.length ≤ 100000) (cl nu : Int) (hc : (Lit.int .i64 cl).wf = true) (hn : (Lit.int .i64 nu).wf = true) (q : Rp) (A' : Option Addr) (rn d : Nat) (hr : HasVals w w.heap.size A' rn q.rc) (hrn : rn ≤ maxLen) (hi : ∀ v ∈ q.rc, InI64 v.n) :
    Calls Try.prog 53 #[.pointer (some ⟨sb, 0, none⟩), .int .i64 cl, .int .i64 nu, .agg #[.int .i64 q.code, .bool q.there, .slice A' rn d, .slice none 0 0, .int .i64 q.id]] w fun e w' => (∃ z, e = .returned (.int .i64 z)) ∧ LdF w0 G w' sb r A n c l (keepT cl nu q 0 T) s := by
  obtain ⟨F, h1, h2, h3, h4, h5⟩ := h
  refine (onceKeep_any h1.tab h1.good hT cl nu hc hn q A' rn d 0 none 0 w.heap.size hr hrn (Nat.le_refl _) hi).mono ?_
  rintro e w' ⟨rfl, g1, g2, g3⟩
  have hadd : ∀ i, addF G w0 w i → addF G w0 w' i := fun i hi => hi.elim .inl fun hi => .inr ⟨hi.1, Nat.lt_of_lt_of_le hi.2 g2.size⟩
  refine ⟨⟨_, rfl⟩, addF F w w', ⟨g1, keepT_good h1.good, h1.int.keep hi, h1.rd.kept g2 h1.rF h1.aF, fun hf => hf.elim h1.rF fun hf => by have := h1.rd.box.lt; omega, fun a ha hf => hf.elim (h1.aF a ha) fun hf => by have := h5 a ha; omega⟩, fun i hi => hi.elim (fun hi => hadd i (h2 i hi)) (fun hi => .inr ⟨Nat.le_trans h3.size hi.1, hi.2⟩), h3.trans (g2.weak fun i _ hi => h2 i hi), hadd r h4, fun a ha => Nat.lt_of_lt_of_le (h5 a ha) g2.size⟩
end
theorem wfN {k : Nat} (h : k < 9223372036854775808) : (Lit.int .i64 (k : Int)).wf = true := wf_of (by omega)
set_option maxRecDepth 100000 in
set_option maxHeartbeats 12800000 in
theorem load1_any {G : Nat → Prop} {w w0 : World} {sb r n c : Nat} {A : Option Addr} {l : List UInt8} {s : Rs} {T : Tb} (h : LdF w0 G w sb r A n c l T s) (hI : Inv l T s) (hs : s.2 = 0) :
    Calls Try.prog 100 #[.pointer (some ⟨sb, 0, none⟩), .pointer (some ⟨r, 0, none⟩)] w fun e w' => e = .returned (.tuple #[]) ∧ LdF w0 G w' sb r A n c l (cliL l T s).1 (cliL l T s).2 ∧ Inv l (cliL l T s).1 (cliL l T s).2 := by
  have hl0 : l.length ≤ 100000 := by have := h.rd.bytes.len; have := h.rd.most; omega
  have H := Lib.hid h
  have HI := Lib.hid hI
  have HI2 := Lib.hid (inv_cli hI hs)
  obtain ⟨FIN, hFIN⟩ : ∃ FIN, cliL l T s = FIN := ⟨_, rfl⟩
  have HFIN : Hid (inL l ((rNum l s).1 : Nat) (rNum l (rNum l (rNum l s).2).2).1 (keepT ((rNum l s).1 : Nat) ((rNum l (rNum l s).2).1 : Nat) Rp.zero 0 T) (rNum l (rNum l (rNum l s).2).2).2 = FIN) := Lib.hid hFIN
  rw [hFIN]
  obtain ⟨⟨x1, s1⟩, h1⟩ : ∃ R, rNum l s = R := ⟨_, rfl⟩
  have hx1 := rNum_lt (l := l) (s := s)
  rw [h1] at HFIN HI2 hx1
  try simp only at HFIN HI2 hx1
  obtain ⟨⟨x2, s2⟩, h2⟩ : ∃ R, rNum l s1 = R := ⟨_, rfl⟩
  have hx2 := rNum_lt (l := l) (s := s1)
  rw [h2] at HFIN HI2 hx2
  try simp only at HFIN HI2 hx2
  obtain ⟨⟨x3, s3⟩, h3⟩ : ∃ R, rNum l s2 = R := ⟨_, rfl⟩
  have hx3 := rNum_lt (l := l) (s := s2)
  rw [h3] at HFIN HI2 hx3
  try simp only at HFIN HI2 hx3
  have HR1 := Lib.hid h1
  have HR2 := Lib.hid h2
  have HR3 := Lib.hid h3
  have Hn1 := Lib.hid H.out.num
  rw [h1] at Hn1
  have Hw1 := Lib.hid (wfN hx1)
  clear h hI hs hFIN h1 h2 h3
  go_enter Try.func100, Try.ntmps100
  go_wp2_with fail
  refine Hn1.out.mono ?_
  rintro e w1 ⟨rfl, L1⟩
  have HL1 := Lib.hid L1
  have Hn2 := Lib.hid HL1.out.num
  try simp only at Hn2
  rw [HR2.out] at Hn2
  clear L1
  go_wp2_with fail
  refine Hn2.out.mono ?_
  rintro e w2 ⟨rfl, L2⟩
  have HL2 := Lib.hid L2
  have Hk := Lib.hid (HL2.out.keep (by have := HI.out.1; omega) (x1 : Int) (x2 : Int) Hw1.out (wfN hx2) Rp.zero none 0 0 (HasVals.nil _ _ _) (by simp [maxLen]) (by simp [Rp.zero]))
  clear L2
  go_wp2_with fail
  refine Hk.out.mono ?_
  rintro e w3 ⟨⟨z3, rfl⟩, L3⟩
  have HL3 := Lib.hid L3
  have Hn3 := Lib.hid HL3.out.num
  try simp only at Hn3
  rw [HR3.out] at Hn3
  clear L3
  go_wp2_with fail
  refine Hn3.out.mono ?_
  rintro e w4 ⟨rfl, L4⟩
  have H4 : Hid (LdF w0 G w4 sb r A n c l (keepT (x1 : Int) (x2 : Int) Rp.zero 0 T) s3 ∧ Inv l (keepT (x1 : Int) (x2 : Int) Rp.zero 0 T) s3 ∧ inL l (x1 : Int) x3 (keepT (x1 : Int) (x2 : Int) Rp.zero 0 T) s3 = FIN) := Lib.hid ⟨L4, HI2.out, HFIN.out⟩
  clear L4 Hn1 Hn2 Hn3 Hk HL1 HL2 HL3 HFIN HI2 HI H HR1 HR2 HR3
  go_wp2
  go_loopw [6] (fun iv wr => ∃ (k : Nat) (T' : Tb) (s' : Rs), k < 9223372036854775808 ∧ iv = .int .i64 (k : Int) ∧ Hid (LdF w0 G wr sb r A n c l T' s' ∧ Inv l T' s' ∧ inL l (x1 : Int) k T' s' = FIN)) (fun iv _ => (intOf iv).toNat)
  case atStart => exact ⟨x3, _, _, hx3, rfl, H4⟩
  case round =>
    obtain ⟨k, T', s', hk, rfl, HR⟩ := hrel
    clear H4
    obtain ⟨-, -, q2⟩ := HR.out.1.rd.cells.1
    have q2' := q2
    obtain ⟨sp, se⟩ := s'
    try simp only at q2 q2'
    have HE0 : Hid (k = 0 ∨ se ≠ 0 → LdF w0 G wr sb r A n c l FIN.1 FIN.2 ∧ Inv l FIN.1 FIN.2) := Lib.hid fun h => by
      have e1 : FIN = (T', (sp, se)) := by
        rw [← HR.out.2.2]
        cases k with
        | zero => rfl
        | succ k =>
          unfold inL
          rw [if_neg (by rcases h with h | h; cases h; exact h)]
      rw [e1]
      exact ⟨HR.out.1, HR.out.2.1⟩
    cases k with
    | zero =>
      have hk0 : ¬ (0 : Int) < ((0 : Nat) : Int) := by omega
      have HE := Lib.hid (HE0.out (.inl rfl))
      clear q2 q2'
      go_wp2
      go_end0
      exact ⟨rfl, HE.out.1, HE.out.2⟩
    | succ k =>
      have hk0 : (0 : Int) < ((k + 1 : Nat) : Int) := by omega
      by_cases hse : se = 0
      · subst hse
        have hI := HR.out.2.1
        have hT1 : T'.length ≤ 100000 := by have := hI.1; omega
        have HI3 := Lib.hid (inv_in (c := (x1 : Int)) hI rfl)
        have HF3 : Hid (inL l (x1 : Int) k (keepT (x1 : Int) ((rNum l (sp, 0)).1 : Nat) (rRep l (rNum l (sp, 0)).2).1 0 T') (rRep l (rNum l (sp, 0)).2).2 = FIN) := Lib.hid (by
          have h9 := HR.out.2.2
          unfold inL at h9
          rw [if_pos rfl] at h9
          exact h9)
        have Hn := Lib.hid HR.out.1.num
        have hy := rNum_lt (l := l) (s := (sp, 0))
        have Hri := Lib.hid (rRep_int (l := l) (s := (rNum l (sp, 0)).2))
        have Hrl : Hid ((rRep l (rNum l (sp, 0)).2).1.rc.length ≤ 4) := Lib.hid (unp_len _)
        obtain ⟨⟨y, t1⟩, hy1⟩ : ∃ R, rNum l (sp, 0) = R := ⟨_, rfl⟩
        rw [hy1] at HI3 HF3 Hn hy Hri Hrl
        try simp only at HI3 HF3 Hn hy Hri Hrl
        have HRp : Hid (∀ wx, LdF w0 G wx sb r A n c l T' t1 → Calls Try.prog 117 #[.pointer (some ⟨r, 0, none⟩)] wx fun e w' => ∃ (A' : Option Addr) (c' : Nat), e = .returned (.agg #[.int .i64 (rRep l t1).1.code, .bool (rRep l t1).1.there, .slice A' (rRep l t1).1.rc.length c', .slice none 0 0, .int .i64 (rRep l t1).1.id]) ∧ HasVals w' w'.heap.size A' (rRep l t1).1.rc.length (rRep l t1).1.rc ∧ LdF w0 G w' sb r A n c l T' (rRep l t1).2) := Lib.hid fun wx hx => hx.rep
        obtain ⟨⟨rp, t2⟩, hrp⟩ : ∃ R, rRep l t1 = R := ⟨_, rfl⟩
        rw [hrp] at HI3 HF3 Hri Hrl HRp
        try simp only at HI3 HF3 Hri Hrl HRp
        clear hy1 hrp hI HE0
        go_wp2_with fail
        refine Hn.out.mono ?_
        rintro e w5 ⟨rfl, L5⟩
        have HL5 := Lib.hid L5
        clear L5 Hn q2 q2'
        go_wp2_with fail
        refine (HRp.out w5 HL5.out).mono ?_
        rintro e w6 ⟨A6, c6, rfl, v6, L6⟩
        have HL6 := Lib.hid (And.intro L6 v6)
        obtain ⟨rn, hrn⟩ : ∃ rn, rp.rc.length = rn := ⟨_, rfl⟩
        rw [hrn] at HL6 Hrl ⊢
        have Hkp := Lib.hid (HL6.out.1.keep hT1 (x1 : Int) (y : Int) Hw1.out (wfN hy) rp A6 rn c6 HL6.out.2 (by have := Hrl.out; simp only [maxLen]; omega) Hri.out)
        clear L6 v6 hrn
        go_wp2_with fail
        refine Hkp.out.mono ?_
        rintro e w7 ⟨⟨z7, rfl⟩, L7⟩
        have HE : Hid (LdF w0 G w7 sb r A n c l (keepT (x1 : Int) (y : Int) rp 0 T') t2 ∧ Inv l (keepT (x1 : Int) (y : Int) rp 0 T') t2 ∧ inL l (x1 : Int) k (keepT (x1 : Int) (y : Int) rp 0 T') t2 = FIN) := Lib.hid ⟨L7, HI3.out, HF3.out⟩
        clear L7 Hkp HL5 HL6
        have hkk : IntKind.i64.wrap (((k + 1 : Nat) : Int) - 1) = (k : Int) := by rw [IntWalk.i64_in _ (by omega)]; omega
        go_wp2
        go_roundw
        case rel => exact ⟨k, _, _, by omega, by first | rfl | (congr 1), HE⟩
        case measure => simp [intOf] <;> omega
      · have hse' : ((se : Int) == 0) = false := by simpa using hse
        have HE := Lib.hid (HE0.out (.inr hse))
        clear hse
        go_wp2
        go_end0
        exact ⟨rfl, HE.out.1, HE.out.2⟩
end Go.Proofs.Ytdfhnjocpfjagaa

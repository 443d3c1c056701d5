/- letter's reader reads a letter; letter.Unpack. Condition: the bytes are in memory below the reader. -/
import Derived.Test.YtaljojjpgkmiiaaMLetI
import Derived.Deep.DeepCutAuto
namespace Go.Proofs.Ytaljojjpgkmiiaa
open Go.RowKit
open Go.Lib (strCells)

/-- the reader behind j numbers, and behind j texts -/
def stN (l : List UInt8) (s : S2) : Nat → S2
  | 0 => s
  | j + 1 => (rdN l 1099511627776 (stN l s j)).2
def vvN (l : List UInt8) (s : S2) (i j : Nat) : Int := if i < j then ((rdN l 1099511627776 (stN l s i)).1 : Int) else 0
def stT (l : List UInt8) (s : S2) : Nat → S2
  | 0 => s
  | j + 1 => (rdT l (stT l s j)).2
def ttN (l : List UInt8) (s : S2) (i j : Nat) : ByteArray := if i < j then ⟨(rdT l (stT l s i)).1.toArray⟩ else ⟨#[]⟩
/-- a letter, read -/
def rdLet (l : List UInt8) (s : S2) : Let × S2 :=
  let s1 := (rdN l 255 s).2
  let s7 := stN l s1 6
  let s8 := (rdN l 1 (rdN l 1099511627776 s7).2).2
  let s11 := stT l s8 3
  let s12 := (rdList l (rdP l) s11).2
  (⟨((rdN l 255 s).1 : Int), vvN l s1 0 6, vvN l s1 1 6, vvN l s1 2 6, vvN l s1 3 6, vvN l s1 4 6, vvN l s1 5 6, ttN l s8 0 3, ttN l s8 1 3, (rdList l (rdP l) s11).1, (rdList l (rdI l) s12).1, ((rdN l 1099511627776 s7).1 : Int), decide ((rdN l 1 (rdN l 1099511627776 s7).2).1 = 1), ttN l s8 2 3⟩, (rdList l (rdI l) s12).2)
/-- a letter that the call has made -/
def LetPost (L : Let) (s' : S2) (l : List UInt8) (w : World) (r : Nat) (A : Option Addr) (n c : Nat) (e : Ending) (w' : World) : Prop :=
  ∃ (Ap : Option Addr) (np cp : Nat) (Ai : Option Addr) (ni ci : Nat), e = .returned (.agg #[.int .i64 L.kind, .int .i64 L.frm, .int .i64 L.to, .int .i64 L.a, .int .i64 L.b, .int .i64 L.c, .int .i64 L.d, .string L.s, .string L.t, .slice Ap np cp, .slice Ai ni ci, .int .i64 L.code, .bool L.yes, .string L.body]) ∧ OwnLps w' w.heap.size (.slice Ap np cp) L.ps ∧ OwnLis w' w.heap.size (.slice Ai ni ci) L.is ∧ RdAt w' r A n c l s' ∧ w.grownBy w' (some r)
theorem grown_setB {w w' : World} {r g i : Nat} {u : Value} (h : w.grownBy w' (some r)) (hg : w.heap.size ≤ g) : w.grownBy (w'.setCell ⟨g, i, none⟩ u) (some r) :=
  ⟨h.os, h.tape, h.output, by have := h.size; simpa using this, fun k hk hne => (Below.heap_setCell w' ⟨g, i, none⟩ u k (fun e => by have e1 : k = g := e; omega)).trans (h.block k hk hne)⟩
theorem RdAt.setB {w : World} {r n c g i : Nat} {A : Option Addr} {l : List UInt8} {s : S2} {u : Value} (h : RdAt w r A n c l s) (hg : r < g) : RdAt (w.setCell ⟨g, i, none⟩ u) r A n c l s :=
  ⟨h.box.far (p := ⟨g, i, none⟩) (by show r ≠ g; omega) _, Has.setCell h.bytes (by show r ≤ g; omega) _, h.cap, h.most⟩
/-- what stands while a letter is read: w0 is the world of the call's beginning, r the reader, gv the variable that names it, lb the letter -/
structure LtS (w0 : World) (r : Nat) (A : Option Addr) (n c : Nat) (l : List UInt8) (cs : Array Value) (s : S2) (wx : World) : Prop where
  rd : RdAt wx r A n c l s
  gv : Box wx w0.heap.size 138 #[.pointer (some ⟨r, 0, none⟩)]
  res : Box wx (w0.heap.size + 1) 69 #[.int .i64 0, .int .i64 0, .int .i64 0, .int .i64 0, .int .i64 0, .int .i64 0, .int .i64 0, .string ⟨#[]⟩, .string ⟨#[]⟩, .slice none 0 0, .slice none 0 0, .int .i64 0, .bool false, .string ⟨#[]⟩]
  lb : Box wx (w0.heap.size + 1 + 1) 69 cs
  gr : w0.grownBy wx (some r)
  old : r < w0.heap.size
section
variable {w0 wx w' : World} {r n c : Nat} {A : Option Addr} {l : List UInt8} {cs : Array Value} {s s' : S2}
theorem LtS.call (h : LtS w0 r A n c l cs s wx) (hr : RdAt w' r A n c l s') (hg : wx.grownBy w' (some r)) : LtS w0 r A n c l cs s' w' :=
  ⟨hr, grown_box hg h.gv (by have := h.old; omega), grown_box hg h.res (by have := h.old; omega), grown_box hg h.lb (by have := h.old; omega), World.grownBy.trans h.gr hg, h.old⟩
theorem LtS.bel (h : LtS w0 r A n c l cs s wx) (hb : Below wx.heap.size wx w') : LtS w0 r A n c l cs s w' := h.call (h.rd.below hb) (grown_bel hb _)
theorem LtS.set (h : LtS w0 r A n c l cs s wx) (i : Nat) (u : Value) : LtS w0 r A n c l (cs.setIfInBounds i u) s (wx.setCell ⟨w0.heap.size + 1 + 1, i, none⟩ u) :=
  ⟨h.rd.setB (by have := h.old; omega), h.gv.far (p := ⟨w0.heap.size + 1 + 1, i, none⟩) (by show w0.heap.size ≠ w0.heap.size + 1 + 1; omega) _, h.res.far (p := ⟨w0.heap.size + 1 + 1, i, none⟩) (by show w0.heap.size + 1 ≠ w0.heap.size + 1 + 1; omega) _, h.lb.set_ i u, grown_setB h.gr (by omega), h.old⟩
end
theorem own_setB {w : World} {B m size g i : Nat} {e : TypeId} {v u : Value} {xs : List Value} (h : w.ownsRow B e size v m xs) (hg : g < B) : (w.setCell ⟨g, i, none⟩ u).ownsRow B e size v m xs :=
  own_keepP h fun b hb => Below.heap_setCell w ⟨g, i, none⟩ u b (fun e0 => by have := (h.lt b hb).1; have e1 : b = g := e0; omega)
set_option maxRecDepth 100000 in
set_option maxHeartbeats 12800000 in
theorem rdLet_any (r : Nat) (A : Option Addr) (n c : Nat) (l : List UInt8) (s : S2) (w : World) (h : RdAt w r A n c l s) :
    Calls Try.prog 89 #[.pointer (some ⟨r, 0, none⟩)] w (LetPost (rdLet l s).1 (rdLet l s).2 l w r A n c) := by
  have hrw := h.box.lt
  have hbW : Below w.heap.size w (((w.alloc (.cells #[.pointer (some ⟨r, 0, none⟩)] 138)).alloc (.cells #[.int .i64 0, .int .i64 0, .int .i64 0, .int .i64 0, .int .i64 0, .int .i64 0, .int .i64 0, .string ⟨#[]⟩, .string ⟨#[]⟩, .slice none 0 0, .slice none 0 0, .int .i64 0, .bool false, .string ⟨#[]⟩] 69)).alloc (.cells #[.int .i64 0, .int .i64 0, .int .i64 0, .int .i64 0, .int .i64 0, .int .i64 0, .int .i64 0, .string ⟨#[]⟩, .string ⟨#[]⟩, .slice none 0 0, .slice none 0 0, .int .i64 0, .bool false, .string ⟨#[]⟩] 69)) := ((below_box _).alloc (by simp) _).alloc (by simp; omega) _
  have HS0 : Hid (LtS w r A n c l #[.int .i64 0, .int .i64 0, .int .i64 0, .int .i64 0, .int .i64 0, .int .i64 0, .int .i64 0, .string ⟨#[]⟩, .string ⟨#[]⟩, .slice none 0 0, .slice none 0 0, .int .i64 0, .bool false, .string ⟨#[]⟩] s (((w.alloc (.cells #[.pointer (some ⟨r, 0, none⟩)] 138)).alloc (.cells #[.int .i64 0, .int .i64 0, .int .i64 0, .int .i64 0, .int .i64 0, .int .i64 0, .int .i64 0, .string ⟨#[]⟩, .string ⟨#[]⟩, .slice none 0 0, .slice none 0 0, .int .i64 0, .bool false, .string ⟨#[]⟩] 69)).alloc (.cells #[.int .i64 0, .int .i64 0, .int .i64 0, .int .i64 0, .int .i64 0, .int .i64 0, .int .i64 0, .string ⟨#[]⟩, .string ⟨#[]⟩, .slice none 0 0, .slice none 0 0, .int .i64 0, .bool false, .string ⟨#[]⟩] 69))) := Lib.hid
    ⟨h.below hbW, ((Box.made w 138 #[.pointer (some ⟨r, 0, none⟩)]).alloc _).alloc _, by have h9 := (Box.made (w.alloc (.cells #[.pointer (some ⟨r, 0, none⟩)] 138)) 69 #[.int .i64 0, .int .i64 0, .int .i64 0, .int .i64 0, .int .i64 0, .int .i64 0, .int .i64 0, .string ⟨#[]⟩, .string ⟨#[]⟩, .slice none 0 0, .slice none 0 0, .int .i64 0, .bool false, .string ⟨#[]⟩]).alloc (.cells #[.int .i64 0, .int .i64 0, .int .i64 0, .int .i64 0, .int .i64 0, .int .i64 0, .int .i64 0, .string ⟨#[]⟩, .string ⟨#[]⟩, .slice none 0 0, .slice none 0 0, .int .i64 0, .bool false, .string ⟨#[]⟩] 69); simp only [World.size_alloc] at h9; exact h9, by have h9 := Box.made ((w.alloc (.cells #[.pointer (some ⟨r, 0, none⟩)] 138)).alloc (.cells #[.int .i64 0, .int .i64 0, .int .i64 0, .int .i64 0, .int .i64 0, .int .i64 0, .int .i64 0, .string ⟨#[]⟩, .string ⟨#[]⟩, .slice none 0 0, .slice none 0 0, .int .i64 0, .bool false, .string ⟨#[]⟩] 69)) 69 #[.int .i64 0, .int .i64 0, .int .i64 0, .int .i64 0, .int .i64 0, .int .i64 0, .int .i64 0, .string ⟨#[]⟩, .string ⟨#[]⟩, .slice none 0 0, .slice none 0 0, .int .i64 0, .bool false, .string ⟨#[]⟩]; simp only [World.size_alloc] at h9; exact h9, grown_bel hbW _, hrw⟩
  obtain ⟨RR, hRR⟩ : ∃ RR, rdLet l s = RR := ⟨_, rfl⟩
  rw [hRR]
  unfold rdLet at hRR
  simp only at hRR
  have K1 := Lib.hid (rdNum_any r A n c l s 255 (((w.alloc (.cells #[.pointer (some ⟨r, 0, none⟩)] 138)).alloc (.cells #[.int .i64 0, .int .i64 0, .int .i64 0, .int .i64 0, .int .i64 0, .int .i64 0, .int .i64 0, .string ⟨#[]⟩, .string ⟨#[]⟩, .slice none 0 0, .slice none 0 0, .int .i64 0, .bool false, .string ⟨#[]⟩] 69)).alloc (.cells #[.int .i64 0, .int .i64 0, .int .i64 0, .int .i64 0, .int .i64 0, .int .i64 0, .int .i64 0, .string ⟨#[]⟩, .string ⟨#[]⟩, .slice none 0 0, .slice none 0 0, .int .i64 0, .bool false, .string ⟨#[]⟩] 69)) HS0.out.rd)
  obtain ⟨⟨k, s1⟩, hk⟩ : ∃ x, rdN l 255 s = x := ⟨_, rfl⟩
  rw [hk] at K1 hRR
  simp only at hRR
  have HR1 := Lib.hid hRR
  have b0 := HS0.out.lb.cell 0
  have hgv0 := HS0.out.gv.cell 0
  simp at b0 hgv0
  clear h hbW hRR hk
  go_enter Try.func89, Try.ntmps89
  go_wp2_with fail
  refine K1.out.mono ?_
  rintro e w1 hq
  obtain ⟨rfl, hr1, gr1⟩ := hq
  have HS1 := Lib.hid (HS0.out.call hr1 gr1)
  have b1 : w1.cell? ⟨w.heap.size + 1 + 1, 0, none⟩ = some (.int .i64 0) := HS1.out.lb.cell 0
  have q1 : w1.frozen? ⟨w.heap.size + 1 + 1, 0, none⟩ = false := HS1.out.lb.frozen 0
  have HT1 : Hid (LtS w r A n c l #[.int .i64 (k : Int), .int .i64 (vvN l s1 0 0), .int .i64 (vvN l s1 1 0), .int .i64 (vvN l s1 2 0), .int .i64 (vvN l s1 3 0), .int .i64 (vvN l s1 4 0), .int .i64 (vvN l s1 5 0), .string ⟨#[]⟩, .string ⟨#[]⟩, .slice none 0 0, .slice none 0 0, .int .i64 0, .bool false, .string ⟨#[]⟩] (stN l s1 0) (w1.setCell ⟨w.heap.size + 1 + 1, 0, none⟩ (.int .i64 (k : Int)))) := Lib.hid (HS1.out.set 0 (.int .i64 (k : Int)))
  clear hr1 gr1 K1 b0 hgv0 HS0 HS1
  go_upto_region 3 with fail
  generalize hW1 : (w1.setCell ⟨w.heap.size + 1 + 1, 0, none⟩ (.int .i64 (k : Int))) = W1 at *
  clear hW1 b1 q1
  have HT2p : Hid (w.heap.size + 1 + 1 < W1.heap.size) := Lib.hid HT1.out.lb.lt
  have HT2 : Hid (LtS w r A n c l #[.int .i64 (k : Int), .int .i64 (vvN l s1 0 0), .int .i64 (vvN l s1 1 0), .int .i64 (vvN l s1 2 0), .int .i64 (vvN l s1 3 0), .int .i64 (vvN l s1 4 0), .int .i64 (vvN l s1 5 0), .string ⟨#[]⟩, .string ⟨#[]⟩, .slice none 0 0, .slice none 0 0, .int .i64 0, .bool false, .string ⟨#[]⟩] (stN l s1 0) (W1.alloc (.cells #[.pointer (some ⟨w.heap.size + 1 + 1, 1, none⟩), .pointer (some ⟨w.heap.size + 1 + 1, 2, none⟩), .pointer (some ⟨w.heap.size + 1 + 1, 3, none⟩), .pointer (some ⟨w.heap.size + 1 + 1, 4, none⟩), .pointer (some ⟨w.heap.size + 1 + 1, 5, none⟩), .pointer (some ⟨w.heap.size + 1 + 1, 6, none⟩)] 165))) := Lib.hid (HT1.out.bel (below_box _))
  clear HT1
  go_wp2
  have HSL : Hid (LtS w r A n c l #[.int .i64 (k : Int), .int .i64 (vvN l s1 0 0), .int .i64 (vvN l s1 1 0), .int .i64 (vvN l s1 2 0), .int .i64 (vvN l s1 3 0), .int .i64 (vvN l s1 4 0), .int .i64 (vvN l s1 5 0), .string ⟨#[]⟩, .string ⟨#[]⟩, .slice none 0 0, .slice none 0 0, .int .i64 0, .bool false, .string ⟨#[]⟩] (stN l s1 0) (W1.alloc (.cells #[.pointer (some ⟨w.heap.size + 1 + 1, 1, none⟩), .pointer (some ⟨w.heap.size + 1 + 1, 2, none⟩), .pointer (some ⟨w.heap.size + 1 + 1, 3, none⟩), .pointer (some ⟨w.heap.size + 1 + 1, 4, none⟩), .pointer (some ⟨w.heap.size + 1 + 1, 5, none⟩), .pointer (some ⟨w.heap.size + 1 + 1, 6, none⟩)] 165)) ∧ Box (W1.alloc (.cells #[.pointer (some ⟨w.heap.size + 1 + 1, 1, none⟩), .pointer (some ⟨w.heap.size + 1 + 1, 2, none⟩), .pointer (some ⟨w.heap.size + 1 + 1, 3, none⟩), .pointer (some ⟨w.heap.size + 1 + 1, 4, none⟩), .pointer (some ⟨w.heap.size + 1 + 1, 5, none⟩), .pointer (some ⟨w.heap.size + 1 + 1, 6, none⟩)] 165)) W1.heap.size 165 #[.pointer (some ⟨w.heap.size + 1 + 1, 1, none⟩), .pointer (some ⟨w.heap.size + 1 + 1, 2, none⟩), .pointer (some ⟨w.heap.size + 1 + 1, 3, none⟩), .pointer (some ⟨w.heap.size + 1 + 1, 4, none⟩), .pointer (some ⟨w.heap.size + 1 + 1, 5, none⟩), .pointer (some ⟨w.heap.size + 1 + 1, 6, none⟩)]) := Lib.hid ⟨HT2.out, Box.made _ _ _⟩
  have hpb : w.heap.size + 1 + 1 < W1.heap.size := HT2p.out
  generalize hWA : (W1.alloc (.cells #[.pointer (some ⟨w.heap.size + 1 + 1, 1, none⟩), .pointer (some ⟨w.heap.size + 1 + 1, 2, none⟩), .pointer (some ⟨w.heap.size + 1 + 1, 3, none⟩), .pointer (some ⟨w.heap.size + 1 + 1, 4, none⟩), .pointer (some ⟨w.heap.size + 1 + 1, 5, none⟩), .pointer (some ⟨w.heap.size + 1 + 1, 6, none⟩)] 165)) = WA at *
  generalize hPb : W1.heap.size = pb at *
  clear hWA hPb HT2 HT2p
  go_loopw [5, 19] (fun _ iv wr => ∃ j : Nat, j ≤ 6 ∧ iv = .int .i64 (j : Int) ∧ Hid (LtS w r A n c l #[.int .i64 (k : Int), .int .i64 (vvN l s1 0 j), .int .i64 (vvN l s1 1 j), .int .i64 (vvN l s1 2 j), .int .i64 (vvN l s1 3 j), .int .i64 (vvN l s1 4 j), .int .i64 (vvN l s1 5 j), .string ⟨#[]⟩, .string ⟨#[]⟩, .slice none 0 0, .slice none 0 0, .int .i64 0, .bool false, .string ⟨#[]⟩] (stN l s1 j) wr ∧ Box wr pb 165 #[.pointer (some ⟨w.heap.size + 1 + 1, 1, none⟩), .pointer (some ⟨w.heap.size + 1 + 1, 2, none⟩), .pointer (some ⟨w.heap.size + 1 + 1, 3, none⟩), .pointer (some ⟨w.heap.size + 1 + 1, 4, none⟩), .pointer (some ⟨w.heap.size + 1 + 1, 5, none⟩), .pointer (some ⟨w.heap.size + 1 + 1, 6, none⟩)])) (fun _ iv _ => 6 - (intOf iv).toNat)
  case atStart => exact ⟨0, by omega, rfl, HSL⟩
  case round =>
    clear HSL
    obtain ⟨j, hj, rfl, HS⟩ := hrel
    by_cases hlt : j < 6
    · have hc : j = 0 ∨ j = 1 ∨ j = 2 ∨ j = 3 ∨ j = 4 ∨ j = 5 := by omega
      clear hj hlt
      rcases hc with rfl | rfl | rfl | rfl | rfl | rfl
      · have d0 : wr.cell? ⟨w.heap.size, 0, none⟩ = some (.pointer (some ⟨r, 0, none⟩)) := HS.out.1.gv.cell 0
        have dp : wr.cell? ⟨pb, 0, none⟩ = some (.pointer (some ⟨w.heap.size + 1 + 1, 1, none⟩)) := HS.out.2.cell 0
        have KC := Lib.hid (rdNum_any r A n c l (stN l s1 0) 1099511627776 wr HS.out.1.rd)
        go_wp2_with fail
        refine KC.out.mono ?_
        rintro e w2 hq
        obtain ⟨rfl, hr2, gr2⟩ := hq
        have HS2 := Lib.hid (And.intro (HS.out.1.call hr2 gr2) (grown_box gr2 HS.out.2 (by omega)))
        have b2 : w2.cell? ⟨w.heap.size + 1 + 1, 1, none⟩ = some (.int .i64 0) := HS2.out.1.lb.cell 1
        have q2 : w2.frozen? ⟨w.heap.size + 1 + 1, 1, none⟩ = false := HS2.out.1.lb.frozen 1
        have HT2 : Hid (LtS w r A n c l #[.int .i64 (k : Int), .int .i64 (vvN l s1 0 1), .int .i64 (vvN l s1 1 1), .int .i64 (vvN l s1 2 1), .int .i64 (vvN l s1 3 1), .int .i64 (vvN l s1 4 1), .int .i64 (vvN l s1 5 1), .string ⟨#[]⟩, .string ⟨#[]⟩, .slice none 0 0, .slice none 0 0, .int .i64 0, .bool false, .string ⟨#[]⟩] (stN l s1 1) (w2.setCell ⟨w.heap.size + 1 + 1, 1, none⟩ (.int .i64 ((rdN l 1099511627776 (stN l s1 0)).1 : Int))) ∧ Box (w2.setCell ⟨w.heap.size + 1 + 1, 1, none⟩ (.int .i64 ((rdN l 1099511627776 (stN l s1 0)).1 : Int))) pb 165 #[.pointer (some ⟨w.heap.size + 1 + 1, 1, none⟩), .pointer (some ⟨w.heap.size + 1 + 1, 2, none⟩), .pointer (some ⟨w.heap.size + 1 + 1, 3, none⟩), .pointer (some ⟨w.heap.size + 1 + 1, 4, none⟩), .pointer (some ⟨w.heap.size + 1 + 1, 5, none⟩), .pointer (some ⟨w.heap.size + 1 + 1, 6, none⟩)]) := Lib.hid ⟨HS2.out.1.set 1 (.int .i64 ((rdN l 1099511627776 (stN l s1 0)).1 : Int)), HS2.out.2.far (p := ⟨w.heap.size + 1 + 1, 1, none⟩) (by show pb ≠ w.heap.size + 1 + 1; omega) _⟩
        clear hr2 gr2 KC d0 dp
        go_wp2
        go_roundw
        case rel => exact ⟨1, by omega, by go_num, HT2⟩
        case measure => simp [intOf]
      · have d0 : wr.cell? ⟨w.heap.size, 0, none⟩ = some (.pointer (some ⟨r, 0, none⟩)) := HS.out.1.gv.cell 0
        have dp : wr.cell? ⟨pb, 1, none⟩ = some (.pointer (some ⟨w.heap.size + 1 + 1, 2, none⟩)) := HS.out.2.cell 1
        have KC := Lib.hid (rdNum_any r A n c l (stN l s1 1) 1099511627776 wr HS.out.1.rd)
        go_wp2_with fail
        refine KC.out.mono ?_
        rintro e w2 hq
        obtain ⟨rfl, hr2, gr2⟩ := hq
        have HS2 := Lib.hid (And.intro (HS.out.1.call hr2 gr2) (grown_box gr2 HS.out.2 (by omega)))
        have b2 : w2.cell? ⟨w.heap.size + 1 + 1, 2, none⟩ = some (.int .i64 0) := HS2.out.1.lb.cell 2
        have q2 : w2.frozen? ⟨w.heap.size + 1 + 1, 2, none⟩ = false := HS2.out.1.lb.frozen 2
        have HT2 : Hid (LtS w r A n c l #[.int .i64 (k : Int), .int .i64 (vvN l s1 0 2), .int .i64 (vvN l s1 1 2), .int .i64 (vvN l s1 2 2), .int .i64 (vvN l s1 3 2), .int .i64 (vvN l s1 4 2), .int .i64 (vvN l s1 5 2), .string ⟨#[]⟩, .string ⟨#[]⟩, .slice none 0 0, .slice none 0 0, .int .i64 0, .bool false, .string ⟨#[]⟩] (stN l s1 2) (w2.setCell ⟨w.heap.size + 1 + 1, 2, none⟩ (.int .i64 ((rdN l 1099511627776 (stN l s1 1)).1 : Int))) ∧ Box (w2.setCell ⟨w.heap.size + 1 + 1, 2, none⟩ (.int .i64 ((rdN l 1099511627776 (stN l s1 1)).1 : Int))) pb 165 #[.pointer (some ⟨w.heap.size + 1 + 1, 1, none⟩), .pointer (some ⟨w.heap.size + 1 + 1, 2, none⟩), .pointer (some ⟨w.heap.size + 1 + 1, 3, none⟩), .pointer (some ⟨w.heap.size + 1 + 1, 4, none⟩), .pointer (some ⟨w.heap.size + 1 + 1, 5, none⟩), .pointer (some ⟨w.heap.size + 1 + 1, 6, none⟩)]) := Lib.hid ⟨HS2.out.1.set 2 (.int .i64 ((rdN l 1099511627776 (stN l s1 1)).1 : Int)), HS2.out.2.far (p := ⟨w.heap.size + 1 + 1, 2, none⟩) (by show pb ≠ w.heap.size + 1 + 1; omega) _⟩
        clear hr2 gr2 KC d0 dp
        go_wp2
        go_roundw
        case rel => exact ⟨2, by omega, by go_num, HT2⟩
        case measure => simp [intOf]
      · have d0 : wr.cell? ⟨w.heap.size, 0, none⟩ = some (.pointer (some ⟨r, 0, none⟩)) := HS.out.1.gv.cell 0
        have dp : wr.cell? ⟨pb, 2, none⟩ = some (.pointer (some ⟨w.heap.size + 1 + 1, 3, none⟩)) := HS.out.2.cell 2
        have KC := Lib.hid (rdNum_any r A n c l (stN l s1 2) 1099511627776 wr HS.out.1.rd)
        go_wp2_with fail
        refine KC.out.mono ?_
        rintro e w2 hq
        obtain ⟨rfl, hr2, gr2⟩ := hq
        have HS2 := Lib.hid (And.intro (HS.out.1.call hr2 gr2) (grown_box gr2 HS.out.2 (by omega)))
        have b2 : w2.cell? ⟨w.heap.size + 1 + 1, 3, none⟩ = some (.int .i64 0) := HS2.out.1.lb.cell 3
        have q2 : w2.frozen? ⟨w.heap.size + 1 + 1, 3, none⟩ = false := HS2.out.1.lb.frozen 3
        have HT2 : Hid (LtS w r A n c l #[.int .i64 (k : Int), .int .i64 (vvN l s1 0 3), .int .i64 (vvN l s1 1 3), .int .i64 (vvN l s1 2 3), .int .i64 (vvN l s1 3 3), .int .i64 (vvN l s1 4 3), .int .i64 (vvN l s1 5 3), .string ⟨#[]⟩, .string ⟨#[]⟩, .slice none 0 0, .slice none 0 0, .int .i64 0, .bool false, .string ⟨#[]⟩] (stN l s1 3) (w2.setCell ⟨w.heap.size + 1 + 1, 3, none⟩ (.int .i64 ((rdN l 1099511627776 (stN l s1 2)).1 : Int))) ∧ Box (w2.setCell ⟨w.heap.size + 1 + 1, 3, none⟩ (.int .i64 ((rdN l 1099511627776 (stN l s1 2)).1 : Int))) pb 165 #[.pointer (some ⟨w.heap.size + 1 + 1, 1, none⟩), .pointer (some ⟨w.heap.size + 1 + 1, 2, none⟩), .pointer (some ⟨w.heap.size + 1 + 1, 3, none⟩), .pointer (some ⟨w.heap.size + 1 + 1, 4, none⟩), .pointer (some ⟨w.heap.size + 1 + 1, 5, none⟩), .pointer (some ⟨w.heap.size + 1 + 1, 6, none⟩)]) := Lib.hid ⟨HS2.out.1.set 3 (.int .i64 ((rdN l 1099511627776 (stN l s1 2)).1 : Int)), HS2.out.2.far (p := ⟨w.heap.size + 1 + 1, 3, none⟩) (by show pb ≠ w.heap.size + 1 + 1; omega) _⟩
        clear hr2 gr2 KC d0 dp
        go_wp2
        go_roundw
        case rel => exact ⟨3, by omega, by go_num, HT2⟩
        case measure => simp [intOf]
      · have d0 : wr.cell? ⟨w.heap.size, 0, none⟩ = some (.pointer (some ⟨r, 0, none⟩)) := HS.out.1.gv.cell 0
        have dp : wr.cell? ⟨pb, 3, none⟩ = some (.pointer (some ⟨w.heap.size + 1 + 1, 4, none⟩)) := HS.out.2.cell 3
        have KC := Lib.hid (rdNum_any r A n c l (stN l s1 3) 1099511627776 wr HS.out.1.rd)
        go_wp2_with fail
        refine KC.out.mono ?_
        rintro e w2 hq
        obtain ⟨rfl, hr2, gr2⟩ := hq
        have HS2 := Lib.hid (And.intro (HS.out.1.call hr2 gr2) (grown_box gr2 HS.out.2 (by omega)))
        have b2 : w2.cell? ⟨w.heap.size + 1 + 1, 4, none⟩ = some (.int .i64 0) := HS2.out.1.lb.cell 4
        have q2 : w2.frozen? ⟨w.heap.size + 1 + 1, 4, none⟩ = false := HS2.out.1.lb.frozen 4
        have HT2 : Hid (LtS w r A n c l #[.int .i64 (k : Int), .int .i64 (vvN l s1 0 4), .int .i64 (vvN l s1 1 4), .int .i64 (vvN l s1 2 4), .int .i64 (vvN l s1 3 4), .int .i64 (vvN l s1 4 4), .int .i64 (vvN l s1 5 4), .string ⟨#[]⟩, .string ⟨#[]⟩, .slice none 0 0, .slice none 0 0, .int .i64 0, .bool false, .string ⟨#[]⟩] (stN l s1 4) (w2.setCell ⟨w.heap.size + 1 + 1, 4, none⟩ (.int .i64 ((rdN l 1099511627776 (stN l s1 3)).1 : Int))) ∧ Box (w2.setCell ⟨w.heap.size + 1 + 1, 4, none⟩ (.int .i64 ((rdN l 1099511627776 (stN l s1 3)).1 : Int))) pb 165 #[.pointer (some ⟨w.heap.size + 1 + 1, 1, none⟩), .pointer (some ⟨w.heap.size + 1 + 1, 2, none⟩), .pointer (some ⟨w.heap.size + 1 + 1, 3, none⟩), .pointer (some ⟨w.heap.size + 1 + 1, 4, none⟩), .pointer (some ⟨w.heap.size + 1 + 1, 5, none⟩), .pointer (some ⟨w.heap.size + 1 + 1, 6, none⟩)]) := Lib.hid ⟨HS2.out.1.set 4 (.int .i64 ((rdN l 1099511627776 (stN l s1 3)).1 : Int)), HS2.out.2.far (p := ⟨w.heap.size + 1 + 1, 4, none⟩) (by show pb ≠ w.heap.size + 1 + 1; omega) _⟩
        clear hr2 gr2 KC d0 dp
        go_wp2
        go_roundw
        case rel => exact ⟨4, by omega, by go_num, HT2⟩
        case measure => simp [intOf]
      · have d0 : wr.cell? ⟨w.heap.size, 0, none⟩ = some (.pointer (some ⟨r, 0, none⟩)) := HS.out.1.gv.cell 0
        have dp : wr.cell? ⟨pb, 4, none⟩ = some (.pointer (some ⟨w.heap.size + 1 + 1, 5, none⟩)) := HS.out.2.cell 4
        have KC := Lib.hid (rdNum_any r A n c l (stN l s1 4) 1099511627776 wr HS.out.1.rd)
        go_wp2_with fail
        refine KC.out.mono ?_
        rintro e w2 hq
        obtain ⟨rfl, hr2, gr2⟩ := hq
        have HS2 := Lib.hid (And.intro (HS.out.1.call hr2 gr2) (grown_box gr2 HS.out.2 (by omega)))
        have b2 : w2.cell? ⟨w.heap.size + 1 + 1, 5, none⟩ = some (.int .i64 0) := HS2.out.1.lb.cell 5
        have q2 : w2.frozen? ⟨w.heap.size + 1 + 1, 5, none⟩ = false := HS2.out.1.lb.frozen 5
        have HT2 : Hid (LtS w r A n c l #[.int .i64 (k : Int), .int .i64 (vvN l s1 0 5), .int .i64 (vvN l s1 1 5), .int .i64 (vvN l s1 2 5), .int .i64 (vvN l s1 3 5), .int .i64 (vvN l s1 4 5), .int .i64 (vvN l s1 5 5), .string ⟨#[]⟩, .string ⟨#[]⟩, .slice none 0 0, .slice none 0 0, .int .i64 0, .bool false, .string ⟨#[]⟩] (stN l s1 5) (w2.setCell ⟨w.heap.size + 1 + 1, 5, none⟩ (.int .i64 ((rdN l 1099511627776 (stN l s1 4)).1 : Int))) ∧ Box (w2.setCell ⟨w.heap.size + 1 + 1, 5, none⟩ (.int .i64 ((rdN l 1099511627776 (stN l s1 4)).1 : Int))) pb 165 #[.pointer (some ⟨w.heap.size + 1 + 1, 1, none⟩), .pointer (some ⟨w.heap.size + 1 + 1, 2, none⟩), .pointer (some ⟨w.heap.size + 1 + 1, 3, none⟩), .pointer (some ⟨w.heap.size + 1 + 1, 4, none⟩), .pointer (some ⟨w.heap.size + 1 + 1, 5, none⟩), .pointer (some ⟨w.heap.size + 1 + 1, 6, none⟩)]) := Lib.hid ⟨HS2.out.1.set 5 (.int .i64 ((rdN l 1099511627776 (stN l s1 4)).1 : Int)), HS2.out.2.far (p := ⟨w.heap.size + 1 + 1, 5, none⟩) (by show pb ≠ w.heap.size + 1 + 1; omega) _⟩
        clear hr2 gr2 KC d0 dp
        go_wp2
        go_roundw
        case rel => exact ⟨5, by omega, by go_num, HT2⟩
        case measure => simp [intOf]
      · have d0 : wr.cell? ⟨w.heap.size, 0, none⟩ = some (.pointer (some ⟨r, 0, none⟩)) := HS.out.1.gv.cell 0
        have dp : wr.cell? ⟨pb, 5, none⟩ = some (.pointer (some ⟨w.heap.size + 1 + 1, 6, none⟩)) := HS.out.2.cell 5
        have KC := Lib.hid (rdNum_any r A n c l (stN l s1 5) 1099511627776 wr HS.out.1.rd)
        go_wp2_with fail
        refine KC.out.mono ?_
        rintro e w2 hq
        obtain ⟨rfl, hr2, gr2⟩ := hq
        have HS2 := Lib.hid (And.intro (HS.out.1.call hr2 gr2) (grown_box gr2 HS.out.2 (by omega)))
        have b2 : w2.cell? ⟨w.heap.size + 1 + 1, 6, none⟩ = some (.int .i64 0) := HS2.out.1.lb.cell 6
        have q2 : w2.frozen? ⟨w.heap.size + 1 + 1, 6, none⟩ = false := HS2.out.1.lb.frozen 6
        have HT2 : Hid (LtS w r A n c l #[.int .i64 (k : Int), .int .i64 (vvN l s1 0 6), .int .i64 (vvN l s1 1 6), .int .i64 (vvN l s1 2 6), .int .i64 (vvN l s1 3 6), .int .i64 (vvN l s1 4 6), .int .i64 (vvN l s1 5 6), .string ⟨#[]⟩, .string ⟨#[]⟩, .slice none 0 0, .slice none 0 0, .int .i64 0, .bool false, .string ⟨#[]⟩] (stN l s1 6) (w2.setCell ⟨w.heap.size + 1 + 1, 6, none⟩ (.int .i64 ((rdN l 1099511627776 (stN l s1 5)).1 : Int))) ∧ Box (w2.setCell ⟨w.heap.size + 1 + 1, 6, none⟩ (.int .i64 ((rdN l 1099511627776 (stN l s1 5)).1 : Int))) pb 165 #[.pointer (some ⟨w.heap.size + 1 + 1, 1, none⟩), .pointer (some ⟨w.heap.size + 1 + 1, 2, none⟩), .pointer (some ⟨w.heap.size + 1 + 1, 3, none⟩), .pointer (some ⟨w.heap.size + 1 + 1, 4, none⟩), .pointer (some ⟨w.heap.size + 1 + 1, 5, none⟩), .pointer (some ⟨w.heap.size + 1 + 1, 6, none⟩)]) := Lib.hid ⟨HS2.out.1.set 6 (.int .i64 ((rdN l 1099511627776 (stN l s1 5)).1 : Int)), HS2.out.2.far (p := ⟨w.heap.size + 1 + 1, 6, none⟩) (by show pb ≠ w.heap.size + 1 + 1; omega) _⟩
        clear hr2 gr2 KC d0 dp
        go_wp2
        go_roundw
        case rel => exact ⟨6, by omega, by go_num, HT2⟩
        case measure => simp [intOf]
    · obtain rfl : j = 6 := by omega
      have HSA := Lib.hid HS.out.1
      clear HS hj hlt hpb
      generalize wr = wa at *
      obtain ⟨⟨cd, s7'⟩, hcd⟩ : ∃ x, rdN l 1099511627776 (stN l s1 6) = x := ⟨_, rfl⟩
      have HCd := Lib.hid hcd
      have HR2 := Lib.hid HR1.out
      rw [hcd] at HR2
      simp only at HR2
      have hyb : ∃ yb s8, decide ((rdN l 1 s7').1 = 1) = yb ∧ (rdN l 1 s7').2 = s8 := ⟨_, _, rfl, rfl⟩
      obtain ⟨yb, s8, hy1, hy2⟩ := hyb
      rw [hy1, hy2] at HR2
      have KCd : Hid (Calls Try.prog 115 #[.pointer (some ⟨r, 0, none⟩), .int .i64 1099511627776] wa (RdPost wa r A n c l (.int .i64 (cd : Int)) s7')) := Lib.hid (by have h9 := rdNum_any r A n c l (stN l s1 6) 1099511627776 wa HSA.out.rd; rw [hcd] at h9; exact h9)
      have KYe : Hid (∀ wx, RdAt wx r A n c l s7' → Calls Try.prog 116 #[.pointer (some ⟨r, 0, none⟩)] wx (RdPost wx r A n c l (.bool yb) s8)) := Lib.hid fun wx hx => by have h9 := yes_any r A n c l s7' wx hx; rw [hy1, hy2] at h9; exact h9
      clear hcd hy1 hy2 HR1
      have d0 : wa.cell? ⟨w.heap.size, 0, none⟩ = some (.pointer (some ⟨r, 0, none⟩)) := HSA.out.gv.cell 0
      go_wp2_with fail
      refine KCd.out.mono ?_
      rintro e wb hq
      obtain ⟨rfl, hr2, gr2⟩ := hq
      have HQcd := Lib.hid (HSA.out.call hr2 gr2)
      have bcd : wb.cell? ⟨w.heap.size + 1 + 1, 11, none⟩ = some (.int .i64 0) := HQcd.out.lb.cell 11
      have qcd : wb.frozen? ⟨w.heap.size + 1 + 1, 11, none⟩ = false := HQcd.out.lb.frozen 11
      have HScd : Hid (LtS w r A n c l #[.int .i64 (k : Int), .int .i64 (vvN l s1 0 6), .int .i64 (vvN l s1 1 6), .int .i64 (vvN l s1 2 6), .int .i64 (vvN l s1 3 6), .int .i64 (vvN l s1 4 6), .int .i64 (vvN l s1 5 6), .string ⟨#[]⟩, .string ⟨#[]⟩, .slice none 0 0, .slice none 0 0, .int .i64 (cd : Int), .bool false, .string ⟨#[]⟩] s7' (wb.setCell ⟨w.heap.size + 1 + 1, 11, none⟩ (.int .i64 (cd : Int)))) := Lib.hid (HQcd.out.set 11 (.int .i64 (cd : Int)))
      obtain ⟨wb2, hwcd⟩ : ∃ wb2, wb.setCell ⟨w.heap.size + 1 + 1, 11, none⟩ (.int .i64 (cd : Int)) = wb2 := ⟨_, rfl⟩
      clear hr2 gr2 KCd HQcd d0
      go_upto_region 9 with fail
      first | rw [hwcd] at HScd ⊢ | rw [hwcd] at HScd
      clear hwcd bcd qcd HSA
      have d0 : wb2.cell? ⟨w.heap.size, 0, none⟩ = some (.pointer (some ⟨r, 0, none⟩)) := HScd.out.gv.cell 0
      have Kye := Lib.hid (KYe.out wb2 HScd.out.rd)
      go_wp2_with fail
      refine Kye.out.mono ?_
      rintro e wd hq
      obtain ⟨rfl, hr2, gr2⟩ := hq
      have HQye := Lib.hid (HScd.out.call hr2 gr2)
      have bye : wd.cell? ⟨w.heap.size + 1 + 1, 12, none⟩ = some (.bool false) := HQye.out.lb.cell 12
      have qye : wd.frozen? ⟨w.heap.size + 1 + 1, 12, none⟩ = false := HQye.out.lb.frozen 12
      have HSye : Hid (LtS w r A n c l #[.int .i64 (k : Int), .int .i64 (vvN l s1 0 6), .int .i64 (vvN l s1 1 6), .int .i64 (vvN l s1 2 6), .int .i64 (vvN l s1 3 6), .int .i64 (vvN l s1 4 6), .int .i64 (vvN l s1 5 6), .string (ttN l s8 0 0), .string (ttN l s8 1 0), .slice none 0 0, .slice none 0 0, .int .i64 (cd : Int), .bool yb, .string (ttN l s8 2 0)] (stT l s8 0) (wd.setCell ⟨w.heap.size + 1 + 1, 12, none⟩ (.bool yb))) := Lib.hid (HQye.out.set 12 (.bool yb))
      obtain ⟨wd2, hwye⟩ : ∃ wd2, wd.setCell ⟨w.heap.size + 1 + 1, 12, none⟩ (.bool yb) = wd2 := ⟨_, rfl⟩
      clear hr2 gr2 Kye HQye d0
      go_upto_region 10 with fail
      first | rw [hwye] at HSye ⊢ | rw [hwye] at HSye
      clear hwye bye qye HScd KYe
      have HSL : Hid (LtS w r A n c l #[.int .i64 (k : Int), .int .i64 (vvN l s1 0 6), .int .i64 (vvN l s1 1 6), .int .i64 (vvN l s1 2 6), .int .i64 (vvN l s1 3 6), .int .i64 (vvN l s1 4 6), .int .i64 (vvN l s1 5 6), .string (ttN l s8 0 0), .string (ttN l s8 1 0), .slice none 0 0, .slice none 0 0, .int .i64 (cd : Int), .bool yb, .string (ttN l s8 2 0)] (stT l s8 0) (wd2.alloc (.cells #[.pointer (some ⟨w.heap.size + 1 + 1, 7, none⟩), .pointer (some ⟨w.heap.size + 1 + 1, 8, none⟩), .pointer (some ⟨w.heap.size + 1 + 1, 13, none⟩)] 167)) ∧ Box (wd2.alloc (.cells #[.pointer (some ⟨w.heap.size + 1 + 1, 7, none⟩), .pointer (some ⟨w.heap.size + 1 + 1, 8, none⟩), .pointer (some ⟨w.heap.size + 1 + 1, 13, none⟩)] 167)) wd2.heap.size 167 #[.pointer (some ⟨w.heap.size + 1 + 1, 7, none⟩), .pointer (some ⟨w.heap.size + 1 + 1, 8, none⟩), .pointer (some ⟨w.heap.size + 1 + 1, 13, none⟩)]) := Lib.hid ⟨HSye.out.bel (below_box _), Box.made _ _ _⟩
      have hpb : w.heap.size + 1 + 1 < wd2.heap.size := HSye.out.lb.lt
      clear HSye
      go_wp2
      generalize hWA : (wd2.alloc (.cells #[.pointer (some ⟨w.heap.size + 1 + 1, 7, none⟩), .pointer (some ⟨w.heap.size + 1 + 1, 8, none⟩), .pointer (some ⟨w.heap.size + 1 + 1, 13, none⟩)] 167)) = WA2 at *
      generalize hPb : wd2.heap.size = pb at *
      clear hWA hPb
      go_loopw [7, 39] (fun _ iv wr => ∃ j : Nat, j ≤ 3 ∧ iv = .int .i64 (j : Int) ∧ Hid (LtS w r A n c l #[.int .i64 (k : Int), .int .i64 (vvN l s1 0 6), .int .i64 (vvN l s1 1 6), .int .i64 (vvN l s1 2 6), .int .i64 (vvN l s1 3 6), .int .i64 (vvN l s1 4 6), .int .i64 (vvN l s1 5 6), .string (ttN l s8 0 j), .string (ttN l s8 1 j), .slice none 0 0, .slice none 0 0, .int .i64 (cd : Int), .bool yb, .string (ttN l s8 2 j)] (stT l s8 j) wr ∧ Box wr pb 167 #[.pointer (some ⟨w.heap.size + 1 + 1, 7, none⟩), .pointer (some ⟨w.heap.size + 1 + 1, 8, none⟩), .pointer (some ⟨w.heap.size + 1 + 1, 13, none⟩)])) (fun _ iv _ => 3 - (intOf iv).toNat)
      case atStart => exact ⟨0, by omega, rfl, HSL⟩
      case round =>
        clear HSL
        obtain ⟨j, hj, rfl, HS⟩ := hrel
        by_cases hlt : j < 3
        · have hc : j = 0 ∨ j = 1 ∨ j = 2 := by omega
          clear hj hlt
          rcases hc with rfl | rfl | rfl
          · have d0 : wr.cell? ⟨w.heap.size, 0, none⟩ = some (.pointer (some ⟨r, 0, none⟩)) := HS.out.1.gv.cell 0
            have dp : wr.cell? ⟨pb, 0, none⟩ = some (.pointer (some ⟨w.heap.size + 1 + 1, 7, none⟩)) := HS.out.2.cell 0
            have KC := Lib.hid (rdText_any r A n c l (stT l s8 0) wr HS.out.1.rd)
            go_wp2_with fail
            refine KC.out.mono ?_
            rintro e w2 hq
            obtain ⟨rfl, hr2, gr2⟩ := hq
            have HS2 := Lib.hid (And.intro (HS.out.1.call hr2 gr2) (grown_box gr2 HS.out.2 (by omega)))
            have b2 : w2.cell? ⟨w.heap.size + 1 + 1, 7, none⟩ = some (.string ⟨#[]⟩) := HS2.out.1.lb.cell 7
            have q2 : w2.frozen? ⟨w.heap.size + 1 + 1, 7, none⟩ = false := HS2.out.1.lb.frozen 7
            have HT2 : Hid (LtS w r A n c l #[.int .i64 (k : Int), .int .i64 (vvN l s1 0 6), .int .i64 (vvN l s1 1 6), .int .i64 (vvN l s1 2 6), .int .i64 (vvN l s1 3 6), .int .i64 (vvN l s1 4 6), .int .i64 (vvN l s1 5 6), .string (ttN l s8 0 1), .string (ttN l s8 1 1), .slice none 0 0, .slice none 0 0, .int .i64 (cd : Int), .bool yb, .string (ttN l s8 2 1)] (stT l s8 1) (w2.setCell ⟨w.heap.size + 1 + 1, 7, none⟩ (.string ⟨(rdT l (stT l s8 0)).1.toArray⟩)) ∧ Box (w2.setCell ⟨w.heap.size + 1 + 1, 7, none⟩ (.string ⟨(rdT l (stT l s8 0)).1.toArray⟩)) pb 167 #[.pointer (some ⟨w.heap.size + 1 + 1, 7, none⟩), .pointer (some ⟨w.heap.size + 1 + 1, 8, none⟩), .pointer (some ⟨w.heap.size + 1 + 1, 13, none⟩)]) := Lib.hid ⟨HS2.out.1.set 7 (.string ⟨(rdT l (stT l s8 0)).1.toArray⟩), HS2.out.2.far (p := ⟨w.heap.size + 1 + 1, 7, none⟩) (by show pb ≠ w.heap.size + 1 + 1; omega) _⟩
            clear hr2 gr2 KC d0 dp
            go_wp2
            go_roundw
            case rel => exact ⟨1, by omega, by go_num, HT2⟩
            case measure => simp [intOf]
          · have d0 : wr.cell? ⟨w.heap.size, 0, none⟩ = some (.pointer (some ⟨r, 0, none⟩)) := HS.out.1.gv.cell 0
            have dp : wr.cell? ⟨pb, 1, none⟩ = some (.pointer (some ⟨w.heap.size + 1 + 1, 8, none⟩)) := HS.out.2.cell 1
            have KC := Lib.hid (rdText_any r A n c l (stT l s8 1) wr HS.out.1.rd)
            go_wp2_with fail
            refine KC.out.mono ?_
            rintro e w2 hq
            obtain ⟨rfl, hr2, gr2⟩ := hq
            have HS2 := Lib.hid (And.intro (HS.out.1.call hr2 gr2) (grown_box gr2 HS.out.2 (by omega)))
            have b2 : w2.cell? ⟨w.heap.size + 1 + 1, 8, none⟩ = some (.string ⟨#[]⟩) := HS2.out.1.lb.cell 8
            have q2 : w2.frozen? ⟨w.heap.size + 1 + 1, 8, none⟩ = false := HS2.out.1.lb.frozen 8
            have HT2 : Hid (LtS w r A n c l #[.int .i64 (k : Int), .int .i64 (vvN l s1 0 6), .int .i64 (vvN l s1 1 6), .int .i64 (vvN l s1 2 6), .int .i64 (vvN l s1 3 6), .int .i64 (vvN l s1 4 6), .int .i64 (vvN l s1 5 6), .string (ttN l s8 0 2), .string (ttN l s8 1 2), .slice none 0 0, .slice none 0 0, .int .i64 (cd : Int), .bool yb, .string (ttN l s8 2 2)] (stT l s8 2) (w2.setCell ⟨w.heap.size + 1 + 1, 8, none⟩ (.string ⟨(rdT l (stT l s8 1)).1.toArray⟩)) ∧ Box (w2.setCell ⟨w.heap.size + 1 + 1, 8, none⟩ (.string ⟨(rdT l (stT l s8 1)).1.toArray⟩)) pb 167 #[.pointer (some ⟨w.heap.size + 1 + 1, 7, none⟩), .pointer (some ⟨w.heap.size + 1 + 1, 8, none⟩), .pointer (some ⟨w.heap.size + 1 + 1, 13, none⟩)]) := Lib.hid ⟨HS2.out.1.set 8 (.string ⟨(rdT l (stT l s8 1)).1.toArray⟩), HS2.out.2.far (p := ⟨w.heap.size + 1 + 1, 8, none⟩) (by show pb ≠ w.heap.size + 1 + 1; omega) _⟩
            clear hr2 gr2 KC d0 dp
            go_wp2
            go_roundw
            case rel => exact ⟨2, by omega, by go_num, HT2⟩
            case measure => simp [intOf]
          · have d0 : wr.cell? ⟨w.heap.size, 0, none⟩ = some (.pointer (some ⟨r, 0, none⟩)) := HS.out.1.gv.cell 0
            have dp : wr.cell? ⟨pb, 2, none⟩ = some (.pointer (some ⟨w.heap.size + 1 + 1, 13, none⟩)) := HS.out.2.cell 2
            have KC := Lib.hid (rdText_any r A n c l (stT l s8 2) wr HS.out.1.rd)
            go_wp2_with fail
            refine KC.out.mono ?_
            rintro e w2 hq
            obtain ⟨rfl, hr2, gr2⟩ := hq
            have HS2 := Lib.hid (And.intro (HS.out.1.call hr2 gr2) (grown_box gr2 HS.out.2 (by omega)))
            have b2 : w2.cell? ⟨w.heap.size + 1 + 1, 13, none⟩ = some (.string ⟨#[]⟩) := HS2.out.1.lb.cell 13
            have q2 : w2.frozen? ⟨w.heap.size + 1 + 1, 13, none⟩ = false := HS2.out.1.lb.frozen 13
            have HT2 : Hid (LtS w r A n c l #[.int .i64 (k : Int), .int .i64 (vvN l s1 0 6), .int .i64 (vvN l s1 1 6), .int .i64 (vvN l s1 2 6), .int .i64 (vvN l s1 3 6), .int .i64 (vvN l s1 4 6), .int .i64 (vvN l s1 5 6), .string (ttN l s8 0 3), .string (ttN l s8 1 3), .slice none 0 0, .slice none 0 0, .int .i64 (cd : Int), .bool yb, .string (ttN l s8 2 3)] (stT l s8 3) (w2.setCell ⟨w.heap.size + 1 + 1, 13, none⟩ (.string ⟨(rdT l (stT l s8 2)).1.toArray⟩)) ∧ Box (w2.setCell ⟨w.heap.size + 1 + 1, 13, none⟩ (.string ⟨(rdT l (stT l s8 2)).1.toArray⟩)) pb 167 #[.pointer (some ⟨w.heap.size + 1 + 1, 7, none⟩), .pointer (some ⟨w.heap.size + 1 + 1, 8, none⟩), .pointer (some ⟨w.heap.size + 1 + 1, 13, none⟩)]) := Lib.hid ⟨HS2.out.1.set 13 (.string ⟨(rdT l (stT l s8 2)).1.toArray⟩), HS2.out.2.far (p := ⟨w.heap.size + 1 + 1, 13, none⟩) (by show pb ≠ w.heap.size + 1 + 1; omega) _⟩
            clear hr2 gr2 KC d0 dp
            go_wp2
            go_roundw
            case rel => exact ⟨3, by omega, by go_num, HT2⟩
            case measure => simp [intOf]
        · obtain rfl : j = 3 := by omega
          have HSA := Lib.hid HS.out.1
          clear HS hj hlt hpb
          generalize wr = we at *
          have d0 : we.cell? ⟨w.heap.size, 0, none⟩ = some (.pointer (some ⟨r, 0, none⟩)) := HSA.out.gv.cell 0
          have KP := Lib.hid (listP_any r w.heap.size A n c l (stT l s8 3) we HSA.out.rd HSA.out.gv (by omega))
          unfold listPPost at KP
          obtain ⟨⟨lp, s12⟩, hlp⟩ : ∃ x, rdList l (rdP l) (stT l s8 3) = x := ⟨_, rfl⟩
          have HR3 := Lib.hid HR2.out
          rw [hlp] at KP HR3
          simp only at HR3
          clear hlp HR2
          go_wp2_with fail
          refine KP.out.mono ?_
          rintro e wf hq
          obtain ⟨vp, rfl, op, hr2, gr2⟩ := hq
          obtain ⟨Ap, cp, rfl, -, -, -⟩ := op.slice
          obtain ⟨NP, hNP⟩ : ∃ NP, lp.length = NP := ⟨_, rfl⟩
          have hwe : w.heap.size + 1 + 1 < we.heap.size := HSA.out.lb.lt
          have HQ := Lib.hid (HSA.out.call hr2 gr2)
          rw [hNP] at op ⊢
          have b2 : wf.cell? ⟨w.heap.size + 1 + 1, 9, none⟩ = some (.slice none 0 0) := HQ.out.lb.cell 9
          have q2 : wf.frozen? ⟨w.heap.size + 1 + 1, 9, none⟩ = false := HQ.out.lb.frozen 9
          have HSp : Hid (LtS w r A n c l #[.int .i64 (k : Int), .int .i64 (vvN l s1 0 6), .int .i64 (vvN l s1 1 6), .int .i64 (vvN l s1 2 6), .int .i64 (vvN l s1 3 6), .int .i64 (vvN l s1 4 6), .int .i64 (vvN l s1 5 6), .string (ttN l s8 0 3), .string (ttN l s8 1 3), .slice Ap NP cp, .slice none 0 0, .int .i64 (cd : Int), .bool yb, .string (ttN l s8 2 3)] s12 (wf.setCell ⟨w.heap.size + 1 + 1, 9, none⟩ (.slice Ap NP cp)) ∧ OwnLps (wf.setCell ⟨w.heap.size + 1 + 1, 9, none⟩ (.slice Ap NP cp)) we.heap.size (.slice Ap NP cp) lp) := Lib.hid ⟨HQ.out.set 9 (.slice Ap NP cp), own_setB op (by omega)⟩
          have HNP := Lib.hid hNP
          clear hr2 gr2 KP HQ d0 op hNP HSA
          go_upto_region 16 with fail
          generalize hWF : (wf.setCell ⟨w.heap.size + 1 + 1, 9, none⟩ (.slice Ap NP cp)) = wg at *
          clear hWF b2 q2
          have d0 : wg.cell? ⟨w.heap.size, 0, none⟩ = some (.pointer (some ⟨r, 0, none⟩)) := HSp.out.1.gv.cell 0
          have KI := Lib.hid (listI_any r w.heap.size A n c l s12 wg HSp.out.1.rd HSp.out.1.gv (by omega))
          unfold listIPost at KI
          obtain ⟨⟨li, s13⟩, hli⟩ : ∃ x, rdList l (rdI l) s12 = x := ⟨_, rfl⟩
          have HR4 := Lib.hid HR3.out
          rw [hli] at KI HR4
          simp only at HR4
          clear hli HR3
          go_wp2_with fail
          refine KI.out.mono ?_
          rintro e wh hq
          obtain ⟨vi, rfl, oi, hr2, gr2⟩ := hq
          obtain ⟨Ai, ci, rfl, -, -, -⟩ := oi.slice
          obtain ⟨NI, hNI⟩ : ∃ NI, li.length = NI := ⟨_, rfl⟩
          have hwg : w.heap.size + 1 + 1 < wg.heap.size := HSp.out.1.lb.lt
          have HQ := Lib.hid (HSp.out.1.call hr2 gr2)
          rw [hNI] at oi ⊢
          have b2 : wh.cell? ⟨w.heap.size + 1 + 1, 10, none⟩ = some (.slice none 0 0) := HQ.out.lb.cell 10
          have q2 : wh.frozen? ⟨w.heap.size + 1 + 1, 10, none⟩ = false := HQ.out.lb.frozen 10
          have HSi : Hid (LtS w r A n c l #[.int .i64 (k : Int), .int .i64 (vvN l s1 0 6), .int .i64 (vvN l s1 1 6), .int .i64 (vvN l s1 2 6), .int .i64 (vvN l s1 3 6), .int .i64 (vvN l s1 4 6), .int .i64 (vvN l s1 5 6), .string (ttN l s8 0 3), .string (ttN l s8 1 3), .slice Ap NP cp, .slice Ai NI ci, .int .i64 (cd : Int), .bool yb, .string (ttN l s8 2 3)] s13 (wh.setCell ⟨w.heap.size + 1 + 1, 10, none⟩ (.slice Ai NI ci)) ∧ OwnLps (wh.setCell ⟨w.heap.size + 1 + 1, 10, none⟩ (.slice Ai NI ci)) we.heap.size (.slice Ap NP cp) lp ∧ OwnLis (wh.setCell ⟨w.heap.size + 1 + 1, 10, none⟩ (.slice Ai NI ci)) wg.heap.size (.slice Ai NI ci) li) := Lib.hid ⟨HQ.out.set 10 (.slice Ai NI ci), own_setB (own_far HSp.out.2 gr2 (by omega)) (by omega), own_setB oi (by omega)⟩
          have HNI := Lib.hid hNI
          clear hr2 gr2 KI HQ d0 oi hNI HSp
          go_upto_region 17 with fail
          generalize hWH : (wh.setCell ⟨w.heap.size + 1 + 1, 10, none⟩ (.slice Ai NI ci)) = wz at *
          clear hWH b2 q2
          have HSF := Lib.hid HSi.out.1
          have HOP := Lib.hid HSi.out.2.1
          have HOI := Lib.hid HSi.out.2.2
          have v0 : wz.cell? ⟨w.heap.size + 1 + 1, 0, none⟩ = some (.int .i64 (k : Int)) := HSF.out.lb.cell 0
          have v1 : wz.cell? ⟨w.heap.size + 1 + 1, 1, none⟩ = some (.int .i64 (vvN l s1 0 6)) := HSF.out.lb.cell 1
          have v2 : wz.cell? ⟨w.heap.size + 1 + 1, 2, none⟩ = some (.int .i64 (vvN l s1 1 6)) := HSF.out.lb.cell 2
          have v3 : wz.cell? ⟨w.heap.size + 1 + 1, 3, none⟩ = some (.int .i64 (vvN l s1 2 6)) := HSF.out.lb.cell 3
          have v4 : wz.cell? ⟨w.heap.size + 1 + 1, 4, none⟩ = some (.int .i64 (vvN l s1 3 6)) := HSF.out.lb.cell 4
          have v5 : wz.cell? ⟨w.heap.size + 1 + 1, 5, none⟩ = some (.int .i64 (vvN l s1 4 6)) := HSF.out.lb.cell 5
          have v6 : wz.cell? ⟨w.heap.size + 1 + 1, 6, none⟩ = some (.int .i64 (vvN l s1 5 6)) := HSF.out.lb.cell 6
          have v7 : wz.cell? ⟨w.heap.size + 1 + 1, 7, none⟩ = some (.string (ttN l s8 0 3)) := HSF.out.lb.cell 7
          have v8 : wz.cell? ⟨w.heap.size + 1 + 1, 8, none⟩ = some (.string (ttN l s8 1 3)) := HSF.out.lb.cell 8
          have v9 : wz.cell? ⟨w.heap.size + 1 + 1, 9, none⟩ = some (.slice Ap NP cp) := HSF.out.lb.cell 9
          have v10 : wz.cell? ⟨w.heap.size + 1 + 1, 10, none⟩ = some (.slice Ai NI ci) := HSF.out.lb.cell 10
          have v11 : wz.cell? ⟨w.heap.size + 1 + 1, 11, none⟩ = some (.int .i64 (cd : Int)) := HSF.out.lb.cell 11
          have v12 : wz.cell? ⟨w.heap.size + 1 + 1, 12, none⟩ = some (.bool yb) := HSF.out.lb.cell 12
          have v13 : wz.cell? ⟨w.heap.size + 1 + 1, 13, none⟩ = some (.string (ttN l s8 2 3)) := HSF.out.lb.cell 13
          have hZ := HSF.out.res
          have z0 : wz.cell? ⟨w.heap.size + 1, 0, none⟩ = some (.int .i64 0) := hZ.cell 0
          have y0 : wz.frozen? ⟨w.heap.size + 1, 0, none⟩ = false := hZ.frozen 0
          have z1 : wz.cell? ⟨w.heap.size + 1, 1, none⟩ = some (.int .i64 0) := hZ.cell 1
          have y1 : wz.frozen? ⟨w.heap.size + 1, 1, none⟩ = false := hZ.frozen 1
          have z2 : wz.cell? ⟨w.heap.size + 1, 2, none⟩ = some (.int .i64 0) := hZ.cell 2
          have y2 : wz.frozen? ⟨w.heap.size + 1, 2, none⟩ = false := hZ.frozen 2
          have z3 : wz.cell? ⟨w.heap.size + 1, 3, none⟩ = some (.int .i64 0) := hZ.cell 3
          have y3 : wz.frozen? ⟨w.heap.size + 1, 3, none⟩ = false := hZ.frozen 3
          have z4 : wz.cell? ⟨w.heap.size + 1, 4, none⟩ = some (.int .i64 0) := hZ.cell 4
          have y4 : wz.frozen? ⟨w.heap.size + 1, 4, none⟩ = false := hZ.frozen 4
          have z5 : wz.cell? ⟨w.heap.size + 1, 5, none⟩ = some (.int .i64 0) := hZ.cell 5
          have y5 : wz.frozen? ⟨w.heap.size + 1, 5, none⟩ = false := hZ.frozen 5
          have z6 : wz.cell? ⟨w.heap.size + 1, 6, none⟩ = some (.int .i64 0) := hZ.cell 6
          have y6 : wz.frozen? ⟨w.heap.size + 1, 6, none⟩ = false := hZ.frozen 6
          have z7 : wz.cell? ⟨w.heap.size + 1, 7, none⟩ = some (.string ⟨#[]⟩) := hZ.cell 7
          have y7 : wz.frozen? ⟨w.heap.size + 1, 7, none⟩ = false := hZ.frozen 7
          have z8 : wz.cell? ⟨w.heap.size + 1, 8, none⟩ = some (.string ⟨#[]⟩) := hZ.cell 8
          have y8 : wz.frozen? ⟨w.heap.size + 1, 8, none⟩ = false := hZ.frozen 8
          have z9 : wz.cell? ⟨w.heap.size + 1, 9, none⟩ = some (.slice none 0 0) := hZ.cell 9
          have y9 : wz.frozen? ⟨w.heap.size + 1, 9, none⟩ = false := hZ.frozen 9
          have z10 : wz.cell? ⟨w.heap.size + 1, 10, none⟩ = some (.slice none 0 0) := hZ.cell 10
          have y10 : wz.frozen? ⟨w.heap.size + 1, 10, none⟩ = false := hZ.frozen 10
          have z11 : wz.cell? ⟨w.heap.size + 1, 11, none⟩ = some (.int .i64 0) := hZ.cell 11
          have y11 : wz.frozen? ⟨w.heap.size + 1, 11, none⟩ = false := hZ.frozen 11
          have z12 : wz.cell? ⟨w.heap.size + 1, 12, none⟩ = some (.bool false) := hZ.cell 12
          have y12 : wz.frozen? ⟨w.heap.size + 1, 12, none⟩ = false := hZ.frozen 12
          have z13 : wz.cell? ⟨w.heap.size + 1, 13, none⟩ = some (.string ⟨#[]⟩) := hZ.cell 13
          have y13 : wz.frozen? ⟨w.heap.size + 1, 13, none⟩ = false := hZ.frozen 13
          have hb0 : Box _ (w.heap.size + 1) 69 #[.int .i64 (k : Int), .int .i64 0, .int .i64 0, .int .i64 0, .int .i64 0, .int .i64 0, .int .i64 0, .string ⟨#[]⟩, .string ⟨#[]⟩, .slice none 0 0, .slice none 0 0, .int .i64 0, .bool false, .string ⟨#[]⟩] := hZ.set_ 0 (.int .i64 (k : Int))
          have hb1 : Box _ (w.heap.size + 1) 69 #[.int .i64 (k : Int), .int .i64 (vvN l s1 0 6), .int .i64 0, .int .i64 0, .int .i64 0, .int .i64 0, .int .i64 0, .string ⟨#[]⟩, .string ⟨#[]⟩, .slice none 0 0, .slice none 0 0, .int .i64 0, .bool false, .string ⟨#[]⟩] := hb0.set_ 1 (.int .i64 (vvN l s1 0 6))
          have hb2 : Box _ (w.heap.size + 1) 69 #[.int .i64 (k : Int), .int .i64 (vvN l s1 0 6), .int .i64 (vvN l s1 1 6), .int .i64 0, .int .i64 0, .int .i64 0, .int .i64 0, .string ⟨#[]⟩, .string ⟨#[]⟩, .slice none 0 0, .slice none 0 0, .int .i64 0, .bool false, .string ⟨#[]⟩] := hb1.set_ 2 (.int .i64 (vvN l s1 1 6))
          have hb3 : Box _ (w.heap.size + 1) 69 #[.int .i64 (k : Int), .int .i64 (vvN l s1 0 6), .int .i64 (vvN l s1 1 6), .int .i64 (vvN l s1 2 6), .int .i64 0, .int .i64 0, .int .i64 0, .string ⟨#[]⟩, .string ⟨#[]⟩, .slice none 0 0, .slice none 0 0, .int .i64 0, .bool false, .string ⟨#[]⟩] := hb2.set_ 3 (.int .i64 (vvN l s1 2 6))
          have hb4 : Box _ (w.heap.size + 1) 69 #[.int .i64 (k : Int), .int .i64 (vvN l s1 0 6), .int .i64 (vvN l s1 1 6), .int .i64 (vvN l s1 2 6), .int .i64 (vvN l s1 3 6), .int .i64 0, .int .i64 0, .string ⟨#[]⟩, .string ⟨#[]⟩, .slice none 0 0, .slice none 0 0, .int .i64 0, .bool false, .string ⟨#[]⟩] := hb3.set_ 4 (.int .i64 (vvN l s1 3 6))
          have hb5 : Box _ (w.heap.size + 1) 69 #[.int .i64 (k : Int), .int .i64 (vvN l s1 0 6), .int .i64 (vvN l s1 1 6), .int .i64 (vvN l s1 2 6), .int .i64 (vvN l s1 3 6), .int .i64 (vvN l s1 4 6), .int .i64 0, .string ⟨#[]⟩, .string ⟨#[]⟩, .slice none 0 0, .slice none 0 0, .int .i64 0, .bool false, .string ⟨#[]⟩] := hb4.set_ 5 (.int .i64 (vvN l s1 4 6))
          have hb6 : Box _ (w.heap.size + 1) 69 #[.int .i64 (k : Int), .int .i64 (vvN l s1 0 6), .int .i64 (vvN l s1 1 6), .int .i64 (vvN l s1 2 6), .int .i64 (vvN l s1 3 6), .int .i64 (vvN l s1 4 6), .int .i64 (vvN l s1 5 6), .string ⟨#[]⟩, .string ⟨#[]⟩, .slice none 0 0, .slice none 0 0, .int .i64 0, .bool false, .string ⟨#[]⟩] := hb5.set_ 6 (.int .i64 (vvN l s1 5 6))
          have hb7 : Box _ (w.heap.size + 1) 69 #[.int .i64 (k : Int), .int .i64 (vvN l s1 0 6), .int .i64 (vvN l s1 1 6), .int .i64 (vvN l s1 2 6), .int .i64 (vvN l s1 3 6), .int .i64 (vvN l s1 4 6), .int .i64 (vvN l s1 5 6), .string (ttN l s8 0 3), .string ⟨#[]⟩, .slice none 0 0, .slice none 0 0, .int .i64 0, .bool false, .string ⟨#[]⟩] := hb6.set_ 7 (.string (ttN l s8 0 3))
          have hb8 : Box _ (w.heap.size + 1) 69 #[.int .i64 (k : Int), .int .i64 (vvN l s1 0 6), .int .i64 (vvN l s1 1 6), .int .i64 (vvN l s1 2 6), .int .i64 (vvN l s1 3 6), .int .i64 (vvN l s1 4 6), .int .i64 (vvN l s1 5 6), .string (ttN l s8 0 3), .string (ttN l s8 1 3), .slice none 0 0, .slice none 0 0, .int .i64 0, .bool false, .string ⟨#[]⟩] := hb7.set_ 8 (.string (ttN l s8 1 3))
          have hb9 : Box _ (w.heap.size + 1) 69 #[.int .i64 (k : Int), .int .i64 (vvN l s1 0 6), .int .i64 (vvN l s1 1 6), .int .i64 (vvN l s1 2 6), .int .i64 (vvN l s1 3 6), .int .i64 (vvN l s1 4 6), .int .i64 (vvN l s1 5 6), .string (ttN l s8 0 3), .string (ttN l s8 1 3), .slice Ap NP cp, .slice none 0 0, .int .i64 0, .bool false, .string ⟨#[]⟩] := hb8.set_ 9 (.slice Ap NP cp)
          have hb10 : Box _ (w.heap.size + 1) 69 #[.int .i64 (k : Int), .int .i64 (vvN l s1 0 6), .int .i64 (vvN l s1 1 6), .int .i64 (vvN l s1 2 6), .int .i64 (vvN l s1 3 6), .int .i64 (vvN l s1 4 6), .int .i64 (vvN l s1 5 6), .string (ttN l s8 0 3), .string (ttN l s8 1 3), .slice Ap NP cp, .slice Ai NI ci, .int .i64 0, .bool false, .string ⟨#[]⟩] := hb9.set_ 10 (.slice Ai NI ci)
          have hb11 : Box _ (w.heap.size + 1) 69 #[.int .i64 (k : Int), .int .i64 (vvN l s1 0 6), .int .i64 (vvN l s1 1 6), .int .i64 (vvN l s1 2 6), .int .i64 (vvN l s1 3 6), .int .i64 (vvN l s1 4 6), .int .i64 (vvN l s1 5 6), .string (ttN l s8 0 3), .string (ttN l s8 1 3), .slice Ap NP cp, .slice Ai NI ci, .int .i64 (cd : Int), .bool false, .string ⟨#[]⟩] := hb10.set_ 11 (.int .i64 (cd : Int))
          have hb12 : Box _ (w.heap.size + 1) 69 #[.int .i64 (k : Int), .int .i64 (vvN l s1 0 6), .int .i64 (vvN l s1 1 6), .int .i64 (vvN l s1 2 6), .int .i64 (vvN l s1 3 6), .int .i64 (vvN l s1 4 6), .int .i64 (vvN l s1 5 6), .string (ttN l s8 0 3), .string (ttN l s8 1 3), .slice Ap NP cp, .slice Ai NI ci, .int .i64 (cd : Int), .bool yb, .string ⟨#[]⟩] := hb11.set_ 12 (.bool yb)
          have hS : Box _ (w.heap.size + 1) 69 #[.int .i64 (k : Int), .int .i64 (vvN l s1 0 6), .int .i64 (vvN l s1 1 6), .int .i64 (vvN l s1 2 6), .int .i64 (vvN l s1 3 6), .int .i64 (vvN l s1 4 6), .int .i64 (vvN l s1 5 6), .string (ttN l s8 0 3), .string (ttN l s8 1 3), .slice Ap NP cp, .slice Ai NI ci, .int .i64 (cd : Int), .bool yb, .string (ttN l s8 2 3)] := hb12.set_ 13 (.string (ttN l s8 2 3))
          have HRES : Hid (RdAt ((((((((((((((wz.setCell ⟨w.heap.size + 1, 0, none⟩ (.int .i64 (k : Int))).setCell ⟨w.heap.size + 1, 1, none⟩ (.int .i64 (vvN l s1 0 6))).setCell ⟨w.heap.size + 1, 2, none⟩ (.int .i64 (vvN l s1 1 6))).setCell ⟨w.heap.size + 1, 3, none⟩ (.int .i64 (vvN l s1 2 6))).setCell ⟨w.heap.size + 1, 4, none⟩ (.int .i64 (vvN l s1 3 6))).setCell ⟨w.heap.size + 1, 5, none⟩ (.int .i64 (vvN l s1 4 6))).setCell ⟨w.heap.size + 1, 6, none⟩ (.int .i64 (vvN l s1 5 6))).setCell ⟨w.heap.size + 1, 7, none⟩ (.string (ttN l s8 0 3))).setCell ⟨w.heap.size + 1, 8, none⟩ (.string (ttN l s8 1 3))).setCell ⟨w.heap.size + 1, 9, none⟩ (.slice Ap NP cp)).setCell ⟨w.heap.size + 1, 10, none⟩ (.slice Ai NI ci)).setCell ⟨w.heap.size + 1, 11, none⟩ (.int .i64 (cd : Int))).setCell ⟨w.heap.size + 1, 12, none⟩ (.bool yb)).setCell ⟨w.heap.size + 1, 13, none⟩ (.string (ttN l s8 2 3))) r A n c l s13 ∧ w.grownBy ((((((((((((((wz.setCell ⟨w.heap.size + 1, 0, none⟩ (.int .i64 (k : Int))).setCell ⟨w.heap.size + 1, 1, none⟩ (.int .i64 (vvN l s1 0 6))).setCell ⟨w.heap.size + 1, 2, none⟩ (.int .i64 (vvN l s1 1 6))).setCell ⟨w.heap.size + 1, 3, none⟩ (.int .i64 (vvN l s1 2 6))).setCell ⟨w.heap.size + 1, 4, none⟩ (.int .i64 (vvN l s1 3 6))).setCell ⟨w.heap.size + 1, 5, none⟩ (.int .i64 (vvN l s1 4 6))).setCell ⟨w.heap.size + 1, 6, none⟩ (.int .i64 (vvN l s1 5 6))).setCell ⟨w.heap.size + 1, 7, none⟩ (.string (ttN l s8 0 3))).setCell ⟨w.heap.size + 1, 8, none⟩ (.string (ttN l s8 1 3))).setCell ⟨w.heap.size + 1, 9, none⟩ (.slice Ap NP cp)).setCell ⟨w.heap.size + 1, 10, none⟩ (.slice Ai NI ci)).setCell ⟨w.heap.size + 1, 11, none⟩ (.int .i64 (cd : Int))).setCell ⟨w.heap.size + 1, 12, none⟩ (.bool yb)).setCell ⟨w.heap.size + 1, 13, none⟩ (.string (ttN l s8 2 3))) (some r) ∧ OwnLps ((((((((((((((wz.setCell ⟨w.heap.size + 1, 0, none⟩ (.int .i64 (k : Int))).setCell ⟨w.heap.size + 1, 1, none⟩ (.int .i64 (vvN l s1 0 6))).setCell ⟨w.heap.size + 1, 2, none⟩ (.int .i64 (vvN l s1 1 6))).setCell ⟨w.heap.size + 1, 3, none⟩ (.int .i64 (vvN l s1 2 6))).setCell ⟨w.heap.size + 1, 4, none⟩ (.int .i64 (vvN l s1 3 6))).setCell ⟨w.heap.size + 1, 5, none⟩ (.int .i64 (vvN l s1 4 6))).setCell ⟨w.heap.size + 1, 6, none⟩ (.int .i64 (vvN l s1 5 6))).setCell ⟨w.heap.size + 1, 7, none⟩ (.string (ttN l s8 0 3))).setCell ⟨w.heap.size + 1, 8, none⟩ (.string (ttN l s8 1 3))).setCell ⟨w.heap.size + 1, 9, none⟩ (.slice Ap NP cp)).setCell ⟨w.heap.size + 1, 10, none⟩ (.slice Ai NI ci)).setCell ⟨w.heap.size + 1, 11, none⟩ (.int .i64 (cd : Int))).setCell ⟨w.heap.size + 1, 12, none⟩ (.bool yb)).setCell ⟨w.heap.size + 1, 13, none⟩ (.string (ttN l s8 2 3))) w.heap.size (.slice Ap NP cp) lp ∧ OwnLis ((((((((((((((wz.setCell ⟨w.heap.size + 1, 0, none⟩ (.int .i64 (k : Int))).setCell ⟨w.heap.size + 1, 1, none⟩ (.int .i64 (vvN l s1 0 6))).setCell ⟨w.heap.size + 1, 2, none⟩ (.int .i64 (vvN l s1 1 6))).setCell ⟨w.heap.size + 1, 3, none⟩ (.int .i64 (vvN l s1 2 6))).setCell ⟨w.heap.size + 1, 4, none⟩ (.int .i64 (vvN l s1 3 6))).setCell ⟨w.heap.size + 1, 5, none⟩ (.int .i64 (vvN l s1 4 6))).setCell ⟨w.heap.size + 1, 6, none⟩ (.int .i64 (vvN l s1 5 6))).setCell ⟨w.heap.size + 1, 7, none⟩ (.string (ttN l s8 0 3))).setCell ⟨w.heap.size + 1, 8, none⟩ (.string (ttN l s8 1 3))).setCell ⟨w.heap.size + 1, 9, none⟩ (.slice Ap NP cp)).setCell ⟨w.heap.size + 1, 10, none⟩ (.slice Ai NI ci)).setCell ⟨w.heap.size + 1, 11, none⟩ (.int .i64 (cd : Int))).setCell ⟨w.heap.size + 1, 12, none⟩ (.bool yb)).setCell ⟨w.heap.size + 1, 13, none⟩ (.string (ttN l s8 2 3))) w.heap.size (.slice Ai NI ci) li) := Lib.hid ⟨((((((((((((((HSF.out.rd.setB (i := 0) (u := .int .i64 (k : Int)) (g := w.heap.size + 1) (by omega)).setB (i := 1) (u := .int .i64 (vvN l s1 0 6)) (g := w.heap.size + 1) (by omega)).setB (i := 2) (u := .int .i64 (vvN l s1 1 6)) (g := w.heap.size + 1) (by omega)).setB (i := 3) (u := .int .i64 (vvN l s1 2 6)) (g := w.heap.size + 1) (by omega)).setB (i := 4) (u := .int .i64 (vvN l s1 3 6)) (g := w.heap.size + 1) (by omega)).setB (i := 5) (u := .int .i64 (vvN l s1 4 6)) (g := w.heap.size + 1) (by omega)).setB (i := 6) (u := .int .i64 (vvN l s1 5 6)) (g := w.heap.size + 1) (by omega)).setB (i := 7) (u := .string (ttN l s8 0 3)) (g := w.heap.size + 1) (by omega)).setB (i := 8) (u := .string (ttN l s8 1 3)) (g := w.heap.size + 1) (by omega)).setB (i := 9) (u := .slice Ap NP cp) (g := w.heap.size + 1) (by omega)).setB (i := 10) (u := .slice Ai NI ci) (g := w.heap.size + 1) (by omega)).setB (i := 11) (u := .int .i64 (cd : Int)) (g := w.heap.size + 1) (by omega)).setB (i := 12) (u := .bool yb) (g := w.heap.size + 1) (by omega)).setB (i := 13) (u := .string (ttN l s8 2 3)) (g := w.heap.size + 1) (by omega)), (grown_setB (grown_setB (grown_setB (grown_setB (grown_setB (grown_setB (grown_setB (grown_setB (grown_setB (grown_setB (grown_setB (grown_setB (grown_setB (grown_setB HSF.out.gr (i := 0) (u := .int .i64 (k : Int)) (Nat.le_succ _)) (i := 1) (u := .int .i64 (vvN l s1 0 6)) (Nat.le_succ _)) (i := 2) (u := .int .i64 (vvN l s1 1 6)) (Nat.le_succ _)) (i := 3) (u := .int .i64 (vvN l s1 2 6)) (Nat.le_succ _)) (i := 4) (u := .int .i64 (vvN l s1 3 6)) (Nat.le_succ _)) (i := 5) (u := .int .i64 (vvN l s1 4 6)) (Nat.le_succ _)) (i := 6) (u := .int .i64 (vvN l s1 5 6)) (Nat.le_succ _)) (i := 7) (u := .string (ttN l s8 0 3)) (Nat.le_succ _)) (i := 8) (u := .string (ttN l s8 1 3)) (Nat.le_succ _)) (i := 9) (u := .slice Ap NP cp) (Nat.le_succ _)) (i := 10) (u := .slice Ai NI ci) (Nat.le_succ _)) (i := 11) (u := .int .i64 (cd : Int)) (Nat.le_succ _)) (i := 12) (u := .bool yb) (Nat.le_succ _)) (i := 13) (u := .string (ttN l s8 2 3)) (Nat.le_succ _)), own_baseN (own_setB (own_setB (own_setB (own_setB (own_setB (own_setB (own_setB (own_setB (own_setB (own_setB (own_setB (own_setB (own_setB (own_setB HOP.out (i := 0) (u := .int .i64 (k : Int)) (g := w.heap.size + 1) (by omega)) (i := 1) (u := .int .i64 (vvN l s1 0 6)) (g := w.heap.size + 1) (by omega)) (i := 2) (u := .int .i64 (vvN l s1 1 6)) (g := w.heap.size + 1) (by omega)) (i := 3) (u := .int .i64 (vvN l s1 2 6)) (g := w.heap.size + 1) (by omega)) (i := 4) (u := .int .i64 (vvN l s1 3 6)) (g := w.heap.size + 1) (by omega)) (i := 5) (u := .int .i64 (vvN l s1 4 6)) (g := w.heap.size + 1) (by omega)) (i := 6) (u := .int .i64 (vvN l s1 5 6)) (g := w.heap.size + 1) (by omega)) (i := 7) (u := .string (ttN l s8 0 3)) (g := w.heap.size + 1) (by omega)) (i := 8) (u := .string (ttN l s8 1 3)) (g := w.heap.size + 1) (by omega)) (i := 9) (u := .slice Ap NP cp) (g := w.heap.size + 1) (by omega)) (i := 10) (u := .slice Ai NI ci) (g := w.heap.size + 1) (by omega)) (i := 11) (u := .int .i64 (cd : Int)) (g := w.heap.size + 1) (by omega)) (i := 12) (u := .bool yb) (g := w.heap.size + 1) (by omega)) (i := 13) (u := .string (ttN l s8 2 3)) (g := w.heap.size + 1) (by omega)) (by omega), own_baseN (own_setB (own_setB (own_setB (own_setB (own_setB (own_setB (own_setB (own_setB (own_setB (own_setB (own_setB (own_setB (own_setB (own_setB HOI.out (i := 0) (u := .int .i64 (k : Int)) (g := w.heap.size + 1) (by omega)) (i := 1) (u := .int .i64 (vvN l s1 0 6)) (g := w.heap.size + 1) (by omega)) (i := 2) (u := .int .i64 (vvN l s1 1 6)) (g := w.heap.size + 1) (by omega)) (i := 3) (u := .int .i64 (vvN l s1 2 6)) (g := w.heap.size + 1) (by omega)) (i := 4) (u := .int .i64 (vvN l s1 3 6)) (g := w.heap.size + 1) (by omega)) (i := 5) (u := .int .i64 (vvN l s1 4 6)) (g := w.heap.size + 1) (by omega)) (i := 6) (u := .int .i64 (vvN l s1 5 6)) (g := w.heap.size + 1) (by omega)) (i := 7) (u := .string (ttN l s8 0 3)) (g := w.heap.size + 1) (by omega)) (i := 8) (u := .string (ttN l s8 1 3)) (g := w.heap.size + 1) (by omega)) (i := 9) (u := .slice Ap NP cp) (g := w.heap.size + 1) (by omega)) (i := 10) (u := .slice Ai NI ci) (g := w.heap.size + 1) (by omega)) (i := 11) (u := .int .i64 (cd : Int)) (g := w.heap.size + 1) (by omega)) (i := 12) (u := .bool yb) (g := w.heap.size + 1) (by omega)) (i := 13) (u := .string (ttN l s8 2 3)) (g := w.heap.size + 1) (by omega)) (by omega)⟩
          obtain ⟨WZ, hWZ⟩ : ∃ WZ, ((((((((((((((wz.setCell ⟨w.heap.size + 1, 0, none⟩ (.int .i64 (k : Int))).setCell ⟨w.heap.size + 1, 1, none⟩ (.int .i64 (vvN l s1 0 6))).setCell ⟨w.heap.size + 1, 2, none⟩ (.int .i64 (vvN l s1 1 6))).setCell ⟨w.heap.size + 1, 3, none⟩ (.int .i64 (vvN l s1 2 6))).setCell ⟨w.heap.size + 1, 4, none⟩ (.int .i64 (vvN l s1 3 6))).setCell ⟨w.heap.size + 1, 5, none⟩ (.int .i64 (vvN l s1 4 6))).setCell ⟨w.heap.size + 1, 6, none⟩ (.int .i64 (vvN l s1 5 6))).setCell ⟨w.heap.size + 1, 7, none⟩ (.string (ttN l s8 0 3))).setCell ⟨w.heap.size + 1, 8, none⟩ (.string (ttN l s8 1 3))).setCell ⟨w.heap.size + 1, 9, none⟩ (.slice Ap NP cp)).setCell ⟨w.heap.size + 1, 10, none⟩ (.slice Ai NI ci)).setCell ⟨w.heap.size + 1, 11, none⟩ (.int .i64 (cd : Int))).setCell ⟨w.heap.size + 1, 12, none⟩ (.bool yb)).setCell ⟨w.heap.size + 1, 13, none⟩ (.string (ttN l s8 2 3))) = WZ := ⟨_, rfl⟩
          rw [hWZ] at hS HRES
          have p0 : WZ.cell? ⟨w.heap.size + 1, 0, none⟩ = some (.int .i64 (k : Int)) := hS.cell 0
          have p1 : WZ.cell? ⟨w.heap.size + 1, 1, none⟩ = some (.int .i64 (vvN l s1 0 6)) := hS.cell 1
          have p2 : WZ.cell? ⟨w.heap.size + 1, 2, none⟩ = some (.int .i64 (vvN l s1 1 6)) := hS.cell 2
          have p3 : WZ.cell? ⟨w.heap.size + 1, 3, none⟩ = some (.int .i64 (vvN l s1 2 6)) := hS.cell 3
          have p4 : WZ.cell? ⟨w.heap.size + 1, 4, none⟩ = some (.int .i64 (vvN l s1 3 6)) := hS.cell 4
          have p5 : WZ.cell? ⟨w.heap.size + 1, 5, none⟩ = some (.int .i64 (vvN l s1 4 6)) := hS.cell 5
          have p6 : WZ.cell? ⟨w.heap.size + 1, 6, none⟩ = some (.int .i64 (vvN l s1 5 6)) := hS.cell 6
          have p7 : WZ.cell? ⟨w.heap.size + 1, 7, none⟩ = some (.string (ttN l s8 0 3)) := hS.cell 7
          have p8 : WZ.cell? ⟨w.heap.size + 1, 8, none⟩ = some (.string (ttN l s8 1 3)) := hS.cell 8
          have p9 : WZ.cell? ⟨w.heap.size + 1, 9, none⟩ = some (.slice Ap NP cp) := hS.cell 9
          have p10 : WZ.cell? ⟨w.heap.size + 1, 10, none⟩ = some (.slice Ai NI ci) := hS.cell 10
          have p11 : WZ.cell? ⟨w.heap.size + 1, 11, none⟩ = some (.int .i64 (cd : Int)) := hS.cell 11
          have p12 : WZ.cell? ⟨w.heap.size + 1, 12, none⟩ = some (.bool yb) := hS.cell 12
          have p13 : WZ.cell? ⟨w.heap.size + 1, 13, none⟩ = some (.string (ttN l s8 2 3)) := hS.cell 13
          have HNI2 := HNI.out
          clear hS hZ HSi HSF HOP HOI hb0 hb1 hb2 hb3 hb4 hb5 hb6 hb7 hb8 hb9 hb10 hb11 hb12
          go_wp2
          refine bodyPost_ret (v := .agg #[.int .i64 (k : Int), .int .i64 (vvN l s1 0 6), .int .i64 (vvN l s1 1 6), .int .i64 (vvN l s1 2 6), .int .i64 (vvN l s1 3 6), .int .i64 (vvN l s1 4 6), .int .i64 (vvN l s1 5 6), .string (ttN l s8 0 3), .string (ttN l s8 1 3), .slice Ap NP cp, .slice Ai NI ci, .int .i64 (cd : Int), .bool yb, .string (ttN l s8 2 3)]) ?_ rfl ?_
          · simp [results, Try.results89, go_sem, p0, p1, p2, p3, p4, p5, p6, p7, p8, p9, p10, p11, p12, p13]
          · rw [← HR4.out]
            exact ⟨Ap, NP, cp, Ai, NI, ci, rfl, HRES.out.2.2.1, HRES.out.2.2.2, HRES.out.1, HRES.out.2.1⟩
end Go.Proofs.Ytaljojjpgkmiiaa

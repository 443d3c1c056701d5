/- letter's reader: fail, number, yes, text. Condition: the bytes are in memory below the reader. -/
import Derived.Test.YtaljojjpgkmiiaaMLet
import Derived.Test.YtaljojjpgkmiiaaMWalk
import Derived.Test.YtaljojjpgkmiiaaMMem
import Derived.Deep.RegionHeld3
namespace Go.Proofs.Ytaljojjpgkmiiaa
open Go.RowKit
open Go.Lib (strCells)

/-- a number of at most so many, read; behind a fault nothing is read -/
def rdN (l : List UInt8) (most : Nat) (s : Nat × Nat) : Nat × (Nat × Nat) :=
  if s.2 ≠ 0 then (0, s) else
    if (getNum l (s.1 : Int)).2.2 ≠ 0 then (0, (s.1, (getNum l (s.1 : Int)).2.2)) else if most < (getNum l (s.1 : Int)).1 then (0, (s.1, 3)) else ((getNum l (s.1 : Int)).1, ((getNum l (s.1 : Int)).2.1, 0))
def rdT (l : List UInt8) (s : Nat × Nat) : List UInt8 × (Nat × Nat) :=
  if s.2 ≠ 0 then ([], s) else
    if (getText l (s.1 : Int) 9223372036854775807).2.2 ≠ 0 then ([], (s.1, (getText l (s.1 : Int) 9223372036854775807).2.2)) else ((getText l (s.1 : Int) 9223372036854775807).1, ((getText l (s.1 : Int) 9223372036854775807).2.1, 0))
/-- a reader in memory: of the bytes l, at a place, with a fault -/
structure RdAt (w : World) (r : Nat) (A : Option Addr) (n c : Nat) (l : List UInt8) (s : Nat × Nat) : Prop where
  box : Box w r 140 #[.slice A n c, .int .i64 (s.1 : Int), .int .i64 (s.2 : Int)]
  bytes : HasBytes w r A n l
  cap : n ≤ c
  most : n ≤ 100000
section
variable {w w' : World} {r n c : Nat} {A : Option Addr} {l : List UInt8} {s : Nat × Nat}
theorem RdAt.below (h : RdAt w r A n c l s) (hb : Below w.heap.size w w') : RdAt w' r A n c l s := ⟨h.box.below hb h.box.lt, Has.belowOf h.bytes hb (Nat.le_of_lt h.box.lt), h.cap, h.most⟩
theorem RdAt.cells (h : RdAt w r A n c l s) : (w.cell? ⟨r, 0, none⟩ = some (.slice A n c) ∧ w.cell? ⟨r, 1, none⟩ = some (.int .i64 (s.1 : Int)) ∧ w.cell? ⟨r, 2, none⟩ = some (.int .i64 (s.2 : Int))) ∧ (w.frozen? ⟨r, 1, none⟩ = false ∧ w.frozen? ⟨r, 2, none⟩ = false) :=
  ⟨⟨h.box.cell 0, h.box.cell 1, h.box.cell 2⟩, h.box.frozen 1, h.box.frozen 2⟩
theorem grown_set (w : World) (r i : Nat) (u : Value) : w.grownBy (w.setCell ⟨r, i, none⟩ u) (some r) :=
  ⟨rfl, rfl, rfl, by simp, fun k _ hk => Below.heap_setCell w ⟨r, i, none⟩ u k (fun e => hk (by rw [e]))⟩
theorem RdAt.setE (h : RdAt w r A n c l s) (e : Nat) : RdAt (w.setCell ⟨r, 2, none⟩ (.int .i64 (e : Int))) r A n c l (s.1, e) :=
  ⟨by have h8 := h.box.set_ 2 (.int .i64 (e : Int)); simpa using h8, Has.setCell h.bytes (Nat.le_refl _) _, h.cap, h.most⟩
theorem RdAt.setP (h : RdAt w r A n c l s) (p : Nat) : RdAt (w.setCell ⟨r, 1, none⟩ (.int .i64 (p : Int))) r A n c l (p, s.2) :=
  ⟨by have h8 := h.box.set_ 1 (.int .i64 (p : Int)); simpa using h8, Has.setCell h.bytes (Nat.le_refl _) _, h.cap, h.most⟩
end
/-- what a call of the reader's leaves -/
def RdPost (w : World) (r : Nat) (A : Option Addr) (n c : Nat) (l : List UInt8) (v : Value) (s' : Nat × Nat) (e : Ending) (w' : World) : Prop :=
  e = .returned v ∧ RdAt w' r A n c l s' ∧ w.grownBy w' (some r)
set_option maxRecDepth 100000 in
theorem fail_any (r : Nat) (A : Option Addr) (n c : Nat) (l : List UInt8) (s : Nat × Nat) (z : Nat) (w : World) (h : RdAt w r A n c l s) :
    Calls Try.prog 90 #[.pointer (some ⟨r, 0, none⟩), .int .i64 (z : Int)] w (RdPost w r A n c l (.tuple #[]) (s.1, if s.2 = 0 then z else s.2)) := by
  obtain ⟨p, e⟩ := s
  obtain ⟨⟨c0, c1, c2⟩, f1, f2⟩ := h.cells
  have H := Lib.hid h
  simp only at c1 c2
  clear h
  by_cases he : e = 0
  · subst he
    rw [if_pos rfl]
    go_enter Try.func90, Try.ntmps90
    go_wp2
    go_end0
    exact ⟨rfl, H.out.setE z, grown_set _ _ _ _⟩
  · have he' : ((e : Int) == 0) = false := by simpa using he
    rw [if_neg he]
    clear he
    go_enter Try.func90, Try.ntmps90
    go_wp2
    go_end0
    exact ⟨rfl, H.out, grown_bel (Below.refl _ _) _⟩
theorem rd_zero {w : World} {r : Nat} {A : Option Addr} {n c : Nat} {l : List UInt8} {v : Value} {s s' : Nat × Nat} {e : Ending} {w1 w' : World} (h : RdPost w1 r A n c l v s' e w') (hg : w.grownBy w1 (some r)) (hs : s' = s) : RdPost w r A n c l v s e w' := by
  subst hs
  exact ⟨h.1, h.2.1, World.grownBy.trans hg h.2.2⟩
set_option maxRecDepth 100000 in
set_option maxHeartbeats 800000 in
theorem rdNum_any (r : Nat) (A : Option Addr) (n c : Nat) (l : List UInt8) (s : Nat × Nat) (most : Nat) (w : World) (h : RdAt w r A n c l s) :
    Calls Try.prog 115 #[.pointer (some ⟨r, 0, none⟩), .int .i64 (most : Int)] w (RdPost w r A n c l (.int .i64 (((rdN l most s).1 : Nat) : Int)) (rdN l most s).2) := by
  obtain ⟨p, e⟩ := s
  obtain ⟨⟨c0, c1, c2⟩, f1, f2⟩ := h.cells
  simp only at c1 c2
  obtain ⟨R, hR⟩ : ∃ R, rdN l most (p, e) = R := ⟨_, rfl⟩
  rw [hR]
  have HRR := Lib.hid hR
  clear hR
  by_cases he : e = 0
  · subst he
    have HR := Lib.hid h
    have hgw : r < w.heap.size := h.box.lt
    obtain ⟨⟨x, q, z⟩, hg⟩ : ∃ g, getNum l (p : Int) = g := ⟨_, rfl⟩
    have Hg := Lib.hid hg
    have HC := Lib.hid (fun wx (hx : Below w.heap.size w wx) => getNum_any A n c r (p : Int) l wx (HR.out.below hx).bytes (by have := HR.out.most; unfold maxLen; omega) HR.out.cap)
    rw [hg] at HC
    have HK : Hid (∀ wx, Below w.heap.size w wx → (wx.cell? ⟨r, 0, none⟩ = some (.slice A n c) ∧ wx.cell? ⟨r, 1, none⟩ = some (.int .i64 (p : Int))) ∧ Below w.heap.size w wx) := Lib.hid fun wx hx => ⟨⟨(HR.out.below hx).cells.1.1, (HR.out.below hx).cells.1.2.1⟩, hx⟩
    have HC1 := Lib.hid (HC.out _ (Below.refl w.heap.size w).drew)
    have hz0 : z < 100 ∨ 100 ≤ z := by omega
    clear h hg HC
    go_enter Try.func115, Try.ntmps115
    go_wp2
    go_region_held3 (fun wx => (wx.cell? ⟨r, 0, none⟩ = some (.slice A n c) ∧ wx.cell? ⟨r, 1, none⟩ = some (.int .i64 (p : Int))) ∧ Below w.heap.size w wx)
      (first | exact HK.out _ (Below.refl _ _).drew | exact HK.out _ b2)
      (first | (go_at_call 67; refine HC1.out.mono ?_; rintro e w2 ⟨rfl, b2'⟩; have b2 : Below w.heap.size w w2 := b2' ▸ (Below.refl w.heap.size w).drew))
    have HR2 := Lib.hid (HR.out.below b2)
    have HG2 := Lib.hid (grown_bel b2 (some r))
    obtain ⟨⟨c0, c1, c2⟩, f1, f2⟩ := HR2.out.cells
    simp only at c1 c2
    clear ‹_ ∧ Below w.heap.size w w2› b2 b2' HC1 hz0
    by_cases hz : z = 0
    · subst hz
      by_cases hm : most < x
      · have hm' : (most : Int) < (x : Int) := by omega
        have HE : Hid (rdN l most (p, 0) = (0, (p, 3))) := Lib.hid (by unfold rdN; simp only [Hg.out]; rw [if_neg (by simp), if_neg (by simp), if_pos hm])
        have HF : Hid (Calls Try.prog 90 #[.pointer (some ⟨r, 0, none⟩), .int .i64 3] w2 (RdPost w2 r A n c l (.tuple #[]) (p, 3))) := Lib.hid (fail_any r A n c l (p, 0) 3 w2 HR2.out)
        obtain rfl : _ = R := HE.out.symm.trans HRR.out
        clear hm
        go_wp2_with fail
        refine HF.out.mono ?_
        rintro e w3 hz3
        obtain ⟨rfl, h3, g3⟩ := hz3
        have HE3 := Lib.hid (And.intro h3 (World.grownBy.trans HG2.out g3))
        clear h3 g3
        go_wp2
        go_ret
        exact ⟨rfl, HE3.out.1, HE3.out.2⟩
      have hm' : ¬ (most : Int) < (x : Int) := by omega
      have HE : Hid (rdN l most (p, 0) = (x, (q, 0))) := Lib.hid (by unfold rdN; simp only [Hg.out]; rw [if_neg (by simp), if_neg (by simp), if_neg hm])
      have HE2 := Lib.hid (And.intro (HR2.out.setP q) (World.grownBy.trans HG2.out (grown_set w2 r 1 (.int .i64 (q : Int)))))
      obtain rfl : _ = R := HE.out.symm.trans HRR.out
      go_wp2
      go_ret
      exact ⟨rfl, HE2.out.1, HE2.out.2⟩
    · have hz1 : ((z : Int) == 0) = false := by simpa using hz
      have hz2 : ((z : Int) != 0) = true := by simpa using hz
      have HE : Hid (rdN l most (p, 0) = (0, (p, z))) := Lib.hid (by unfold rdN; simp only [Hg.out]; rw [if_neg (by simp), if_pos hz])
      have HF : Hid (Calls Try.prog 90 #[.pointer (some ⟨r, 0, none⟩), .int .i64 (z : Int)] w2 (RdPost w2 r A n c l (.tuple #[]) (p, z))) := Lib.hid (fail_any r A n c l (p, 0) z w2 HR2.out)
      obtain rfl : _ = R := HE.out.symm.trans HRR.out
      clear hz
      go_wp2_with fail
      refine HF.out.mono ?_
      rintro e w3 hz3
      obtain ⟨rfl, h3, g3⟩ := hz3
      have HE3 := Lib.hid (And.intro h3 (World.grownBy.trans HG2.out g3))
      clear h3 g3
      go_wp2
      go_ret
      exact ⟨rfl, HE3.out.1, HE3.out.2⟩
  · have he' : ((e : Int) == 0) = false := by simpa using he
    have he'' : ((e : Int) != 0) = true := by simpa using he
    have HE : Hid (rdN l most (p, e) = (0, (p, e))) := Lib.hid (if_pos he)
    have HR := Lib.hid h
    obtain rfl : _ = R := HE.out.symm.trans HRR.out
    clear he h
    go_enter Try.func115, Try.ntmps115
    go_wp2
    go_ret
    exact ⟨rfl, HR.out, grown_bel (Below.refl _ _) _⟩
set_option maxRecDepth 100000 in
set_option maxHeartbeats 800000 in
theorem rdText_any (r : Nat) (A : Option Addr) (n c : Nat) (l : List UInt8) (s : Nat × Nat) (w : World) (h : RdAt w r A n c l s) :
    Calls Try.prog 117 #[.pointer (some ⟨r, 0, none⟩)] w (RdPost w r A n c l (.string ⟨((rdT l s).1).toArray⟩) (rdT l s).2) := by
  obtain ⟨p, e⟩ := s
  obtain ⟨⟨c0, c1, c2⟩, f1, f2⟩ := h.cells
  simp only at c1 c2
  obtain ⟨R, hR⟩ : ∃ R, rdT l (p, e) = R := ⟨_, rfl⟩
  rw [hR]
  have HRR := Lib.hid hR
  clear hR
  by_cases he : e = 0
  · subst he
    have HR := Lib.hid h
    have hgw : r < w.heap.size := h.box.lt
    obtain ⟨⟨x, q, z⟩, hg⟩ : ∃ g, getText l (p : Int) 9223372036854775807 = g := ⟨_, rfl⟩
    have Hg := Lib.hid hg
    have HC := Lib.hid (fun wx (hx : Below w.heap.size w wx) => getText_any A n c r (p : Int) 9223372036854775807 l wx (HR.out.below hx).bytes (by have := HR.out.most; omega) HR.out.cap)
    rw [hg] at HC
    have HK : Hid (∀ wx, Below w.heap.size w wx → (wx.cell? ⟨r, 0, none⟩ = some (.slice A n c) ∧ wx.cell? ⟨r, 1, none⟩ = some (.int .i64 (p : Int))) ∧ Below w.heap.size w wx) := Lib.hid fun wx hx => ⟨⟨(HR.out.below hx).cells.1.1, (HR.out.below hx).cells.1.2.1⟩, hx⟩
    have HC1 := Lib.hid (HC.out _ (Below.refl w.heap.size w).drew)
    have hz0 : z < 100 ∨ 100 ≤ z := by omega
    clear h hg HC
    go_enter Try.func117, Try.ntmps117
    go_wp2
    go_region_held3 (fun wx => (wx.cell? ⟨r, 0, none⟩ = some (.slice A n c) ∧ wx.cell? ⟨r, 1, none⟩ = some (.int .i64 (p : Int))) ∧ Below w.heap.size w wx)
      (first | exact HK.out _ (Below.refl _ _).drew | exact HK.out _ b2)
      (first | (go_at_call 104; refine HC1.out.mono ?_; rintro e w2 ⟨rfl, b2'⟩; have b2 : Below w.heap.size w w2 := b2' ▸ (Below.refl w.heap.size w).drew))
    have HR2 := Lib.hid (HR.out.below b2)
    have HG2 := Lib.hid (grown_bel b2 (some r))
    obtain ⟨⟨c0, c1, c2⟩, f1, f2⟩ := HR2.out.cells
    simp only at c1 c2
    clear ‹_ ∧ Below w.heap.size w w2› b2 b2' HC1 hz0
    by_cases hz : z = 0
    · subst hz
      have HE : Hid (rdT l (p, 0) = (x, (q, 0))) := Lib.hid (by unfold rdT; simp only [Hg.out]; rw [if_neg (by simp), if_neg (by simp)])
      have HE2 := Lib.hid (And.intro (HR2.out.setP q) (World.grownBy.trans HG2.out (grown_set w2 r 1 (.int .i64 (q : Int)))))
      obtain rfl : _ = R := HE.out.symm.trans HRR.out
      go_wp2
      go_ret
      exact ⟨rfl, HE2.out.1, HE2.out.2⟩
    · have hz1 : ((z : Int) == 0) = false := by simpa using hz
      have hz2 : ((z : Int) != 0) = true := by simpa using hz
      have HE : Hid (rdT l (p, 0) = ([], (p, z))) := Lib.hid (by unfold rdT; simp only [Hg.out]; rw [if_neg (by simp), if_pos hz])
      have HF : Hid (Calls Try.prog 90 #[.pointer (some ⟨r, 0, none⟩), .int .i64 (z : Int)] w2 (RdPost w2 r A n c l (.tuple #[]) (p, z))) := Lib.hid (fail_any r A n c l (p, 0) z w2 HR2.out)
      obtain rfl : _ = R := HE.out.symm.trans HRR.out
      clear hz
      go_wp2_with fail
      refine HF.out.mono ?_
      rintro e w3 hz3
      obtain ⟨rfl, h3, g3⟩ := hz3
      have HE3 := Lib.hid (And.intro h3 (World.grownBy.trans HG2.out g3))
      clear h3 g3
      go_wp2
      go_ret
      exact ⟨rfl, HE3.out.1, HE3.out.2⟩
  · have he' : ((e : Int) == 0) = false := by simpa using he
    have he'' : ((e : Int) != 0) = true := by simpa using he
    have HE : Hid (rdT l (p, e) = ([], (p, e))) := Lib.hid (if_pos he)
    have HR := Lib.hid h
    obtain rfl : _ = R := HE.out.symm.trans HRR.out
    clear he h
    go_enter Try.func117, Try.ntmps117
    go_wp2
    go_ret
    exact ⟨rfl, HR.out, grown_bel (Below.refl _ _) _⟩
set_option maxRecDepth 100000 in
theorem yes_any (r : Nat) (A : Option Addr) (n c : Nat) (l : List UInt8) (s : Nat × Nat) (w : World) (h : RdAt w r A n c l s) :
    Calls Try.prog 116 #[.pointer (some ⟨r, 0, none⟩)] w (RdPost w r A n c l (.bool (decide ((rdN l 1 s).1 = 1))) (rdN l 1 s).2) := by
  have H := Lib.hid (rdNum_any r A n c l s 1 w h)
  obtain ⟨⟨x, s'⟩, hx⟩ : ∃ x, rdN l 1 s = x := ⟨_, rfl⟩
  rw [hx] at H ⊢
  clear h hx
  go_enter Try.func116, Try.ntmps116
  go_wp2_with fail
  refine H.out.mono ?_
  rintro e w1 ⟨rfl, h1, g1⟩
  have HE := Lib.hid (And.intro h1 g1)
  clear h1 g1
  by_cases hx1 : x = 1
  · subst hx1
    go_wp2
    go_ret
    exact ⟨rfl, HE.out.1, HE.out.2⟩
  · have hx2 : ((x : Int) == 1) = false := beq_false_of_ne (by omega)
    have Hd := Lib.hid (decide_eq_false hx1)
    clear hx1
    go_wp2
    go_ret
    exact ⟨by rw [Hd.out]; rfl, HE.out.1, HE.out.2⟩
end Go.Proofs.Ytaljojjpgkmiiaa

/- Copies of pairs, of intents and of letters are the same, in memory of their own. Condition: rows in memory, texts that fit. -/
import Derived.Test.YtabcoidjbigdbaaLetA
import Derived.Test.YtabcoidjbigdbaaClone
import Derived.Deep.RegionHeld3
import Derived.Deep.RegionWith
namespace Go.Proofs.Ytabcoidjbigdbaa
open Go.RowKit
open Go.Lib (strCells)

/-- what stands in a cell, whatever it is -/
def atC (w : World) (g i : Nat) : Value := (w.cell? ⟨g, i, none⟩).getD undef
theorem Box.atC {w : World} {g : Nat} {t : TypeId} {cs : Array Value} (h : Box w g t cs) {i : Nat} (hi : i < cs.size) : w.cell? ⟨g, i, none⟩ = some (atC w g i) := by
  unfold Go.Proofs.Ytabcoidjbigdbaa.atC
  rw [h.cell i, Array.getElem?_eq_getElem hi]
  rfl
theorem set_cells {W : World} {g i : Nat} {t : TypeId} {cs : Array Value} {u : Value} (h : Box (W.setCell ⟨g, i, none⟩ u) g t cs) : ∃ cs0, Box W g t cs0 ∧ cs = cs0.setIfInBounds i u := by
  unfold Box at h ⊢
  cases e : W.heap[g]? with
  | none => simp [World.setCell, Array.getElem?_modify, e] at h
  | some o =>
    cases o with
    | cells cs0 t0 m0 =>
      simp [World.setCell, Array.getElem?_modify, e] at h
      obtain ⟨h1, h2, h3⟩ := h
      subst h2
      subst h3
      exact ⟨cs0, rfl, h1.symm⟩
    | _ => simp [World.setCell, Array.getElem?_modify, e] at h
/-- two stores into a box of two cells: what stands there then -/
theorem set2_vals {W : World} {g : Nat} {t : TypeId} {cs : Array Value} {x y : Value} (h : Box ((W.setCell ⟨g, 0, none⟩ x).setCell ⟨g, 1, none⟩ y) g t cs) (hs : cs.size = 2) : cs = #[x, y] := by
  obtain ⟨c1, h1, e1⟩ := set_cells h
  obtain ⟨c0, h0, e0⟩ := set_cells h1
  subst e1
  subst e0
  simp at hs
  obtain ⟨l⟩ := c0
  match l, hs with
  | [a, b], _ => rfl
/-- a letter stored in a box: fourteen stores -/
theorem store14 {w W : World} {g : Nat} {t : TypeId} {y0 y1 y2 y3 y4 y5 y6 y7 y8 y9 y10 y11 y12 y13 x0 x1 x2 x3 x4 x5 x6 x7 x8 x9 x10 x11 x12 x13 : Value} (h : Box w g t #[y0, y1, y2, y3, y4, y5, y6, y7, y8, y9, y10, y11, y12, y13]) (hW : ((((((((((((((w.setCell ⟨g, 0, none⟩ (x0)).setCell ⟨g, 1, none⟩ (x1)).setCell ⟨g, 2, none⟩ (x2)).setCell ⟨g, 3, none⟩ (x3)).setCell ⟨g, 4, none⟩ (x4)).setCell ⟨g, 5, none⟩ (x5)).setCell ⟨g, 6, none⟩ (x6)).setCell ⟨g, 7, none⟩ (x7)).setCell ⟨g, 8, none⟩ (x8)).setCell ⟨g, 9, none⟩ (x9)).setCell ⟨g, 10, none⟩ (x10)).setCell ⟨g, 11, none⟩ (x11)).setCell ⟨g, 12, none⟩ (x12)).setCell ⟨g, 13, none⟩ (x13)) = W) :
    Box W g t #[x0, x1, x2, x3, x4, x5, x6, x7, x8, x9, x10, x11, x12, x13] ∧ w.grownBy W (some g) ∧ W.heap.size = w.heap.size := by
  subst hW
  have b0 : Box _ g t #[x0, y1, y2, y3, y4, y5, y6, y7, y8, y9, y10, y11, y12, y13] := h.set_ 0 x0
  have b1 : Box _ g t #[x0, x1, y2, y3, y4, y5, y6, y7, y8, y9, y10, y11, y12, y13] := b0.set_ 1 x1
  have b2 : Box _ g t #[x0, x1, x2, y3, y4, y5, y6, y7, y8, y9, y10, y11, y12, y13] := b1.set_ 2 x2
  have b3 : Box _ g t #[x0, x1, x2, x3, y4, y5, y6, y7, y8, y9, y10, y11, y12, y13] := b2.set_ 3 x3
  have b4 : Box _ g t #[x0, x1, x2, x3, x4, y5, y6, y7, y8, y9, y10, y11, y12, y13] := b3.set_ 4 x4
  have b5 : Box _ g t #[x0, x1, x2, x3, x4, x5, y6, y7, y8, y9, y10, y11, y12, y13] := b4.set_ 5 x5
  have b6 : Box _ g t #[x0, x1, x2, x3, x4, x5, x6, y7, y8, y9, y10, y11, y12, y13] := b5.set_ 6 x6
  have b7 : Box _ g t #[x0, x1, x2, x3, x4, x5, x6, x7, y8, y9, y10, y11, y12, y13] := b6.set_ 7 x7
  have b8 : Box _ g t #[x0, x1, x2, x3, x4, x5, x6, x7, x8, y9, y10, y11, y12, y13] := b7.set_ 8 x8
  have b9 : Box _ g t #[x0, x1, x2, x3, x4, x5, x6, x7, x8, x9, y10, y11, y12, y13] := b8.set_ 9 x9
  have b10 : Box _ g t #[x0, x1, x2, x3, x4, x5, x6, x7, x8, x9, x10, y11, y12, y13] := b9.set_ 10 x10
  have b11 : Box _ g t #[x0, x1, x2, x3, x4, x5, x6, x7, x8, x9, x10, x11, y12, y13] := b10.set_ 11 x11
  have b12 : Box _ g t #[x0, x1, x2, x3, x4, x5, x6, x7, x8, x9, x10, x11, x12, y13] := b11.set_ 12 x12
  have b13 : Box _ g t #[x0, x1, x2, x3, x4, x5, x6, x7, x8, x9, x10, x11, x12, x13] := b12.set_ 13 x13
  have gr : ∀ (w : World) (i : Nat) (u : Value), w.grownBy (w.setCell ⟨g, i, none⟩ u) (some g) := fun w i u =>
    ⟨rfl, rfl, rfl, by simp, fun k _ hne => Below.heap_setCell w ⟨g, i, none⟩ u k (fun e => hne (by rw [e]))⟩
  refine ⟨b13, ?_, by simp⟩
  have tr : ∀ {a b c : World}, a.grownBy b (some g) → b.grownBy c (some g) → a.grownBy c (some g) := fun h1 h2 =>
    ⟨h2.os.trans h1.os, h2.tape.trans h1.tape, h2.output.trans h1.output, Nat.le_trans h1.size h2.size, fun k hk hne => (h2.block k (Nat.lt_of_lt_of_le hk h1.size) hne).trans (h1.block k hk hne)⟩
  exact tr (tr (tr (tr (tr (tr (tr (tr (tr (tr (tr (tr (tr (gr _ 0 x0) (gr _ 1 x1)) (gr _ 2 x2)) (gr _ 3 x3)) (gr _ 4 x4)) (gr _ 5 x5)) (gr _ 6 x6)) (gr _ 7 x7)) (gr _ 8 x8)) (gr _ 9 x9)) (gr _ 10 x10)) (gr _ 11 x11)) (gr _ 12 x12)) (gr _ 13 x13)

/-- what is known while a pair is made anew -/
structure CpS (w : World) (k v : ByteArray) (wx : World) : Prop where
  box : Box wx w.heap.size 38 #[.string k, .string v]
  res : ∃ cs, cs.size = 2 ∧ Box wx (w.heap.size + 1) 38 cs
  below : Below w.heap.size w wx
def CpC (w : World) (k v : ByteArray) (wx : World) : Prop :=
  ((wx.cell? ⟨w.heap.size, 0, none⟩ = some (.string k) ∧ wx.cell? ⟨w.heap.size, 1, none⟩ = some (.string v)) ∧
    (wx.frozen? ⟨w.heap.size + 1, 0, none⟩ = false ∧ wx.frozen? ⟨w.heap.size + 1, 1, none⟩ = false) ∧
    (wx.cell? ⟨w.heap.size + 1, 0, none⟩ = some (atC wx (w.heap.size + 1) 0) ∧ wx.cell? ⟨w.heap.size + 1, 1, none⟩ = some (atC wx (w.heap.size + 1) 1))) ∧ CpS w k v wx
section
variable {w wx w' : World} {k v : ByteArray}
theorem CpS.start (w : World) (k v : ByteArray) : CpS w k v ((w.alloc (.cells #[.string k, .string v] 38)).alloc (.cells #[.string ⟨#[]⟩, .string ⟨#[]⟩] 38)).drew :=
  ⟨(Box.made _ _ _).alloc _, ⟨#[.string ⟨#[]⟩, .string ⟨#[]⟩], rfl, by have := Box.made (w.alloc (.cells #[.string k, .string v] 38)) 38 #[.string ⟨#[]⟩, .string ⟨#[]⟩]; rwa [World.size_alloc] at this⟩, ((below_box _).alloc (by simp) _).drew⟩
theorem CpS.call (h : CpS w k v wx) (hb : Below wx.heap.size wx w') : CpS w k v w' := by
  obtain ⟨cs, h1, h2⟩ := h.res
  exact ⟨h.box.below hb h.box.lt, ⟨cs, h1, h2.below hb h2.lt⟩, h.below.trans (hb.mono h.below.size)⟩
theorem CpS.set (h : CpS w k v wx) (i : Nat) (u : Value) : CpS w k v (wx.setCell ⟨w.heap.size + 1, i, none⟩ u) := by
  obtain ⟨cs, h1, h2⟩ := h.res
  exact ⟨h.box.far (by show w.heap.size ≠ w.heap.size + 1; omega) _, ⟨_, by simpa using h1, h2.set_ i u⟩, h.below.setCell (Nat.le_succ _) _⟩
theorem CpS.both (h : CpS w k v wx) : CpC w k v wx := by
  obtain ⟨cs, h1, h2⟩ := h.res
  exact ⟨⟨⟨h.box.cell 0, h.box.cell 1⟩, ⟨h2.frozen 0, h2.frozen 1⟩, ⟨h2.atC (by omega), h2.atC (by omega)⟩⟩, h⟩
end
set_option maxRecDepth 100000 in
set_option maxHeartbeats 3200000 in
theorem copyPr_any (k v : ByteArray) (w : World) (hk : k.size ≤ 140737488355328) (hv : v.size ≤ 140737488355328) :
    Calls Try.prog 59 #[.agg #[.string k, .string v]] w fun e w' => e = .returned (.agg #[.string k, .string v]) ∧ Below w.heap.size w w' := by
  have HS := Lib.hid (CpS.start w k v).both
  unfold CpC at HS
  go_enter Try.func59, Try.ntmps59
  go_wp2
  go_region_held3 (fun wx => ((wx.cell? ⟨w.heap.size, 0, none⟩ = some (.string k) ∧ wx.cell? ⟨w.heap.size, 1, none⟩ = some (.string v)) ∧
      (wx.frozen? ⟨w.heap.size + 1, 0, none⟩ = false ∧ wx.frozen? ⟨w.heap.size + 1, 1, none⟩ = false) ∧
      (wx.cell? ⟨w.heap.size + 1, 0, none⟩ = some (atC wx (w.heap.size + 1) 0) ∧ wx.cell? ⟨w.heap.size + 1, 1, none⟩ = some (atC wx (w.heap.size + 1) 1))) ∧ CpS w k v wx)
    (first | exact HS.out | exact CpS.both (CpS.call (And.right (by assumption)) hb) | exact CpS.both (CpS.set (CpS.set (And.right (by assumption)) 0 _) 1 _))
    (first | (go_at_call 57; refine (clone_any _ _ (by first | exact hk | exact hv)).mono ?_; rintro e w' ⟨rfl, hb⟩))
  all_goals
    have hS := (‹_ ∧ CpS w k v (World.setCell _ _ _)›).2
    have Hb3 := Lib.hid hS.below
    obtain ⟨cs, h1, h2⟩ := hS.res
    obtain rfl := set2_vals h2 h1
    have p0 := h2.cell 0
    have p1 := h2.cell 1
    clear hb hS h1 h2
    clear ‹_ ∧ CpS w k v (World.setCell _ _ _)›
    obtain ⟨W3, hW3⟩ : ∃ W3, (w'.setCell ⟨w.heap.size + 1, 0, none⟩ (.string k)).setCell ⟨w.heap.size + 1, 1, none⟩ (.string v) = W3 := ⟨_, rfl⟩
    rw [hW3] at p0 p1 Hb3 ⊢
    clear hW3
    simp at p0 p1
    go_wp2
    refine bodyPost_ret (v := .agg #[.string k, .string v]) ?_ rfl ⟨rfl, Hb3.out⟩
    simp [results, Try.results59, go_sem, p0, p1]
theorem copyIt_any (s : ByteArray) (n : Int) (g : Bool) (w : World) (hs : s.size ≤ 140737488355328) :
    Calls Try.prog 61 #[.agg #[.string s, .int .i64 n, .bool g]] w fun e w' => e = .returned (.agg #[.string s, .int .i64 n, .bool g]) ∧ Below w.heap.size w w' := by
  have hb0 := Box.made w 40 #[.string s, .int .i64 n, .bool g]
  obtain ⟨w0, hw0⟩ : ∃ w0, (w.alloc (.cells #[.string s, .int .i64 n, .bool g] 40)).alloc (.cells #[.string ⟨#[]⟩, .int .i64 0, .bool false] 40) = w0 := ⟨_, rfl⟩
  have h1 : Box w0 w.heap.size 40 #[.string s, .int .i64 n, .bool g] := hw0 ▸ hb0.alloc _
  have h2 : Box w0 (w.heap.size + 1) 40 #[.string ⟨#[]⟩, .int .i64 0, .bool false] := by
    have := Box.made (w.alloc (.cells #[.string s, .int .i64 n, .bool g] 40)) 40 #[.string ⟨#[]⟩, .int .i64 0, .bool false]
    rw [World.size_alloc, hw0] at this
    exact this
  have hbl : Below w.heap.size w w0 := hw0 ▸ (below_box _).alloc (by simp) _
  have Hc := Lib.hid (clone_any s w0 hs)
  have q0 : w0.cell? ⟨w.heap.size, 0, none⟩ = some (.string s) := h1.cell 0
  have H := Lib.hid (And.intro h1 (And.intro h2 hbl))
  clear hb0 h1 h2 hbl
  go_enter Try.func61, Try.ntmps61
  go_wp2_with fail
  refine Hc.out.mono ?_
  rintro e w2 ⟨rfl, b2⟩
  obtain ⟨h1, h2, hbl⟩ := H.out
  have k1 := (h1.below b2 h1.lt).set_ 0 (.string s)
  have k2 := (h2.below b2 h2.lt).far (p := ⟨w.heap.size, 0, none⟩) (by show w.heap.size + 1 ≠ w.heap.size; omega) (.string s)
  have kb := (hbl.trans (b2.mono hbl.size)).setCell (p := ⟨w.heap.size, 0, none⟩) (Nat.le_refl _) (.string s)
  have a0 : w2.cell? ⟨w.heap.size, 0, none⟩ = some (.string s) := (h1.below b2 h1.lt).cell 0
  have a1 : w2.frozen? ⟨w.heap.size, 0, none⟩ = false := (h1.below b2 h1.lt).frozen 0
  obtain ⟨w3, hw3⟩ : ∃ w3, w2.setCell ⟨w.heap.size, 0, none⟩ (.string s) = w3 := ⟨_, rfl⟩
  rw [hw3] at k1 k2 kb
  have c0 : w3.cell? ⟨w.heap.size, 0, none⟩ = some (.string s) := k1.cell 0
  have c1 : w3.cell? ⟨w.heap.size, 1, none⟩ = some (.int .i64 n) := k1.cell 1
  have c2 : w3.cell? ⟨w.heap.size, 2, none⟩ = some (.bool g) := k1.cell 2
  have d0 : w3.cell? ⟨w.heap.size + 1, 0, none⟩ = some (.string ⟨#[]⟩) := k2.cell 0
  have d1 : w3.cell? ⟨w.heap.size + 1, 1, none⟩ = some (.int .i64 0) := k2.cell 1
  have d2 : w3.cell? ⟨w.heap.size + 1, 2, none⟩ = some (.bool false) := k2.cell 2
  have f0 : w3.frozen? ⟨w.heap.size + 1, 0, none⟩ = false := k2.frozen 0
  have f1 : w3.frozen? ⟨w.heap.size + 1, 1, none⟩ = false := k2.frozen 1
  have f2 : w3.frozen? ⟨w.heap.size + 1, 2, none⟩ = false := k2.frozen 2
  obtain ⟨W3, hW3⟩ : ∃ W3, ((w3.setCell ⟨w.heap.size + 1, 0, none⟩ (.string s)).setCell ⟨w.heap.size + 1, 1, none⟩ (.int .i64 n)).setCell ⟨w.heap.size + 1, 2, none⟩ (.bool g) = W3 := ⟨_, rfl⟩
  have hp := box_store (x' := .string s) (y' := .int .i64 n) (z' := .bool g) d0 d1 d2
  have Hbw : Hid (Below w.heap.size w W3) := Lib.hid (by rw [← hW3]; exact ((kb.setCell (Nat.le_succ _) _).setCell (Nat.le_succ _) _).setCell (Nat.le_succ _) _)
  rw [hW3] at hp
  obtain ⟨p0, p1, p2⟩ := hp
  clear k1 k2 kb h1 h2 hbl b2 Hc H
  go_wp2
  refine bodyPost_ret (v := .agg #[.string s, .int .i64 n, .bool g]) ?_ rfl ⟨rfl, Hbw.out⟩
  simp [results, Try.results61, go_sem, p0, p1, p2]
end Go.Proofs.Ytabcoidjbigdbaa

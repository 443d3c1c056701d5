/- The small functions of package run: how changes stand by their keys, a change's copy, is it no run? No condition but texts in memory. -/
import Derived.Test.YteioopcacpihpaaChgE
import Derived.Test.YteioopcacpihpaaClone
namespace Go.Proofs.Yteioopcacpihpaa
open Go.RowKit
open Go.Lib (strCells compareBytes)

def cmpK (a b : Chg) : Int := compareBytes a.kb b.kb
theorem byKey_any (a b : Chg) (w : World) : Calls Try.prog 47 #[cagg a, cagg b] w fun e w' => e = .returned (.int .i64 (cmpK a b)) ∧ Below w.heap.size w w' := by
  obtain ⟨ak, av, ag⟩ := a
  obtain ⟨bk, bv, bg⟩ := b
  unfold cagg
  go_enter Try.func47, Try.ntmps47
  go_wp2_with fail
  refine (strCompare_any _ _ _).mono ?_
  rintro e w' ⟨rfl, rfl⟩
  go_wp2
  go_ret
  exact ⟨rfl, (below_box _).alloc (by simp) _⟩

theorem wrong_any (A : Option Addr) (n c B : Nat) (l : List Chg) (w : World) (h : HasChs w B A n l) (hn : n ≤ maxLen) (hB : B ≤ w.heap.size) :
    Calls Try.prog 51 #[.slice A n c] w fun e w' => e = .returned (.bool (!runB l)) ∧ Below w.heap.size w w' := by
  have Hc := Lib.hid (right_any A n c B l w h hn hB)
  clear h hn hB
  go_enter Try.func51, Try.ntmps51
  go_wp2_with fail
  refine Hc.out.mono ?_
  rintro e w' ⟨rfl, hb⟩
  have Hb := Lib.hid hb
  clear hb
  go_wp2
  go_ret
  exact ⟨rfl, Hb.out⟩

theorem cells_box {W : World} {g : Nat} {t : TypeId} {x y z : Value} (h : Box W g t #[x, y, z]) : W.cell? ⟨g, 0, none⟩ = some x ∧ W.cell? ⟨g, 1, none⟩ = some y ∧ W.cell? ⟨g, 2, none⟩ = some z ∧
    W.frozen? ⟨g, 0, none⟩ = false ∧ W.frozen? ⟨g, 1, none⟩ = false ∧ W.frozen? ⟨g, 2, none⟩ = false := ⟨h.cell 0, h.cell 1, h.cell 2, h.frozen 0, h.frozen 1, h.frozen 2⟩
/-- what is known while a change is copied: its box at block g, the answer's at g + 1, and all below as it was -/
structure ClS (w : World) (k v : ByteArray) (b : Bool) (wx : World) : Prop where
  box : Box wx w.heap.size 38 #[.string k, .string v, .bool b]
  res : Box wx (w.heap.size + 1) 38 #[.string ⟨#[]⟩, .string ⟨#[]⟩, .bool false]
  below : Below w.heap.size w wx
section
variable {w wx w' : World} {k v : ByteArray} {b : Bool}
theorem ClS.start (w : World) (k v : ByteArray) (b : Bool) : ClS w k v b ((w.alloc (.cells #[.string k, .string v, .bool b] 38)).alloc (.cells #[.string ⟨#[]⟩, .string ⟨#[]⟩, .bool false] 38)).drew :=
  ⟨(Box.made _ _ _).alloc _, by have := Box.made (w.alloc (.cells #[.string k, .string v, .bool b] 38)) 38 #[.string ⟨#[]⟩, .string ⟨#[]⟩, .bool false]; rwa [World.size_alloc] at this, ((below_box _).alloc (by simp) _).drew⟩
theorem ClS.call (h : ClS w k v b wx) (hb : Below wx.heap.size wx w') : ClS w k v b w' :=
  ⟨h.box.below hb h.box.lt, h.res.below hb h.res.lt, h.below.trans (hb.mono h.below.size)⟩
theorem ClS.set0 (h : ClS w k v b wx) : ClS w k v b (wx.setCell ⟨w.heap.size, 0, none⟩ (.string k)) :=
  ⟨h.box.set_ 0 _, h.res.far (by show w.heap.size + 1 ≠ w.heap.size; omega) _, h.below.setCell (Nat.le_refl _) _⟩
theorem ClS.set1 (h : ClS w k v b wx) : ClS w k v b (wx.setCell ⟨w.heap.size, 1, none⟩ (.string v)) :=
  ⟨h.box.set_ 1 _, h.res.far (by show w.heap.size + 1 ≠ w.heap.size; omega) _, h.below.setCell (Nat.le_refl _) _⟩
theorem ClS.cells (h : ClS w k v b wx) : (wx.cell? ⟨w.heap.size, 0, none⟩ = some (.string k) ∧ wx.cell? ⟨w.heap.size, 1, none⟩ = some (.string v) ∧ wx.cell? ⟨w.heap.size, 2, none⟩ = some (.bool b)) ∧
    (wx.frozen? ⟨w.heap.size, 0, none⟩ = false ∧ wx.frozen? ⟨w.heap.size, 1, none⟩ = false) := ⟨⟨h.box.cell 0, h.box.cell 1, h.box.cell 2⟩, h.box.frozen 0, h.box.frozen 1⟩
theorem ClS.both (h : ClS w k v b wx) : ((wx.cell? ⟨w.heap.size, 0, none⟩ = some (.string k) ∧ wx.cell? ⟨w.heap.size, 1, none⟩ = some (.string v) ∧ wx.cell? ⟨w.heap.size, 2, none⟩ = some (.bool b)) ∧
    (wx.frozen? ⟨w.heap.size, 0, none⟩ = false ∧ wx.frozen? ⟨w.heap.size, 1, none⟩ = false)) ∧ ClS w k v b wx := ⟨h.cells, h⟩
end
set_option maxRecDepth 100000 in
set_option maxHeartbeats 1600000 in
theorem cloneC_any (c : Chg) (w : World) (hk : c.k.size ≤ 140737488355328) (hv : c.v.size ≤ 140737488355328) : Calls Try.prog 48 #[cagg c] w fun e w' => e = .returned (cagg c) ∧ Below w.heap.size w w' := by
  obtain ⟨k, v, g⟩ := c
  unfold cagg
  go_enter Try.func48, Try.ntmps48
  go_wp2
  go_region_held3 (fun wx => ((wx.cell? ⟨w.heap.size, 0, none⟩ = some (.string k) ∧ wx.cell? ⟨w.heap.size, 1, none⟩ = some (.string v) ∧ wx.cell? ⟨w.heap.size, 2, none⟩ = some (.bool g)) ∧ (wx.frozen? ⟨w.heap.size, 0, none⟩ = false ∧ wx.frozen? ⟨w.heap.size, 1, none⟩ = false)) ∧ ClS w k v g wx)
    (first | exact ClS.both (ClS.start w k v g) | exact ClS.both (ClS.call (And.right (by assumption)) hb) | exact ClS.both (ClS.set0 (And.right (by assumption))) | exact ClS.both (ClS.set1 (And.right (by assumption))))
    (first
      | (go_at_call 59; refine (clone_any _ _ (by first | exact hk | exact hv)).mono ?_; rintro e w' ⟨rfl, hb⟩))
  all_goals
    have hS := ‹((_ ∧ _ ∧ _) ∧ _) ∧ ClS w k v g (World.setCell _ _ _)›.2
    clear ‹((_ ∧ _ ∧ _) ∧ _) ∧ ClS w k v g (World.setCell _ _ _)›
    generalize (World.setCell (World.setCell _ _ _) _ _ : World) = wz at hS ⊢
    obtain ⟨⟨q0, q1, q2⟩, -⟩ := hS.cells
    obtain ⟨r0, r1, r2, f0, f1, f2⟩ := cells_box hS.res
    obtain ⟨W3, hW3⟩ : ∃ W3, ((wz.setCell ⟨w.heap.size + 1, 0, none⟩ (.string k)).setCell ⟨w.heap.size + 1, 1, none⟩ (.string v)).setCell ⟨w.heap.size + 1, 2, none⟩ (.bool g) = W3 := ⟨_, rfl⟩
    have hp := box_store (x' := .string k) (y' := .string v) (z' := .bool g) r0 r1 r2
    have Hbw : Hid (Below w.heap.size w W3) := Lib.hid (by rw [← hW3]; exact ((hS.below.setCell (Nat.le_succ _) _).setCell (Nat.le_succ _) _).setCell (Nat.le_succ _) _)
    rw [hW3] at hp
    obtain ⟨p0, p1, p2⟩ := hp
    clear hb hS
    go_wp2
    refine bodyPost_ret (v := .agg #[.string k, .string v, .bool g]) ?_ rfl ⟨rfl, Hbw.out⟩
    simp [results, Try.results48, go_sem, p0, p1, p2]
end Go.Proofs.Yteioopcacpihpaa

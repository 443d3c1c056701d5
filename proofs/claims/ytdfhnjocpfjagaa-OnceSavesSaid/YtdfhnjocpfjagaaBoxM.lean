/- Boxes of three cells that the call has laid, in later worlds. No condition. -/
import Derived.Test.YtdfhnjocpfjagaaWords
namespace Go.Proofs.Ytdfhnjocpfjagaa
open Go.RowKit

/-- a box of three cells that the call has laid, in a later world -/
theorem box_below {w w0 : World} {x y z : Value} {t : TypeId} (h : Below (w.alloc (.cells #[x, y, z] t)).heap.size (w.alloc (.cells #[x, y, z] t)) w0) :
    w0.cell? ⟨w.heap.size, 0, none⟩ = some x ∧ w0.cell? ⟨w.heap.size, 1, none⟩ = some y ∧ w0.cell? ⟨w.heap.size, 2, none⟩ = some z ∧
    w0.frozen? ⟨w.heap.size, 0, none⟩ = false ∧ w0.frozen? ⟨w.heap.size, 1, none⟩ = false ∧ w0.frozen? ⟨w.heap.size, 2, none⟩ = false := by
  have hb := (Box.made w t #[x, y, z]).below h (by simp)
  exact ⟨hb.cell 0, hb.cell 1, hb.cell 2, hb.frozen 0, hb.frozen 1, hb.frozen 2⟩
theorem box_store {w : World} {g : Nat} {x y z x' y' z' : Value} (q0 : w.cell? ⟨g, 0, none⟩ = some x) (q1 : w.cell? ⟨g, 1, none⟩ = some y) (q2 : w.cell? ⟨g, 2, none⟩ = some z) :
    (((w.setCell ⟨g, 0, none⟩ x').setCell ⟨g, 1, none⟩ y').setCell ⟨g, 2, none⟩ z').cell? ⟨g, 0, none⟩ = some x' ∧ (((w.setCell ⟨g, 0, none⟩ x').setCell ⟨g, 1, none⟩ y').setCell ⟨g, 2, none⟩ z').cell? ⟨g, 1, none⟩ = some y' ∧
    (((w.setCell ⟨g, 0, none⟩ x').setCell ⟨g, 1, none⟩ y').setCell ⟨g, 2, none⟩ z').cell? ⟨g, 2, none⟩ = some z' := by
  have n01 : (⟨g, 0, none⟩ : Addr) ≠ ⟨g, 1, none⟩ := fun e => by injection e with _ e; omega
  have n02 : (⟨g, 0, none⟩ : Addr) ≠ ⟨g, 2, none⟩ := fun e => by injection e with _ e; omega
  have n12 : (⟨g, 1, none⟩ : Addr) ≠ ⟨g, 2, none⟩ := fun e => by injection e with _ e; omega
  have s1 : (w.setCell ⟨g, 0, none⟩ x').cell? ⟨g, 1, none⟩ = some y := (World.cell?_setCell_other w _ _ _ n01).trans q1
  have s2 : ((w.setCell ⟨g, 0, none⟩ x').setCell ⟨g, 1, none⟩ y').cell? ⟨g, 2, none⟩ = some z := (World.cell?_setCell_other _ _ _ _ n12).trans ((World.cell?_setCell_other w _ _ _ n02).trans q2)
  refine ⟨?_, ?_, World.cell?_setCell_same _ _ _ s2⟩
  · rw [World.cell?_setCell_other _ _ _ _ (fun e => n02 e.symm), World.cell?_setCell_other _ _ _ _ (fun e => n01 e.symm)]
    exact World.cell?_setCell_same _ _ _ q0
  · rw [World.cell?_setCell_other _ _ _ _ (fun e => n12 e.symm)]
    exact World.cell?_setCell_same _ _ _ s1
theorem box_at {w w0 : World} {g : Nat} {x y z : Value} {t : TypeId} (h : Below (g + 1) (w.alloc (.cells #[x, y, z] t)) w0) (hg : w.heap.size = g) :
    w0.cell? ⟨g, 0, none⟩ = some x ∧ w0.cell? ⟨g, 1, none⟩ = some y ∧ w0.cell? ⟨g, 2, none⟩ = some z ∧
    w0.frozen? ⟨g, 0, none⟩ = false ∧ w0.frozen? ⟨g, 1, none⟩ = false ∧ w0.frozen? ⟨g, 2, none⟩ = false := by
  subst hg
  have hb := (Box.made w t #[x, y, z]).below h (by simp)
  exact ⟨hb.cell 0, hb.cell 1, hb.cell 2, hb.frozen 0, hb.frozen 1, hb.frozen 2⟩
theorem box_far {w w0 W3 : World} {g : Nat} {o : Obj} {x y z : Value} (h : Below (g + 1) (w.alloc o) w0) (hg : w.heap.size = g) (e : ((w0.setCell ⟨g, 0, none⟩ x).setCell ⟨g, 1, none⟩ y).setCell ⟨g, 2, none⟩ z = W3) : Below g w W3 := by
  subst hg
  rw [← e]
  exact ((((below_box o).trans (h.mono (by simp))).setCell (Nat.le_refl _) _).setCell (Nat.le_refl _) _).setCell (Nat.le_refl _) _
theorem own_head {w : World} {B m c size : Nat} {e : TypeId} {A : Option Addr} {xs : List Value} (h : w.ownsRow B e size (.slice A m c) m xs) (hm : 0 < m) : ∃ g, A = some ⟨g, 0, none⟩ ∧ B ≤ g := by
  rcases h.2 with ⟨_, h0⟩ | ⟨g, cap, cur, hv, hb, _⟩
  · omega
  · injection hv with hA _ _
    exact ⟨g, hA, hb⟩

end Go.Proofs.Ytdfhnjocpfjagaa

/- An append to the parts of a map in its box. -/
import Derived.Test.YtefagaiaflddaaaGoB
namespace Go.Proofs.Ytefagaiaflddaaa
open Go.RowKit
open Go.Lib (strCells compareBytes)
/-- a part goes to the end of the parts of a map in its box -/
theorem app_step {w5 w7 V : World} {g N : Nat} {Ao A7 : Option Addr} {co c7 : Nat} {e1 : Value} {L : List Pt} {q : Pt} (hN : L.length = N) (hB : Box w5 g 24 #[e1, .slice Ao N co]) (hb : Below g V w5) (hs : g + 1 ≤ w5.heap.size)
    (hnb : (Value.slice Ao N co).ownBlock ≠ some g) (o : w5.ownsRow (g + 1) 46 2 (.slice Ao N co) N (ptCells L)) (o7 : w7.ownsRow (g + 1) 46 2 (.slice A7 (N + 1) c7) (N + 1) (ptCells L ++ ptCells [q])) (g7 : w5.grownBy w7 (Value.slice Ao N co).ownBlock) :
    w7.cell? ⟨g, 1, none⟩ = some (.slice Ao N co) ∧ w7.frozen? ⟨g, 1, none⟩ = false ∧ (OwnPts (w7.setCell ⟨g, 1, none⟩ (.slice A7 (N + 1) c7)) (g + 1) (.slice A7 (N + 1) c7) (L ++ [q]) ∧ Box (w7.setCell ⟨g, 1, none⟩ (.slice A7 (N + 1) c7)) g 24 #[e1, .slice A7 (N + 1) c7] ∧ Below g V (w7.setCell ⟨g, 1, none⟩ (.slice A7 (N + 1) c7)) ∧ g + 1 ≤ (w7.setCell ⟨g, 1, none⟩ (.slice A7 (N + 1) c7)).heap.size) := by
  have hB7 : Box w7 g 24 #[e1, .slice Ao N co] := hB.grown g7 (fun e => hnb e.symm)
  have h7 : OwnPts w7 (g + 1) (.slice A7 (N + 1) c7) (L ++ [q]) := by
    unfold OwnPts
    rw [List.length_append, hN, ptCells_app]
    exact o7
  have hb7 : Below g V w7 := hb.grown g7 (by omega) fun k e => by have := (o.lt k e).1; omega
  have hs7 := g7.size
  refine ⟨hB7.cell 1, hB7.frozen 1, h7.far fun e => by have := (o7.lt _ e).1; omega, by have h8 := hB7.set_ 1 (.slice A7 (N + 1) c7); simpa using h8, hb7.setCell (Nat.le_refl _) _, ?_⟩
  have h8 : (w7.setCell ⟨g, 1, none⟩ (.slice A7 (N + 1) c7)).heap.size = w7.heap.size := by simp
  omega
end Go.Proofs.Ytefagaiaflddaaa

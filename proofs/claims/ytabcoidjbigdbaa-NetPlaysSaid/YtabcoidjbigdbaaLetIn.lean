/- A letter's rows in memory, its texts not too long. No condition. -/
import Derived.Test.YtabcoidjbigdbaaLetA
namespace Go.Proofs.Ytabcoidjbigdbaa
open Go.RowKit

/-- a letter's rows in memory, its texts not too long -/
structure LetIn (w : World) (C : Nat) (L : Let) (Ap : Option Addr) (np : Nat) (Ai : Option Addr) (ni : Nat) : Prop where
  ps : HasLps w C Ap np L.ps
  is : HasLis w C Ai ni L.is
  lens : np ≤ maxLen ∧ ni ≤ maxLen
  txt : ∀ s ∈ L.txts, s.size ≤ 140737488355328
  txp : ∀ p ∈ L.ps, p.k.size ≤ 140737488355328 ∧ p.v.size ≤ 140737488355328
  txi : ∀ p ∈ L.is, p.e.size ≤ 140737488355328
theorem LetIn.belowOf {w w' : World} {C : Nat} {L : Let} {Ap : Option Addr} {np : Nat} {Ai : Option Addr} {ni : Nat} (h : LetIn w C L Ap np Ai ni) {D : Nat} (hb : Below D w w') (hC : C ≤ D) : LetIn w' C L Ap np Ai ni :=
  ⟨h.ps.belowOf hb hC, h.is.belowOf hb hC, h.lens, h.txt, h.txp, h.txi⟩
/-- two letters in boxes of the call's own stay -/
theorem two_boxes {w wx : World} {cs ds : Array Value} (hx : Below ((w.alloc (.cells cs 26)).alloc (.cells ds 26)).heap.size ((w.alloc (.cells cs 26)).alloc (.cells ds 26)) wx) :
    Box wx w.heap.size 26 cs ∧ Box wx (w.heap.size + 1) 26 ds ∧ Below w.heap.size w wx := by
  have h1 := (Box.made w 26 cs).alloc (.cells ds 26)
  have h2 := Box.made (w.alloc (.cells cs 26)) 26 ds
  have h3 := h1.below hx (by simp; omega)
  have h4 := h2.below hx (by simp)
  rw [World.size_alloc] at h4
  exact ⟨h3, h4, (below_box (w := w) (.cells cs 26)).trans (((below_box _).mono (by simp)).trans (hx.mono (by simp; omega)))⟩
end Go.Proofs.Ytabcoidjbigdbaa

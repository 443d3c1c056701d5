/- A frame for what appends to a row of the call's own: only that row's block, and what is new, has turned. -/
import Derived.Test.YtdfhnjocpfjagaaConv
import Derived.Test.YtdfhnjocpfjagaaElems
namespace Go.Proofs.Ytdfhnjocpfjagaa
open Go.RowKit

/-- v0's row, and what is new, alone have turned; the row is v now: in the block that it had, or in a new one. -/
def Grew (w : World) (v0 : Value) (w' : World) (v : Value) : Prop := w.grownBy w' v0.ownBlock ∧ (v.ownBlock = v0.ownBlock ∨ ∃ g, w.heap.size ≤ g ∧ v.ownBlock = some g)
section
variable {w w1 w2 : World} {v0 v1 v2 : Value}
theorem Grew.refl (w : World) (v : Value) : Grew w v w v := ⟨World.grownBy.refl _ _, .inl rfl⟩
theorem Grew.alloc (h : Grew w v0 w1 v1) (o : Obj) : Grew w v0 (w1.alloc o) v1 := ⟨h.1.trans (World.grownBy_alloc _ _ _), h.2⟩
theorem Grew.drew (h : Grew w v0 w1 v1) : Grew w v0 w1.drew v1 := ⟨⟨h.1.os, h.1.tape, h.1.output, h.1.size, h.1.block⟩, h.2⟩
theorem Grew.trans (h : Grew w v0 w1 v1) (k : Grew w1 v1 w2 v2) : Grew w v0 w2 v2 := by
  refine ⟨⟨k.1.os.trans h.1.os, k.1.tape.trans h.1.tape, k.1.output.trans h.1.output, Nat.le_trans h.1.size k.1.size, fun i hi hne => ?_⟩, ?_⟩
  · refine (k.1.block i (Nat.lt_of_lt_of_le hi h.1.size) fun e => ?_).trans (h.1.block i hi hne)
    rcases h.2 with h2 | ⟨g, hg, h2⟩
    · exact hne (by rw [e, h2])
    · rw [h2] at e
      injection e
      omega
  · rcases k.2 with k2 | ⟨g, hg, k2⟩
    · rcases h.2 with h2 | ⟨g, hg, h2⟩
      · exact .inl (k2.trans h2)
      · exact .inr ⟨g, hg, k2.trans h2⟩
    · exact .inr ⟨g, Nat.le_trans h.1.size hg, k2⟩
theorem Grew.app (h : Grew w v0 w1 v1) (hg : w1.grownBy w2 v1.ownBlock) (hz : v2.ownBlock = v1.ownBlock ∨ v2.ownBlock = some w1.heap.size) : Grew w v0 w2 v2 :=
  h.trans ⟨hg, hz.imp id fun e => ⟨_, Nat.le_refl _, e⟩⟩
theorem Grew.under (h : Grew w v0 w1 v1) (hb : Below w1.heap.size w1 w2) : Grew w v0 w2 v1 := h.trans ⟨⟨hb.os, hb.tape, hb.output, hb.size, fun i hi _ => hb.block i hi⟩, .inl rfl⟩
theorem Grew.below {B m size : Nat} {e : TypeId} {xs : List Value} (h : Grew w v0 w1 v1) (hown : w.ownsRow B e size v0 m xs) (hB : B ≤ w.heap.size) : Below B w w1 :=
  (Below.refl B w).grown h.1 hB fun k hk => (hown.lt k hk).1
theorem Grew.size (h : Grew w v0 w1 v1) : w.heap.size ≤ w1.heap.size := h.1.size
theorem Grew.cell {p : Addr} {u : Value} (h : Grew w v0 w1 v1) (hne : v0.ownBlock ≠ some p.block) (hc : w.cell? p = some u) : w1.cell? p = some u := h.1.cell hc fun e => hne e.symm
theorem Grew.far {g : Nat} (h : Grew w v0 w1 v1) (hg : g < w.heap.size) (hne : v0.ownBlock ≠ some g) : v1.ownBlock ≠ some g := by
  rcases h.2 with h2 | ⟨k, hk, h2⟩
  · rw [h2]; exact hne
  · rw [h2]
    intro e
    injection e
    omega
theorem Grew.bytes {g : Nat} {l : List UInt8} (h : Grew w v0 w1 v1) (hb : Bytes w g l) (hne : v0.ownBlock ≠ some g) : Bytes w1 g l := hb.keep (h.1.block g hb.1 fun e => hne e.symm) h.1.size
end

/-- What is handed back is the row that came in, with more in it: it holds xs; that row's block, and what is new, alone have turned. -/
def GivesG (v : Value) (B m : Nat) (xs : List Value) (w : World) (e : Ending) (w' : World) : Prop :=
  ∃ v', e = .returned v' ∧ w'.ownsRow B 5 1 v' m xs ∧ Grew w v w' v'
theorem ret_grew {v0 v v' : Value} {B m m' : Nat} {xs xs' : List Value} {w w' : World} (hv : v = v') (h : w'.ownsRow B 5 1 v' m' xs') (hm : m' = m) (hx : xs' = xs) (hb : Grew w v0 w' v') : GivesG v0 B m xs w (.returned v) w' := by
  subst hv; subst hm; subst hx
  exact ⟨_, rfl, h, hb⟩

end Go.Proofs.Ytdfhnjocpfjagaa

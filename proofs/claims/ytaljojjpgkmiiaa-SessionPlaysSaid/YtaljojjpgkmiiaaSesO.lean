/- An end of the program and one of the document side by side. No condition. -/
import Derived.Test.YtaljojjpgkmiiaaSesN
import Derived.Test.YtaljojjpgkmiiaaSesH
namespace Go.Proofs.Ytaljojjpgkmiiaa
open Go.RowKit

/-- rows that are in different blocks -/
def Far (v u : Value) : Prop := ∀ i, v.ownBlock = some i → u.ownBlock ≠ some i
/-- the program's end at g and the document's end at rg, both with the texts of E or F, their rows in different blocks -/
structure PStE (w : World) (B g : Nat) (v : Value) (E : SE) (rg : Nat) (rv : Value) (F : SE) : Prop where
  e : EndAt w B g v E
  r : RefAt w B rg rv F
  far : Far v rv
section
variable {w w' : World} {B g g' rg : Nat} {v v' rv rv' : Value} {E E' F F' : SE}
theorem box_box_ne {a b : Nat} {t u : TypeId} {cs ds : Array Value} (h : Box w a t cs) (k : Box w b u ds) (hne : t ≠ u) : a ≠ b := by
  intro e
  subst e
  unfold Box at h k
  rw [h] at k
  injection k with k
  injection k with _ k
  exact hne k
theorem PStE.lo (h : PStE w B g v E rg rv F) : B ≤ w.heap.size := Nat.le_of_lt (Nat.lt_of_le_of_lt h.e.gB h.e.lt)
theorem PStE.below (h : PStE w B g v E rg rv F) (hb : Below w.heap.size w w') : PStE w' B g v E rg rv F := ⟨h.e.below hb, h.r.below hb, h.far⟩
theorem PStE.prog (h : PStE w B g v E rg rv F) (e' : EndAt w' B g v' E') (k : KeptE g v w w') (n : NewW w v v') : PStE w' B g v' E' rg rv F := by
  refine ⟨e', h.r.keep (k.block rg h.r.lt (box_box_ne h.r.box h.e.box (by decide)) fun e => own_no_box h.e.own h.r.box (by decide) rg e rfl) fun i hi => ?_, fun i hi e => ?_⟩
  · exact k.block i (h.r.own.lt i hi).2 (own_no_box h.r.own h.e.box (by decide) i hi) fun e => h.far i e hi
  · rcases n i hi with h1 | h1
    · exact h.far i h1 e
    · have := (h.r.own.lt i e).2
      omega
theorem PStE.ref (h : PStE w B g v E rg rv F) (r' : RefAt w' B rg rv' F') (k : KeptE rg rv w w') (n : NewW w rv rv') : PStE w' B g v E rg rv' F' := by
  refine ⟨h.e.keep (k.block g h.e.lt (box_box_ne h.e.box h.r.box (by decide)) fun e => own_no_box h.r.own h.e.box (by decide) g e rfl) fun i hi => ?_, r', fun i hi e => ?_⟩
  · exact k.block i (h.e.own.lt i hi).2 (own_no_box h.e.own h.r.box (by decide) i hi) (h.far i hi)
  · rcases n i e with h1 | h1
    · exact h.far i hi h1
    · have := (h.e.own.lt i hi).2
      omega
/-- a new end in place of the program's -/
theorem PStE.fresh (h : PStE w B g v E rg rv F) (e' : EndAt w' w.heap.size g' v' E') (hb : Below w.heap.size w w') (hB : B ≤ w.heap.size) : PStE w' B g' v' E' rg rv F :=
  ⟨e'.base hB, h.r.below hb, fun i hi e => by have := (e'.own.lt i hi).1; have := (h.r.own.lt i e).2; omega⟩
theorem PStE.box (h : PStE w B g v E rg rv F) (k : KeptE g v w w') {b : Nat} {t : TypeId} {cs : Array Value} (hb : Box w b t cs) (h1 : t ≠ 107) (h2 : 9 ≠ t) : Box w' b t cs :=
  (k.block b hb.lt (box_box_ne hb h.e.box h1) fun e => own_no_box h.e.own hb h2 b e rfl).trans hb
theorem PStE.boxR (h : PStE w B g v E rg rv F) (k : KeptE rg rv w w') {b : Nat} {t : TypeId} {cs : Array Value} (hb : Box w b t cs) (h1 : t ≠ 29) (h2 : 9 ≠ t) : Box w' b t cs :=
  (k.block b hb.lt (box_box_ne hb h.r.box h1) fun e => own_no_box h.r.own hb h2 b e rfl).trans hb
end
/-- texts of at most 200 bytes -/
def Short (E : SE) : Prop := ∀ x ∈ E.l, x.size ≤ 200
theorem textsBody_short : ∀ (l : List ByteArray), (∀ x ∈ l, x.size ≤ 200) → (textsBody (raw l)).length ≤ l.length * 209
  | [], _ => by simp [raw, textsBody]
  | x :: l, h => by
    have ih := textsBody_short l fun y hy => h y (by simp [hy])
    have hx := h x (by simp)
    have h9 := numForm_len9 (k := x.size) (by omega)
    show (textForm x.data.toList ++ textsBody (raw l)).length ≤ _
    rw [List.length_append, textForm_len, size_bytes, List.length_cons]
    omega
theorem Short.body {E : SE} (h : Short E) (g : E.Good) : (textsBody (raw E.l)).length ≤ 1000000 := by
  have h1 := textsBody_short E.l h
  have := g.ll
  omega
theorem Short.save {E : SE} (h : Short E) (g : E.Good) : E.save.length ≤ 1000000 := by
  have h1 := textsBody_short E.l h
  have h2 := save_len E g (h.body g)
  have := g.ll
  have h3 := numForm_len9 (k := (raw E.l).length) (by unfold raw; rw [List.length_map]; omega)
  unfold SE.save textsForm
  simp only [List.length_append]
  omega
theorem Short.new : Short ⟨0, 0, []⟩ := by intro x hx; simp at hx
theorem Short.send {E : SE} (h : Short E) {x : ByteArray} (hx : x.size ≤ 200) : Short (E.send x).1 := by
  unfold SE.send
  split
  · exact h
  · split
    · exact h
    · intro y hy
      rcases List.mem_append.1 hy with hy | hy
      · exact h y hy
      · simp at hy; subst hy; exact hx
theorem Short.take {E : SE} (h : Short E) (k : Int) : Short (E.take k).1 := by
  unfold SE.take
  split
  · exact h
  · exact h
theorem Short.acked {E : SE} (h : Short E) (k : Int) : Short (E.acked k).1 := by
  unfold SE.acked
  split
  · exact fun y hy => h y (List.mem_of_mem_drop hy)
  · exact h
theorem save_size {E : SE} (h : Short E) (g : E.Good) : (⟨E.save.toArray⟩ : ByteArray).size ≤ 1000000 := by
  have := h.save g
  rw [Lib.size_eq]
  exact this
end Go.Proofs.Ytaljojjpgkmiiaa

/- Package session: an end in memory; New, Mark, Waiting, brought. Condition: the end is in memory. -/
import Derived.Test.YtaljojjpgkmiiaaSiA
import Derived.Test.YtaljojjpgkmiiaaClone
import Derived.Test.YtaljojjpgkmiiaaWalkT
namespace Go.Proofs.Ytaljojjpgkmiiaa
open Go.RowKit

theorem tx_elem : ElemN Try.prog 9 1 16 (.string ⟨#[]⟩) := ⟨by kernel_rfl, rfl⟩
/-- a row of texts that somebody owns -/
def OwnTx (w : World) (B : Nat) (v : Value) (l : List ByteArray) : Prop := w.ownsRow B 9 1 v l.length (l.map Value.string)
theorem tx_one (l : List ByteArray) : ∀ u ∈ l.map Value.string, u.oneCell' = true := by
  intro u hu
  obtain ⟨x, -, rfl⟩ := List.mem_map.1 hu
  rfl
theorem OwnTx.slice {w : World} {B : Nat} {v : Value} {l : List ByteArray} (h : OwnTx w B v l) : ∃ A c, v = .slice A l.length c ∧ l.length ≤ c ∧ c ≤ maxLen ∧ HasTexts w w.heap.size A l.length l := by
  obtain ⟨A, c, e, h1, h2, h3⟩ := own_sliceN h
  rw [Nat.mul_one] at h3
  exact ⟨A, c, e, h1, h2, h3⟩
theorem OwnTx.nil (w : World) (B : Nat) : OwnTx w B (.slice none 0 0) [] := World.ownsRow_nil _ _ _ _
theorem OwnTx.below {w w' : World} {B : Nat} {v : Value} {l : List ByteArray} (h : OwnTx w B v l) (hb : Below w.heap.size w w') : OwnTx w' B v l := own_belowN h hb
theorem OwnTx.base {w : World} {B B' : Nat} {v : Value} {l : List ByteArray} (h : OwnTx w B v l) (hB : B' ≤ B) : OwnTx w B' v l := own_baseN h hB
theorem own_keepN {w w' : World} {B m size : Nat} {e : TypeId} {v : Value} {xs : List Value} (h : w.ownsRow B e size v m xs) (hk : ∀ g, v.ownBlock = some g → w'.heap[g]? = w.heap[g]?) : w'.ownsRow B e size v m xs := by
  refine ⟨h.1, ?_⟩
  rcases h.2 with hn | ⟨g, cap, cur, rfl, hB, hg, rest⟩
  · exact .inl hn
  · exact .inr ⟨g, cap, cur, rfl, hB, (hk g rfl).trans hg, rest⟩
theorem own_no_box {w : World} {B m size g : Nat} {e t : TypeId} {v : Value} {xs : List Value} {cs : Array Value} (h : w.ownsRow B e size v m xs) (hb : Box w g t cs) (hne : e ≠ t) : ∀ b, v.ownBlock = some b → b ≠ g := by
  intro b hv e0
  subst e0
  rcases h.2 with ⟨rfl, _⟩ | ⟨g1, cap, cur, rfl, hB, hh, rest⟩
  · cases hv
  · cases hv
    unfold Box at hb
    rw [hb] at hh
    injection hh with hh
    injection hh with _ hh
    exact hne hh.symm

/-- only the box g and v's row may have turned -/
structure KeptE (g : Nat) (v : Value) (w w' : World) : Prop where
  os : w'.os = w.os
  tape : w'.tape = w.tape
  output : w'.output = w.output
  size : w.heap.size ≤ w'.heap.size
  block : ∀ i, i < w.heap.size → i ≠ g → v.ownBlock ≠ some i → w'.heap[i]? = w.heap[i]?
/-- the row is where it was, or in new memory -/
def NewV (w : World) (v v' : Value) : Prop := v'.ownBlock = v.ownBlock ∨ ∃ k, w.heap.size ≤ k ∧ v'.ownBlock = some k
section
variable {w w' w1 w2 : World} {B g : Nat} {v v1 v2 : Value}
theorem KeptE.of (h : Below w.heap.size w w') : KeptE g v w w' := ⟨h.os, h.tape, h.output, h.size, fun i hi _ _ => h.block i hi⟩
theorem KeptE.trans (h : KeptE g v w w1) (hv : NewV w v v1) (k : KeptE g v1 w1 w2) : KeptE g v w w2 :=
  ⟨k.os.trans h.os, k.tape.trans h.tape, k.output.trans h.output, Nat.le_trans h.size k.size, fun i hi h1 h2 => (k.block i (Nat.lt_of_lt_of_le hi h.size) h1 fun e => by
    rcases hv with hv | ⟨j, hj, hv⟩
    · exact h2 (hv ▸ e)
    · rw [hv] at e
      injection e with e
      omega).trans (h.block i hi h1 h2)⟩
theorem KeptE.grown {i : Option Nat} (h : w.grownBy w' i) (hi : i = some g ∨ i = v.ownBlock) : KeptE g v w w' :=
  ⟨h.os, h.tape, h.output, h.size, fun j hj h1 h2 => h.block j hj fun e => by
    rcases hi with rfl | rfl
    · injection e with e
      exact h1 e
    · exact h2 e.symm⟩
theorem KeptE.below (h : KeptE g v w w') (hg : B ≤ g) (hv : ∀ i, v.ownBlock = some i → B ≤ i) (hB : B ≤ w.heap.size) : Below B w w' :=
  ⟨h.os, h.tape, h.output, h.size, fun i hi => h.block i (by omega) (by omega) fun e => by have := hv i e; omega⟩
theorem NewV.refl (w : World) (v : Value) : NewV w v v := .inl rfl
theorem NewV.trans (h : NewV w v v1) (hs : w.heap.size ≤ w1.heap.size) (k : NewV w1 v1 v2) : NewV w v v2 := by
  rcases k with k | ⟨j, hj, k⟩
  · rcases h with h | ⟨i, hi, h⟩
    · exact .inl (k.trans h)
    · exact .inr ⟨i, hi, k.trans h⟩
  · exact .inr ⟨j, Nat.le_trans hs hj, k⟩
end
/-- The pointer to block g is the end E: the texts that wait lie in v's row. -/
structure EndAt (w : World) (B g : Nat) (v : Value) (E : SE) : Prop where
  gB : B ≤ g
  box : Box w g 107 #[.int .i64 E.m, .int .i64 E.s, v]
  own : OwnTx w B v E.l
  good : E.Good
section
variable {w w' : World} {B B' g : Nat} {v : Value} {E : SE}
theorem EndAt.lt (h : EndAt w B g v E) : g < w.heap.size := h.box.lt
theorem EndAt.below (h : EndAt w B g v E) (hb : Below w.heap.size w w') : EndAt w' B g v E := ⟨h.gB, h.box.below hb h.box.lt, h.own.below hb, h.good⟩
theorem EndAt.base (h : EndAt w B g v E) (hB : B' ≤ B) : EndAt w B' g v E := ⟨Nat.le_trans hB h.gB, h.box, h.own.base hB, h.good⟩
theorem EndAt.keep (h : EndAt w B g v E) (hg : w'.heap[g]? = w.heap[g]?) (hv : ∀ i, v.ownBlock = some i → w'.heap[i]? = w.heap[i]?) : EndAt w' B g v E := ⟨h.gB, hg.trans h.box, own_keepN h.own hv, h.good⟩
theorem EndAt.apart (h : EndAt w B g v E) : v.ownBlock ≠ some g := fun e => own_no_box h.own h.box (by decide) g e rfl
theorem EndAt.cells (h : EndAt w B g v E) : w.cell? ⟨g, 0, none⟩ = some (.int .i64 E.m) ∧ w.cell? ⟨g, 1, none⟩ = some (.int .i64 E.s) ∧ w.cell? ⟨g, 2, none⟩ = some v ∧ w.frozen? ⟨g, 0, none⟩ = false ∧ w.frozen? ⟨g, 1, none⟩ = false ∧ w.frozen? ⟨g, 2, none⟩ = false :=
  ⟨h.box.cell 0, h.box.cell 1, h.box.cell 2, h.box.frozen 0, h.box.frozen 1, h.box.frozen 2⟩
theorem EndAt.kept (h : EndAt w B g v E) (k : KeptE g v w w') (hB : B ≤ w.heap.size) : Below B w w' := k.below h.gB (fun i e => (h.own.lt i e).1) hB
end
theorem sesNew_any (w : World) : Calls Try.prog 16 #[] w fun e w' => ∃ g, e = .returned (.pointer (some ⟨g, 0, none⟩)) ∧ EndAt w' w.heap.size g (.slice none 0 0) ⟨0, 0, []⟩ ∧ Below w.heap.size w w' := by
  have Hx := Lib.hid (Box.made w 107 #[.int .i64 0, .int .i64 0, .slice none 0 0])
  have Hb : Hid (Below w.heap.size w (w.alloc (.cells #[.int .i64 0, .int .i64 0, .slice none 0 0] 107))) := Lib.hid (below_box _)
  go_enter Try.func16, Try.ntmps16
  go_wp2
  go_ret
  exact ⟨_, rfl, ⟨Nat.le_refl _, Hx.out, OwnTx.nil _ _, SE.Good.new⟩, Hb.out⟩
section
variable {w : World} {B g : Nat} {v : Value} {E : SE}
theorem sesMark_any (h : EndAt w B g v E) : Calls Try.prog 29 #[.pointer (some ⟨g, 0, none⟩)] w fun e w' => e = .returned (.int .i64 E.m) ∧ w = w' := by
  obtain ⟨c0, -⟩ := h.cells
  clear h
  go_enter Try.func29, Try.ntmps29
  go_wp2
  go_ret
  exact ⟨rfl, rfl⟩
theorem sesWaiting_any (h : EndAt w B g v E) : Calls Try.prog 30 #[.pointer (some ⟨g, 0, none⟩)] w fun e w' => e = .returned (.int .i64 E.l.length) ∧ w = w' := by
  obtain ⟨-, -, c2, -⟩ := h.cells
  obtain ⟨A, c, rfl, -⟩ := h.own.slice
  clear h
  go_enter Try.func30, Try.ntmps30
  go_wp2
  go_ret
  exact ⟨rfl, rfl⟩
theorem brought_any (h : EndAt w B g v E) : Calls Try.prog 62 #[.pointer (some ⟨g, 0, none⟩)] w fun e w' => e = .returned (.int .i64 (E.s - E.l.length : Int)) ∧ Below w.heap.size w w' := by
  obtain ⟨-, c1, c2, -⟩ := h.cells
  obtain ⟨A, c, rfl, -⟩ := h.own.slice
  have h1 := h.good.sl
  have h2 := h.good.ll
  have h3 := h.good.le
  have hw : IntKind.i64.wrap ((E.s : Int) - (E.l.length : Int)) = (E.s : Int) - (E.l.length : Int) := IntWalk.i64_in _ (by omega)
  clear h
  go_enter Try.func62, Try.ntmps62
  go_wp2
  go_quiet (fail)
  go_wp2
  go_ret
  exact ⟨rfl, ⟨rfl, rfl, rfl, Nat.le_refl _, fun _ _ => rfl⟩⟩
end
end Go.Proofs.Ytaljojjpgkmiiaa

/- What the statements of layer 15 ask first (awake) is so. No condition. -/
import Derived.Test.YtaljojjpgkmiiaaSesD
import Derived.Test.YtaljojjpgkmiiaaSesE
import Derived.Test.YtaljojjpgkmiiaaSesF
namespace Go.Proofs.Ytaljojjpgkmiiaa
open Go.RowKit

section
variable {w w' : World} {B g : Nat} {v : Value} {E : SE}
theorem own_typeS {w : World} {B m size : Nat} {e : TypeId} {v : Value} {xs : List Value} (h : w.ownsRow B e size v m xs) {g : Nat} (hg : v.ownBlock = some g) : ∃ cur : Array Value, w.heap[g]? = some (Obj.cells cur e (0, 0)) := by
  rcases h.2 with ⟨rfl, _⟩ | ⟨g', cap, cur, rfl, hB, hh, rest⟩
  · cases hg
  · cases hg; exact ⟨cur, hh⟩
/-- rows of elements of other types are in other blocks -/
theorem own_types_ne {w : World} {B B' m m' size size' : Nat} {e e' : TypeId} {v v' : Value} {xs xs' : List Value} (h : w.ownsRow B e size v m xs) (h' : w.ownsRow B' e' size' v' m' xs') (hne : e ≠ e') : ∀ i, v'.ownBlock = some i → v.ownBlock ≠ some i := by
  intro i hi e0
  obtain ⟨c1, h1⟩ := own_typeS h e0
  obtain ⟨c2, h2⟩ := own_typeS h' hi
  rw [h1] at h2
  injection h2 with h2
  injection h2 with _ h2 _
  exact hne h2
/-- a row that is none of the end's stays -/
theorem EndAt.rowKept (h : EndAt w B g v E) (k : KeptE g v w w') {C m size : Nat} {e : TypeId} {u : Value} {xs : List Value} (ho : w.ownsRow C e size u m xs) (h1 : e ≠ 107) (h2 : 9 ≠ e) : w'.ownsRow C e size u m xs :=
  own_keepN ho fun i hi => k.block i (ho.lt i hi).2 (own_no_box ho h.box h1 i hi) (own_types_ne h.own ho h2 i hi)
theorem one_item {c : Nat} {gi : Nat} {x : SIt} {C : Nat} (h : w.ownsRow C 105 2 (.slice (some ⟨gi, 0, none⟩) 1 c) 1 (siCells [x])) : w.cell? ⟨gi, 0, none⟩ = some (.int .i64 x.n) ∧ w.cell? ⟨gi, 1, none⟩ = some (.string x.b) :=
  ⟨h.cellAt 0 (by omega), h.cellAt 1 (by omega)⟩
end
set_option maxRecDepth 100000 in
set_option maxHeartbeats 12800000 in
theorem awake15_any (w : World) : Calls Try.prog 15 #[] w fun e w' => e = .returned (.bool true) ∧ Below w.heap.size w w' := by
  have t1 : SE.send ⟨0, 0, []⟩ ⟨#[97]⟩ = (⟨0, 1, [⟨#[97]⟩]⟩, 1, 0) := by rfl
  have t2 : SE.send ⟨0, 1, [⟨#[97]⟩]⟩ ⟨#[98]⟩ = (⟨0, 2, [⟨#[97]⟩, ⟨#[98]⟩]⟩, 2, 0) := by rfl
  have t3 : SE.post ⟨0, 2, [⟨#[97]⟩, ⟨#[98]⟩]⟩ 1 = [⟨1, ⟨#[97]⟩⟩] := by rfl
  have t4 : SE.take ⟨0, 2, [⟨#[97]⟩, ⟨#[98]⟩]⟩ 2 = (⟨0, 2, [⟨#[97]⟩, ⟨#[98]⟩]⟩, false) := by rfl
  have t5 : SE.take ⟨0, 2, [⟨#[97]⟩, ⟨#[98]⟩]⟩ 1 = (⟨1, 2, [⟨#[97]⟩, ⟨#[98]⟩]⟩, true) := by rfl
  have t6 : SE.acked ⟨1, 2, [⟨#[97]⟩, ⟨#[98]⟩]⟩ 1 = (⟨1, 2, [⟨#[98]⟩]⟩, 1) := by rfl
  have t7 : SE.save ⟨1, 2, [⟨#[98]⟩]⟩ = [1, 2, 1, 1, 98] := by decide +kernel
  have T1 := Lib.hid t1
  have T2 := Lib.hid t2
  have T3 := Lib.hid t3
  have T4 := Lib.hid t4
  have T5 := Lib.hid t5
  have T6 := Lib.hid t6
  have T7 := Lib.hid t7
  clear t1 t2 t3 t4 t5 t6 t7
  go_enter Try.func15, Try.ntmps15
  go_wp2_with fail
  refine (sesNew_any w).mono ?_
  rintro e w1 ⟨g, rfl, h1, b1⟩
  have H1 := Lib.hid (And.intro h1 b1)
  clear h1 b1
  go_wp2_with fail
  refine (sesSend_any H1.out.1 H1.out.2.size ⟨#[97]⟩).mono ?_
  unfold SendEP
  rw [T1.out]
  rintro e w2 ⟨v2, rfl, h2, k2, -⟩
  have H2 := Lib.hid (And.intro h2 (H1.out.2.trans (H1.out.1.kept k2 H1.out.2.size)))
  clear h2 k2
  go_wp2_with fail
  refine (sesSend_any H2.out.1 H2.out.2.size ⟨#[98]⟩).mono ?_
  unfold SendEP
  rw [T2.out]
  rintro e w3 ⟨v3, rfl, h3, k3, -⟩
  have H3 := Lib.hid (And.intro h3 (H2.out.2.trans (H2.out.1.kept k3 H2.out.2.size)))
  clear h3 k3
  go_wp2_with fail
  refine (sesPost_any H3.out.1 1).mono ?_
  rw [T3.out]
  rintro e w4 ⟨v4, rfl, o4, b4⟩
  obtain ⟨A4, ci, rfl, -, -, -⟩ := o4.slice
  obtain ⟨gi, rfl, -⟩ := own_head o4 (by simp)
  have Hi4 : Hid (w4.ownsRow w3.heap.size 105 2 (.slice (some ⟨gi, 0, none⟩) 1 ci) 1 (siCells [⟨1, ⟨#[97]⟩⟩])) := Lib.hid o4
  have HD : Hid (EndAt w4 w.heap.size g v3 ⟨0, 2, [⟨#[97]⟩, ⟨#[98]⟩]⟩ ∧ Below w.heap.size w w4) := Lib.hid ⟨H3.out.1.below b4, H3.out.2.trans (b4.mono H3.out.2.size)⟩
  obtain ⟨c0, c1⟩ := one_item Hi4.out
  clear o4 b4
  simp only [List.length_cons, List.length_nil]
  go_wp2_with fail
  refine (sesTake_any HD.out.1 2 ⟨#[120]⟩).mono ?_
  rw [T4.out]
  rintro e w5 ⟨rfl, h5, k5⟩
  have H5 := Lib.hid (And.intro h5 (HD.out.2.trans (HD.out.1.kept k5 HD.out.2.size)))
  clear h5 k5 c0 c1
  go_wp2_with fail
  refine (sesTake_any H5.out.1 1 ⟨#[121]⟩).mono ?_
  rw [T5.out]
  rintro e w6 ⟨rfl, h6, k6⟩
  have H6 := Lib.hid (And.intro h6 (H5.out.2.trans (H5.out.1.kept k6 H5.out.2.size)))
  clear h6 k6
  go_wp2_with fail
  refine (sesAcked_any H6.out.1 1).mono ?_
  unfold AckP
  rw [T6.out]
  rintro e w7 ⟨v7, rfl, h7, k7, -⟩
  have H7 := Lib.hid (And.intro h7 (H6.out.2.trans (H6.out.1.kept k7 H6.out.2.size)))
  clear h7 k7
  go_wp2_with fail
  refine (sesSave_any H7.out.1 (by decide +kernel)).mono ?_
  rw [T7.out]
  rintro e w8 ⟨rfl, b8⟩
  have H8 := Lib.hid (H7.out.2.trans (b8.mono H7.out.2.size))
  clear b8
  go_wp2
  go_ret
  exact ⟨rfl, H8.out⟩
end Go.Proofs.Ytaljojjpgkmiiaa

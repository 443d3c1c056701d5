/- The document's end: Take, Send, Acked. Condition: the end is in memory. -/
import Derived.Test.YtaljojjpgkmiiaaSesJ
namespace Go.Proofs.Ytaljojjpgkmiiaa
open Go.RowKit

section
variable {w : World} {B g : Nat} {v : Value} {E : SE}
theorem box_set_kept {w2 : World} {i : Nat} {u v : Value} : KeptE g v w2 (w2.setCell ⟨g, i, none⟩ u) :=
  KeptE.grown (i := some g) ⟨rfl, rfl, rfl, by simp [World.setCell], fun k _ hk => Below.heap_setCell w2 ⟨g, i, none⟩ _ k fun e => hk (by rw [e])⟩ (.inl rfl)
theorem own_set_kept {w2 : World} {i C m size : Nat} {e : TypeId} {u v : Value} {xs : List Value} (o : w2.ownsRow C e size v m xs) (h : v.ownBlock ≠ some g) : (w2.setCell ⟨g, i, none⟩ u).ownsRow C e size v m xs :=
  own_keepN o fun k hk => Below.heap_setCell w2 ⟨g, i, none⟩ _ k fun e => h (by rw [hk, e])
theorem RefAt.store0 (h : RefAt w B g v E) (k : Nat) (hk : k ≤ 1099511627776) : RefAt (w.setCell ⟨g, 0, none⟩ (.int .i64 k)) B g v ⟨k, E.s, E.l⟩ ∧ KeptE g v w (w.setCell ⟨g, 0, none⟩ (.int .i64 k)) :=
  ⟨⟨h.gB, by have h8 := h.box.set_ 0 (.int .i64 k); simpa using h8, own_set_kept h.own h.apart, ⟨hk, h.good.sl, h.good.ll, h.good.le, h.good.tx⟩⟩, box_set_kept⟩
set_option maxRecDepth 100000 in
set_option maxHeartbeats 800000 in
theorem refTake_any (h : RefAt w B g v E) (k : Int) : Calls Try.prog 23 #[.pointer (some ⟨g, 0, none⟩), .int .i64 k] w fun e w' =>
    e = .returned (.bool (E.take k).2) ∧ RefAt w' B g v (E.take k).1 ∧ KeptE g v w w' := by
  have c0 : w.cell? ⟨g, 0, none⟩ = some (.int .i64 E.m) := h.box.cell 0
  have f0 := h.box.frozen 0
  have HE : Hid (RefAt w B g v E ∧ KeptE g v w w) := Lib.hid ⟨h, KeptE.of (Below.refl _ _)⟩
  by_cases h1 : k < 1
  · have ht : E.take k = (E, false) := by unfold SE.take; rw [if_neg fun h => by omega]
    rw [ht]
    have e1 : decide (k < 1) = true := decide_eq_true h1
    clear h ht
    go_enter Try.func23, Try.ntmps23
    go_wp2
    go_ret
    exact ⟨rfl, HE.out⟩
  · have e1 : ¬ k < 1 := h1
    by_cases h2 : 1099511627776 < k
    · have ht : E.take k = (E, false) := by unfold SE.take; rw [if_neg fun h => by omega]
      rw [ht]
      clear h ht
      go_enter Try.func23, Try.ntmps23
      go_wp2
      go_ret
      exact ⟨rfl, HE.out⟩
    · have e2 : ¬ (1099511627776 : Int) < k := h2
      obtain ⟨q, rfl⟩ : ∃ q : Nat, k = ((q + 1 : Nat) : Int) := ⟨(k - 1).toNat, by omega⟩
      have hw : IntKind.i64.wrap (((q + 1 : Nat) : Int) - 1) = (q : Int) := by rw [show ((q + 1 : Nat) : Int) - 1 = (q : Int) from by omega]; exact IntWalk.i64_in _ (by omega)
      obtain ⟨Q, hQ⟩ : ∃ Q : Nat, q + 1 = Q := ⟨_, rfl⟩
      have HQ := Lib.hid hQ
      rw [hQ] at hw e1 e2 h1 h2 ⊢
      by_cases h3 : q = E.m
      · have ht : E.take (Q : Int) = (⟨Q, E.s, E.l⟩, true) := by unfold SE.take; rw [if_pos (by omega)]; rfl
        rw [ht]
        have Hs := Lib.hid (h.store0 Q (by omega))
        have e3 : ((q : Int) != (E.m : Int)) = false := by simp; omega
        clear h ht hQ h1 h2 h3
        go_enter Try.func23, Try.ntmps23
        go_wp2
        go_ret
        exact ⟨rfl, Hs.out⟩
      · have ht : E.take (Q : Int) = (E, false) := by unfold SE.take; rw [if_neg fun h => by omega]
        rw [ht]
        have e3 : ((q : Int) != (E.m : Int)) = true := by simp; omega
        clear h ht hQ h1 h2 h3
        go_enter Try.func23, Try.ntmps23
        go_wp2
        go_ret
        exact ⟨rfl, HE.out⟩
end
/-- what the document's Send leaves -/
def RSendP (B g : Nat) (v : Value) (E : SE) (x : ByteArray) (w : World) (e : Ending) (w' : World) : Prop :=
  ∃ v', e = .returned (.tuple #[.int .i64 (E.send x).2.1, .int .i64 (E.send x).2.2]) ∧ RefAt w' B g v' (E.send x).1 ∧ KeptE g v w w' ∧ NewV w v v'
section
variable {w : World} {B g : Nat} {v : Value} {E : SE}
theorem rsend_end {w5 wA : World} {v7 : Value} {x : ByteArray} (h : RefAt w B g v E) (hx : ¬ 65536 < x.size ∧ ¬ (256 ≤ E.l.length ∨ 1099511627776 ≤ E.s)) (hb : Below w.heap.size w w5)
    (o7 : wA.ownsRow B 9 1 v7 (E.l.length + 1) (E.l.map Value.string ++ [.string x])) (g7 : w5.grownBy wA v.ownBlock) (z7 : v7.ownBlock = v.ownBlock ∨ v7.ownBlock = some w5.heap.size) :
    RefAt (wA.setCell ⟨g, 2, none⟩ v7) B g v7 ⟨E.m, E.s + 1, E.l ++ [x]⟩ ∧ KeptE g v w (wA.setCell ⟨g, 2, none⟩ v7) ∧ NewV w v v7 := by
  have hn7 : NewV w v v7 := z7.imp id fun e => ⟨_, by have := hb.size; omega, e⟩
  have hng : v7.ownBlock ≠ some g := by
    rcases z7 with z | z
    · rw [z]; exact h.apart
    · rw [z]
      intro e
      injection e with e
      have := h.lt
      have := hb.size
      omega
  have hbA : Box wA g 29 #[.int .i64 E.m, .int .i64 (E.s - E.l.length : Nat), v] := (h.box.below hb h.lt).grown g7 fun e => h.apart e.symm
  have hle := h.good.le
  refine ⟨⟨h.gB, ?_, ?_, ?_⟩, ?_, hn7⟩
  · have h8 := hbA.set_ 2 v7
    rw [show (E.l ++ [x]).length = E.l.length + 1 from by simp, show E.s + 1 - (E.l.length + 1) = E.s - E.l.length from by omega]
    simpa using h8
  · unfold OwnTx
    rw [List.length_append, List.length_singleton, List.map_append]
    exact own_set_kept o7 hng
  · have h9 := h.good.send x
    unfold SE.send at h9
    rw [if_neg hx.1, if_neg hx.2] at h9
    exact h9
  · exact ((KeptE.of hb).trans (.inl rfl) (KeptE.grown g7 (.inr rfl))).trans (.inl rfl) box_set_kept
set_option maxRecDepth 100000 in
set_option maxHeartbeats 3200000 in
theorem refSend_any (h : RefAt w B g v E) (hB : B ≤ w.heap.size) (x : ByteArray) : Calls Try.prog 18 #[.pointer (some ⟨g, 0, none⟩), .string x] w (RSendP B g v E x w) := by
  obtain ⟨D, hD⟩ : ∃ D : Nat, E.s - E.l.length = D := ⟨_, rfl⟩
  have hbx := h.box
  rw [hD] at hbx
  have hle := h.good.le
  have hsl := h.good.sl
  have hll := h.good.ll
  obtain ⟨A, c, rfl, -⟩ := h.own.slice
  have Hh := Lib.hid h
  have c1 : w.cell? ⟨g, 1, none⟩ = some (.int .i64 D) := hbx.cell 1
  have c2 : w.cell? ⟨g, 2, none⟩ = some (.slice A E.l.length c) := hbx.cell 2
  have HBx := Lib.hid hbx
  have hw : IntKind.i64.wrap ((D : Int) + (E.l.length : Int)) = (E.s : Int) := by rw [show (D : Int) + (E.l.length : Int) = (E.s : Int) from by omega]; exact IntWalk.i64_in _ (by omega)
  by_cases hx : 65536 < x.size
  · have ht : E.send x = (E, 0, 4) := if_pos hx
    have HT := Lib.hid ht
    have e1 : (65536 : Int) < (x.size : Int) := by omega
    clear h ht hx hD hbx
    go_enter Try.func18, Try.ntmps18
    go_wp2
    go_ret2
    exact ⟨_, by rw [HT.out]; rfl, by rw [HT.out]; exact ⟨Hh.out, KeptE.of (Below.refl _ _), .inl rfl⟩⟩
  · have e1 : ¬ (65536 : Int) < (x.size : Int) := by omega
    by_cases h2 : 256 ≤ E.l.length ∨ 1099511627776 ≤ E.s
    · have ht : E.send x = (E, 0, 17) := by unfold SE.send; rw [if_neg hx, if_pos h2]
      have HT := Lib.hid ht
      by_cases h3 : 256 ≤ E.l.length
      · have e2 : (256 : Int) ≤ (E.l.length : Int) := by omega
        clear h ht hx h2 h3 hD hbx hw
        go_enter Try.func18, Try.ntmps18
        go_wp2
        go_quiet (fail)
        go_wp2
        go_ret2
        exact ⟨_, by rw [HT.out]; rfl, by rw [HT.out]; exact ⟨Hh.out.below (below_nq w _), KeptE.of (below_nq w _), .inl rfl⟩⟩
      · have e2 : ¬ (256 : Int) ≤ (E.l.length : Int) := by omega
        have e3 : (1099511627776 : Int) ≤ (E.s : Int) := by omega
        clear h ht hx h2 h3 hD hbx
        go_enter Try.func18, Try.ntmps18
        go_wp2
        go_quiet (fail)
        go_wp2
        go_ret2
        exact ⟨_, by rw [HT.out]; rfl, by rw [HT.out]; exact ⟨Hh.out.below (below_nq w _), KeptE.of (below_nq w _), .inl rfl⟩⟩
    · have ht : E.send x = (⟨E.m, E.s + 1, E.l ++ [x]⟩, E.s + 1, 0) := by unfold SE.send; rw [if_neg hx, if_neg h2]
      have HT := Lib.hid ht
      have e2 : decide ((256 : Int) ≤ (E.l.length : Int)) = false := decide_eq_false (by omega)
      have e3 : decide ((1099511627776 : Int) ≤ (E.s : Int)) = false := decide_eq_false (by omega)
      have HX := Lib.hid (And.intro hx h2)
      have hw2 : IntKind.i64.wrap ((D : Int) + ((E.l.length + 1 : Nat) : Int)) = ((E.s + 1 : Nat) : Int) := by rw [show (D : Int) + ((E.l.length + 1 : Nat) : Int) = ((E.s + 1 : Nat) : Int) from by omega]; exact IntWalk.i64_in _ (by omega)
      have HN : Hid (E.l.length < 256) := Lib.hid (by omega)
      have HB := Lib.hid hB
      clear h ht hx h2 hD hbx
      go_enter Try.func18, Try.ntmps18
      go_wp2
      go_quiet (fail)
      have Hq := Lib.hid (below_nq w nq)
      generalize World.drewN w nq = w5 at Hq ⊢
      have h5 := Hh.out.below Hq.out
      have hbx5 := HBx.out.below Hq.out HBx.out.lt
      have d2 : w5.cell? ⟨g, 2, none⟩ = some (.slice A E.l.length c) := hbx5.cell 2
      have H5 := Lib.hid (And.intro h5 hbx5)
      clear h5 hbx5
      have HW2 := Lib.hid hw2
      clear hw hw2 e1 c1 c2 hle hsl hll
      go_wp2_with (at_builtin; refine wpList_append_hasN rfl (.tmp 32) (.tmp 34) _ rfl 9 tx_elem (by omega) Try.underlying27 rfl (own_belowN H5.out.1.own (below_box (.cells #[.string x] 9))) rfl (Has.lit w5 #[.string x] 9) (fun u hu => by simp at hu; subst hu; rfl) (by have := HN.out; simp only [maxLen]; omega) (by have := HN.out; omega) (by have := HB.out; have := Hq.out.size; simp; omega) ?_; intro v7 w7 o7 g7 z7; obtain ⟨A7, c7, rfl, -, -, -⟩ := own_sliceN o7; have hbA := (H5.out.2.below (below_box (.cells #[.string x] 9)) H5.out.2.lt).grown g7 (fun e => H5.out.1.apart e.symm); have x2 := hbA.cell 2; have f2 := hbA.frozen 2; simp at x2; have h8 := hbA.set_ 2 (.slice A7 (E.l.length + 1) c7); have HF := Lib.hid (rsend_end Hh.out HX.out (Hq.out.trans ((below_box (w := w5) (.cells #[.string x] 9)).mono Hq.out.size)) o7 g7 z7); have H8 := Lib.hid h8; clear h8 hbA o7 g7 z7)
      have HQ := Lib.hid (below_nq (w7.setCell ⟨g, 2, none⟩ (.slice A7 (E.l.length + 1) c7)))
      have hb9 : Box (w7.setCell ⟨g, 2, none⟩ (.slice A7 (E.l.length + 1) c7)) g 29 #[.int .i64 E.m, .int .i64 D, .slice A7 (E.l.length + 1) c7] := H8.out
      have y1 : (w7.setCell ⟨g, 2, none⟩ (.slice A7 (E.l.length + 1) c7)).cell? ⟨g, 1, none⟩ = some (.int .i64 D) := hb9.cell 1
      have y2 : (w7.setCell ⟨g, 2, none⟩ (.slice A7 (E.l.length + 1) c7)).cell? ⟨g, 2, none⟩ = some (.slice A7 (E.l.length + 1) c7) := hb9.cell 2
      clear hb9 H8 H5 d2 x2 f2 e2 e3
      generalize w7.setCell ⟨g, 2, none⟩ (.slice A7 (E.l.length + 1) c7) = w8 at HF HQ y1 y2 ⊢
      have hw2 := HW2.out
      obtain ⟨N1, hN1⟩ : ∃ N1, E.l.length + 1 = N1 := ⟨_, rfl⟩
      obtain ⟨S1, hS1⟩ : ∃ S1, E.s + 1 = S1 := ⟨_, rfl⟩
      have HS1 := Lib.hid hS1
      rw [hN1] at y2 HF
      rw [hN1, hS1] at hw2
      clear hN1 hS1 HW2
      go_quiet (fail)
      go_wp2
      go_ret2
      exact ⟨_, by rw [HT.out, HS1.out]; rfl, by rw [HT.out]; exact ⟨HF.out.1.below (HQ.out _), HF.out.2.1.trans HF.out.2.2 (KeptE.of (HQ.out _)), HF.out.2.2⟩⟩
end
end Go.Proofs.Ytaljojjpgkmiiaa

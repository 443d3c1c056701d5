/- The document's end: Acked. Condition: the end is in memory. -/
import Derived.Test.YtaljojjpgkmiiaaSesL
namespace Go.Proofs.Ytaljojjpgkmiiaa
open Go.RowKit

/-- the row is where it was, or in new memory, or nowhere -/
def NewW (w : World) (v v' : Value) : Prop := ∀ i, v'.ownBlock = some i → v.ownBlock = some i ∨ w.heap.size ≤ i
section
variable {w w1 w2 : World} {g : Nat} {v v1 v2 : Value}
theorem NewV.toW (h : NewV w v v1) : NewW w v v1 := by
  intro i hi
  rcases h with h | ⟨k, hk, h⟩
  · exact .inl (h ▸ hi)
  · rw [h] at hi
    injection hi with hi
    exact .inr (by omega)
theorem NewW.refl (w : World) (v : Value) : NewW w v v := fun _ h => .inl h
theorem NewW.trans (h : NewW w v v1) (hs : w.heap.size ≤ w1.heap.size) (k : NewW w1 v1 v2) : NewW w v v2 := by
  intro i hi
  rcases k i hi with h1 | h1
  · exact h i h1
  · exact .inr (Nat.le_trans hs h1)
theorem KeptE.transW (h : KeptE g v w w1) (hv : NewW w v v1) (k : KeptE g v1 w1 w2) : KeptE g v w w2 :=
  ⟨k.os.trans h.os, k.tape.trans h.tape, k.output.trans h.output, Nat.le_trans h.size k.size, fun i hi h1 h2 => (k.block i (Nat.lt_of_lt_of_le hi h.size) h1 fun e => by
    rcases hv i e with hv | hv
    · exact h2 hv
    · omega).trans (h.block i hi h1 h2)⟩
end
/-- what the document's Acked leaves -/
def RAckP (B g : Nat) (v : Value) (E : SE) (k : Int) (w : World) (e : Ending) (w' : World) : Prop :=
  ∃ v', e = .returned (.int .i64 (E.acked k).2) ∧ RefAt w' B g v' (E.acked k).1 ∧ KeptE g v w w' ∧ NewW w v v'
section
variable {w : World} {B g : Nat} {v : Value} {E : SE}
theorem rack_end {w5 wA : World} {v7 : Value} {j q : Nat} (h : RefAt w B g v E) (hB : B ≤ w.heap.size) (hj : j ≤ E.l.length) (hq : q = E.s - E.l.length + j) (hb : Below w.heap.size w w5)
    (o7 : wA.ownsRow w5.heap.size 9 1 v7 (E.l.length - j) ((E.l.drop j).map Value.string)) (g7 : w5.grownBy wA none) :
    RefAt ((wA.setCell ⟨g, 2, none⟩ v7).setCell ⟨g, 1, none⟩ (.int .i64 q)) B g v7 ⟨E.m, E.s, E.l.drop j⟩ ∧ KeptE g v w ((wA.setCell ⟨g, 2, none⟩ v7).setCell ⟨g, 1, none⟩ (.int .i64 q)) ∧ NewW w v v7 := by
  have hng : v7.ownBlock ≠ some g := fun e => by
    have := (o7.lt g e).1
    have := h.lt
    have := hb.size
    omega
  have hbA : Box wA g 29 #[.int .i64 E.m, .int .i64 (E.s - E.l.length : Nat), v] := (h.box.below hb h.lt).grown g7 (by simp)
  have hle := h.good.le
  refine ⟨⟨h.gB, ?_, ?_, ?_⟩, ?_, ?_⟩
  · have h8 := (hbA.set_ 2 v7).set_ 1 (.int .i64 q)
    rw [List.length_drop, show E.s - (E.l.length - j) = q from by omega]
    simpa using h8
  · unfold OwnTx
    rw [List.length_drop]
    exact own_baseN (own_set_kept (own_set_kept o7 hng) hng) (Nat.le_trans hB hb.size)
  · refine ⟨h.good.ml, h.good.sl, ?_, ?_, fun y hy => h.good.tx y (List.mem_of_mem_drop hy)⟩
    · have := h.good.ll; simp; omega
    · simp; omega
  · have b7 : Below w5.heap.size w5 wA := ⟨g7.os, g7.tape, g7.output, g7.size, fun i hi => g7.block i hi (by simp)⟩
    exact (((KeptE.of hb).trans (.inl rfl) (KeptE.of b7)).trans (.inl rfl) box_set_kept).trans (.inl rfl) box_set_kept
  · intro i hi
    exact .inr (Nat.le_trans hb.size (o7.lt i hi).1)
set_option maxRecDepth 100000 in
set_option maxHeartbeats 3200000 in
theorem refAcked_any (h : RefAt w B g v E) (hB : B ≤ w.heap.size) (k : Int) : Calls Try.prog 25 #[.pointer (some ⟨g, 0, none⟩), .int .i64 k] w (RAckP B g v E k w) := by
  obtain ⟨D, hD⟩ : ∃ D : Nat, E.s - E.l.length = D := ⟨_, rfl⟩
  have hbx := h.box
  rw [hD] at hbx
  have hle := h.good.le
  have hsl := h.good.sl
  have hll := h.good.ll
  have Hh := Lib.hid h
  have HB := Lib.hid hB
  have HD := Lib.hid hD
  obtain ⟨A, c, rfl, hnc, -, hh⟩ := h.own.slice
  have HBx := Lib.hid hbx
  obtain ⟨N, hN⟩ : ∃ N, E.l.length = N := ⟨_, rfl⟩
  have HN := Lib.hid hN
  obtain ⟨S, hS⟩ : ∃ S, E.s = S := ⟨_, rfl⟩
  have HS := Lib.hid hS
  have HH := Lib.hid hh
  rw [hN] at HBx hnc HH
  rw [hN] at Hh
  rw [hN, hS] at hD hle
  rw [hS] at hsl
  rw [hN] at hll
  have c1 : w.cell? ⟨g, 1, none⟩ = some (.int .i64 D) := HBx.out.cell 1
  have c2 : w.cell? ⟨g, 2, none⟩ = some (.slice A N c) := HBx.out.cell 2
  have hw : IntKind.i64.wrap ((D : Int) + (N : Int)) = (S : Int) := by rw [show (D : Int) + (N : Int) = (S : Int) from by omega]; exact IntWalk.i64_in _ (by omega)
  rw [hN]
  by_cases h1 : k ≤ (D : Int)
  · have ht : E.acked k = (E, 0) := by unfold SE.acked; rw [hN, hS, if_neg fun h => by omega]
    have HT := Lib.hid ht
    have e1 : decide (k ≤ (D : Int)) = true := decide_eq_true h1
    clear h ht hD hbx hN hS hh hle hsl hll hw h1
    go_enter Try.func25, Try.ntmps25
    go_wp2
    go_quiet (fail)
    go_wp2
    go_ret
    exact ⟨_, by rw [HT.out]; rfl, by rw [HT.out]; exact ⟨Hh.out.below (below_nq w _), KeptE.of (below_nq w _), NewW.refl _ _⟩⟩
  · have e1 : decide (k ≤ (D : Int)) = false := decide_eq_false h1
    by_cases h2 : (S : Int) < k
    · have ht : E.acked k = (E, 0) := by unfold SE.acked; rw [hN, hS, if_neg fun h => by omega]
      have HT := Lib.hid ht
      have e2 : decide ((S : Int) < k) = true := decide_eq_true h2
      clear h ht hD hbx hN hS hh hle hsl hll h1 h2
      go_enter Try.func25, Try.ntmps25
      go_wp2
      go_quiet (fail)
      go_wp2
      go_ret
      exact ⟨_, by rw [HT.out]; rfl, by rw [HT.out]; exact ⟨Hh.out.below (below_nq w _), KeptE.of (below_nq w _), NewW.refl _ _⟩⟩
    · obtain ⟨q, rfl⟩ : ∃ q : Nat, k = q := ⟨k.toNat, by omega⟩
      obtain ⟨j, hj⟩ : ∃ j, q - D = j := ⟨_, rfl⟩
      have ht : E.acked (q : Int) = (⟨E.m, E.s, E.l.drop j⟩, j) := by unfold SE.acked; rw [hN, hS, if_pos ⟨by omega, by omega⟩, Int.toNat_natCast, hD, hj]
      have HT := Lib.hid ht
      have e2 : decide (S < q) = false := decide_eq_false (by omega)
      have e3 : decide (q ≤ D) = false := decide_eq_false (by omega)
      have hw1 : IntKind.i64.wrap ((q : Int) - (D : Int)) = (j : Int) := by rw [show (q : Int) - (D : Int) = (j : Int) from by omega]; exact IntWalk.i64_in _ (by omega)
      have hjN : j ≤ N := by omega
      have hj0 : 0 < j := by omega
      obtain ⟨ga, rfl, hga⟩ : ∃ ga, A = some ⟨ga, 0, none⟩ ∧ B ≤ ga := by
        have h9 := Hh.out.own
        unfold OwnTx at h9
        rw [hN] at h9
        exact own_head h9 (by omega)
      have hjc : j ≤ c := by omega
      have Hc : Hid (j ≤ N ∧ 0 < j ∧ N ≤ 256 ∧ N ≤ c ∧ q = D + j) := Lib.hid ⟨hjN, hj0, hll, hnc, by omega⟩
      obtain ⟨A2, hA2, hr2⟩ : ∃ A2 : Option Addr, (if c = j then (some ⟨ga, 0, none⟩ : Option Addr) else some ⟨ga, j, none⟩) = A2 ∧ Has w w.heap.size A2 (N - j) ((E.l.drop j).map Value.string) := by
        refine ⟨_, rfl, ?_⟩
        have h9 := Has.cut HH.out hjN hnc
        simp only [Option.map_some, row_add] at h9
        rw [List.map_drop]
        exact h9
      have Hr2 := Lib.hid hr2
      obtain ⟨M, hM⟩ : ∃ M, N - j = M := ⟨_, rfl⟩
      have HM := Lib.hid hM
      rw [hM] at Hr2
      clear h ht hD hbx hN hS hh hle hsl hll h1 h2 hj hr2 hj0 hnc
      go_enter Try.func25, Try.ntmps25
      go_wp2
      go_quiet (fail)
      have Hq := Lib.hid (below_nq w nq)
      generalize World.drewN w nq = w5 at Hq ⊢
      have hbx5 := HBx.out.below Hq.out HBx.out.lt
      have d1 : w5.cell? ⟨g, 1, none⟩ = some (.int .i64 D) := hbx5.cell 1
      have d2 : w5.cell? ⟨g, 2, none⟩ = some (.slice (some ⟨ga, 0, none⟩) N c) := hbx5.cell 2
      have Hr5 := Lib.hid (Has.below Hr2.out Hq.out)
      have Hs5 := Lib.hid (Nat.le_trans HB.out Hq.out.size)
      have Hb5 := Lib.hid hbx5
      clear hbx5 c1 c2
      go_wp2_with (at_builtin; refine wpList_append_hasN rfl (.tmp 34) (.tmp 40) _ rfl 9 tx_elem (by omega) Try.underlying27 rfl (World.ownsRow_nil w5 w5.heap.size 9 1) rfl (by rw [Nat.mul_one]; exact Hr5.out) (tx_one _) (by have := Hc.out; have := HM.out; simp only [maxLen]; omega) (by have := Hc.out; have := HM.out; omega) (Nat.le_refl _) ?_; intro v7 w7 o7 g7 z7; rw [List.nil_append, Nat.zero_add] at o7; obtain ⟨A7, c7, rfl, -, -, -⟩ := own_sliceN o7; have g8 : w5.grownBy w7 none := g7; have hbA := Hb5.out.grown g8 (by simp); have x2 := hbA.cell 2; have f2 := hbA.frozen 2; have hb8 := hbA.set_ 2 (.slice A7 M c7); have y1 := hb8.cell 1; have g1 := hb8.frozen 1; simp at x2 y1; have HF := Lib.hid (rack_end (q := q) Hh.out HB.out (by rw [HN.out]; exact Hc.out.1) (by have := Hc.out.2.2.2.2; have := HD.out; omega) Hq.out (by rw [HN.out, HM.out]; exact o7) g8); clear g7 z7 o7 g8 hbA hb8)
      go_wp2
      go_ret
      exact ⟨_, by rw [HT.out]; rfl, by rw [HT.out]; exact HF.out⟩
end
end Go.Proofs.Ytaljojjpgkmiiaa

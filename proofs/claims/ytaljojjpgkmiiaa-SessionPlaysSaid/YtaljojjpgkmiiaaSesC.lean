/- Package session: Take and Send. Condition: the end is in memory; a text that fits. -/
import Derived.Test.YtaljojjpgkmiiaaSesA
import Derived.Deep.RegionLaw
namespace Go.Proofs.Ytaljojjpgkmiiaa
open Go.RowKit

section
variable {w : World} {B g : Nat} {v : Value} {E : SE}
theorem EndAt.store0 (h : EndAt w B g v E) (k : Nat) (hk : k ≤ 1099511627776) : EndAt (w.setCell ⟨g, 0, none⟩ (.int .i64 k)) B g v ⟨k, E.s, E.l⟩ ∧ KeptE g v w (w.setCell ⟨g, 0, none⟩ (.int .i64 k)) := by
  have hg : w.grownBy (w.setCell ⟨g, 0, none⟩ (.int .i64 k)) (some g) := ⟨rfl, rfl, rfl, by simp [World.setCell], fun i _ hi => Below.heap_setCell w ⟨g, 0, none⟩ _ i fun e => hi (by rw [e])⟩
  refine ⟨⟨h.gB, by have h8 := h.box.set_ 0 (.int .i64 k); simpa using h8, own_keepN h.own fun i hi => hg.block i (h.own.lt i hi).2 fun e => h.apart (by rw [hi, e]), ?_⟩, KeptE.grown hg (.inl rfl)⟩
  exact ⟨hk, h.good.sl, h.good.ll, h.good.le, h.good.tx⟩
set_option maxRecDepth 100000 in
set_option maxHeartbeats 800000 in
theorem sesTake_any (h : EndAt w B g v E) (k : Int) (x : ByteArray) : Calls Try.prog 22 #[.pointer (some ⟨g, 0, none⟩), .int .i64 k, .string x] w fun e w' =>
    e = .returned (.bool (E.take k).2) ∧ EndAt w' B g v (E.take k).1 ∧ KeptE g v w w' := by
  obtain ⟨c0, -, -, f0, -⟩ := h.cells
  have h1 := h.good.ml
  obtain ⟨M, hM⟩ : ∃ M : Nat, E.m + 1 = M := ⟨_, rfl⟩
  have hw : IntKind.i64.wrap ((E.m : Int) + 1) = (M : Int) := by rw [← hM]; exact IntWalk.i64_in _ (by omega)
  by_cases h2 : k = (E.m : Int) + 1
  · obtain rfl : k = (M : Int) := by omega
    by_cases h3 : M ≤ 1099511627776
    · have ht : E.take (M : Int) = (⟨M, E.s, E.l⟩, true) := by unfold SE.take; rw [if_pos ⟨h2, by omega⟩]; rfl
      rw [ht]
      have Hs := Lib.hid (h.store0 M h3)
      have e2 : ¬ (1099511627776 : Int) < (M : Int) := by omega
      clear h ht h1 h2 h3 hM
      go_enter Try.func22, Try.ntmps22
      go_wp2
      go_ret
      exact ⟨rfl, Hs.out⟩
    · have ht : E.take (M : Int) = (E, false) := by unfold SE.take; rw [if_neg fun h => h3 (by omega)]
      rw [ht]
      have HE : Hid (EndAt w B g v E ∧ KeptE g v w w) := Lib.hid ⟨h, KeptE.of (Below.refl _ _)⟩
      have e2 : (1099511627776 : Int) < (M : Int) := by omega
      clear h ht h1 h2 h3 hM
      go_enter Try.func22, Try.ntmps22
      go_wp2
      go_ret
      exact ⟨rfl, HE.out⟩
  · have ht : E.take k = (E, false) := by unfold SE.take; rw [if_neg fun h => h2 h.1]
    rw [ht]
    have HE : Hid (EndAt w B g v E ∧ KeptE g v w w) := Lib.hid ⟨h, KeptE.of (Below.refl _ _)⟩
    have e1 : (k != (M : Int)) = true := by simp; omega
    clear h ht h1 h2 hM
    go_enter Try.func22, Try.ntmps22
    go_wp2
    go_ret
    exact ⟨rfl, HE.out⟩
end
/-- what Send leaves -/
def SendEP (B g : Nat) (v : Value) (E : SE) (x : ByteArray) (w : World) (e : Ending) (w' : World) : Prop :=
  ∃ v', e = .returned (.tuple #[.int .i64 (E.send x).2.1, .int .i64 (E.send x).2.2]) ∧ EndAt w' B g v' (E.send x).1 ∧ KeptE g v w w' ∧ NewV w v v'
section
variable {w : World} {B g : Nat} {v : Value} {E : SE}
theorem EndAt.store1 (h : EndAt w B g v E) (k : Nat) (hk : k ≤ 1099511627776) (hs : E.s ≤ k) : EndAt (w.setCell ⟨g, 1, none⟩ (.int .i64 k)) B g v ⟨E.m, k, E.l⟩ ∧ KeptE g v w (w.setCell ⟨g, 1, none⟩ (.int .i64 k)) := by
  have hg : w.grownBy (w.setCell ⟨g, 1, none⟩ (.int .i64 k)) (some g) := ⟨rfl, rfl, rfl, by simp [World.setCell], fun i _ hi => Below.heap_setCell w ⟨g, 1, none⟩ _ i fun e => hi (by rw [e])⟩
  refine ⟨⟨h.gB, by have h8 := h.box.set_ 1 (.int .i64 k); simpa using h8, own_keepN h.own fun i hi => hg.block i (h.own.lt i hi).2 fun e => h.apart (by rw [hi, e]), ?_⟩, KeptE.grown hg (.inl rfl)⟩
  exact ⟨h.good.ml, hk, h.good.ll, Nat.le_trans h.good.le hs, h.good.tx⟩
theorem send_end {w1 w5 wA : World} {v7 : Value} {S N : Nat} {x : ByteArray} (hx : ¬ 65536 < x.size ∧ ¬ (256 ≤ E.l.length ∨ 1099511627776 ≤ E.s)) (hle : E.l.length ≤ E.s) (hS : E.s + 1 = S) (hN : E.l.length = N) (h1 : EndAt w1 B g v ⟨E.m, S, E.l⟩ ∧ KeptE g v w w1) (hsz : w1.heap.size = w.heap.size) (hb : Below w1.heap.size w1 w5)
    (o7 : wA.ownsRow B 9 1 v7 (N + 1) (E.l.map Value.string ++ [.string x])) (g7 : w5.grownBy wA v.ownBlock) (z7 : v7.ownBlock = v.ownBlock ∨ v7.ownBlock = some w5.heap.size) (hb9 : Box (wA.setCell ⟨g, 2, none⟩ v7) g 107 #[.int .i64 E.m, .int .i64 S, v7]) :
    EndAt (wA.setCell ⟨g, 2, none⟩ v7) B g v7 ⟨E.m, S, E.l ++ [x]⟩ ∧ KeptE g v w (wA.setCell ⟨g, 2, none⟩ v7) ∧ NewV w v v7 := by
  obtain ⟨h1, k1⟩ := h1
  have hn7 : NewV w v v7 := z7.imp id fun e => ⟨_, by have := hb.size; omega, e⟩
  have hng : v7.ownBlock ≠ some g := by
    rcases z7 with z | z
    · rw [z]; exact h1.apart
    · rw [z]
      intro e
      injection e with e
      have := h1.lt
      have := hb.size
      omega
  have hg9 : wA.grownBy (wA.setCell ⟨g, 2, none⟩ v7) (some g) := ⟨rfl, rfl, rfl, by simp [World.setCell], fun i _ hi => Below.heap_setCell wA ⟨g, 2, none⟩ _ i fun e => hi (by rw [e])⟩
  refine ⟨⟨h1.gB, hb9, ?_, ?_⟩, ?_, hn7⟩
  · unfold OwnTx
    rw [List.length_append, List.length_singleton, hN, List.map_append]
    exact own_keepN o7 fun i hi => hg9.block i (o7.lt i hi).2 fun e => hng (by rw [hi, e])
  · have hg := h1.good
    refine ⟨hg.ml, by show S ≤ _; omega, by simp; omega, by show (E.l ++ [x]).length ≤ S; simp; omega, fun y hy => ?_⟩
    rcases List.mem_append.1 hy with hy | hy
    · exact hg.tx y hy
    · simp at hy; subst hy; omega
  · have k5 : KeptE g v w1 w5 := KeptE.of hb
    have kA : KeptE g v w5 wA := KeptE.grown g7 (.inr rfl)
    have k6 : KeptE g v w wA := (k1.trans (.inl rfl) k5).trans (.inl rfl) kA
    exact k6.trans (.inl rfl) (KeptE.grown hg9 (.inl rfl))
set_option maxRecDepth 100000 in
set_option maxHeartbeats 3200000 in
theorem sesSend_any (h : EndAt w B g v E) (hB : B ≤ w.heap.size) (x : ByteArray) : Calls Try.prog 17 #[.pointer (some ⟨g, 0, none⟩), .string x] w (SendEP B g v E x w) := by
  obtain ⟨c0, c1, c2, f0, f1, f2⟩ := h.cells
  obtain ⟨A, c, rfl, -⟩ := h.own.slice
  by_cases hx : 65536 < x.size
  · have ht : E.send x = (E, 0, 4) := if_pos hx
    have HT := Lib.hid ht
    have HE : Hid (EndAt w B g (.slice A E.l.length c) E ∧ KeptE g (.slice A E.l.length c) w w ∧ NewV w (.slice A E.l.length c) (.slice A E.l.length c)) := Lib.hid ⟨h, KeptE.of (Below.refl _ _), .inl rfl⟩
    have e1 : (65536 : Int) < (x.size : Int) := by omega
    clear h ht hx
    go_enter Try.func17, Try.ntmps17
    go_wp2
    go_ret2
    exact ⟨_, by rw [HT.out]; rfl, by rw [HT.out]; exact HE.out⟩
  · have e1 : ¬ (65536 : Int) < (x.size : Int) := by omega
    by_cases h2 : 256 ≤ E.l.length ∨ 1099511627776 ≤ E.s
    · have ht : E.send x = (E, 0, 17) := by unfold SE.send; rw [if_neg hx, if_pos h2]
      have HT := Lib.hid ht
      have HE : Hid (EndAt w B g (.slice A E.l.length c) E ∧ KeptE g (.slice A E.l.length c) w w ∧ NewV w (.slice A E.l.length c) (.slice A E.l.length c)) := Lib.hid ⟨h, KeptE.of (Below.refl _ _), .inl rfl⟩
      by_cases h3 : 256 ≤ E.l.length
      · have e2 : (256 : Int) ≤ (E.l.length : Int) := by omega
        clear h ht hx h2 h3
        go_enter Try.func17, Try.ntmps17
        go_wp2
        go_ret2
        exact ⟨_, by rw [HT.out]; rfl, by rw [HT.out]; exact HE.out⟩
      · have e2 : ¬ (256 : Int) ≤ (E.l.length : Int) := by omega
        have e3 : (1099511627776 : Int) ≤ (E.s : Int) := by omega
        clear h ht hx h2 h3
        go_enter Try.func17, Try.ntmps17
        go_wp2
        go_ret2
        exact ⟨_, by rw [HT.out]; rfl, by rw [HT.out]; exact HE.out⟩
    · have ht : E.send x = (⟨E.m, E.s + 1, E.l ++ [x]⟩, E.s + 1, 0) := by unfold SE.send; rw [if_neg hx, if_neg h2]
      have HT := Lib.hid ht
      have e2 : ¬ (256 : Int) ≤ (E.l.length : Int) := by omega
      have e3 : ¬ (1099511627776 : Int) ≤ (E.s : Int) := by omega
      obtain ⟨S, hS⟩ : ∃ S : Nat, E.s + 1 = S := ⟨_, rfl⟩
      have hw : IntKind.i64.wrap ((E.s : Int) + 1) = (S : Int) := by rw [← hS]; exact IntWalk.i64_in _ (by omega)
      obtain ⟨w1, hw1⟩ : ∃ w1, w.setCell ⟨g, 1, none⟩ (.int .i64 (S : Int)) = w1 := ⟨_, rfl⟩
      have Hs1 := Lib.hid (h.store1 S (by omega) (by omega))
      rw [hw1] at Hs1
      have Hsz : Hid (w1.heap.size = w.heap.size) := Lib.hid (by rw [← hw1]; simp)
      have HX := Lib.hid (And.intro hx h2)
      have HS := Lib.hid hS
      have HLe := Lib.hid h.good.le
      obtain ⟨N, hN⟩ : ∃ N, E.l.length = N := ⟨_, rfl⟩
      have HN := Lib.hid hN
      have Ho : Hid (w1.ownsRow B 9 1 (.slice A N c) N (E.l.map Value.string)) := Lib.hid (by rw [← hN]; exact Hs1.out.1.own)
      have HB1 : Hid (Box w1 g 107 #[.int .i64 E.m, .int .i64 (S : Int), .slice A N c]) := Lib.hid (by rw [← hN]; exact Hs1.out.1.box)
      have hN256 : N ≤ 256 := by omega
      rw [hN] at e2 c2 Hs1
      have hgw : g < w1.heap.size := HB1.out.lt
      have hB1 : B ≤ w1.heap.size := by rw [Hsz.out]; exact hB
      have d2 : w1.cell? ⟨g, 2, none⟩ = some (.slice A N c) := HB1.out.cell 2
      have hxs : x.size ≤ 140737488355328 := by omega
      have hng : (Value.slice A N c).ownBlock ≠ some g := Hs1.out.1.apart
      clear h ht hx h2 hS hN hB
      go_enter Try.func17, Try.ntmps17
      go_wp2
      go_region_law (first
        | (go_simp; refine (clone_any x _ hxs).mono ?_; rintro e w3 ⟨rfl, b3⟩; have hb3 : Below w1.heap.size w1 w3 := (Below.refl w1.heap.size w1).drew.trans b3; have c3 : w3.cell? ⟨g, 2, none⟩ = some (.slice A N c) := (HB1.out.below hb3 hgw).cell 2; have hb5 : Below w1.heap.size w1 (w3.alloc (Obj.cells #[.string x] 9)) := hb3.alloc hb3.size _; have c5 : (w3.alloc (Obj.cells #[.string x] 9)).cell? ⟨g, 2, none⟩ = some (.slice A N c) := (HB1.out.below hb5 hgw).cell 2)
        | (refine step_append_hasN (by rfl) _ _ _ (by rfl) 9 tx_elem (by omega) Try.underlying27 (by rfl) (own_belowN Ho.out hb5) (by rfl) (Has.lit w3 #[.string x] 9) (fun u hu => by simp at hu; subst hu; rfl) (by simp only [maxLen]; omega) (by omega) (Nat.le_trans hB1 hb5.size) ?_; intro vA wA oA gA zA; obtain ⟨AA, cA, rfl, -, -, -⟩ := own_sliceN oA; have hBA : Box wA g 107 #[.int .i64 E.m, .int .i64 (S : Int), .slice A N c] := (HB1.out.below hb5 hgw).grown gA (fun e => hng e.symm); have c7 := hBA.cell 2; have f7 := hBA.frozen 2; simp at c7))
      all_goals
        have hBA : Box wA g 107 #[.int .i64 E.m, .int .i64 (S : Int), .slice A N c] := (HB1.out.below hb5 hgw).grown gA (fun e => hng e.symm)
        have hb9 : Box (wA.setCell ⟨g, 2, none⟩ (.slice AA (N + 1) cA)) g 107 #[.int .i64 E.m, .int .i64 (S : Int), .slice AA (N + 1) cA] := by have h8 := hBA.set_ 2 (.slice AA (N + 1) cA); simpa using h8
        have c8 : (wA.setCell ⟨g, 2, none⟩ (.slice AA (N + 1) cA)).cell? ⟨g, 1, none⟩ = some (.int .i64 (S : Int)) := hb9.cell 1
        have HF := Lib.hid (send_end HX.out HLe.out HS.out HN.out Hs1.out Hsz.out hb5 oA gA zA hb9)
        clear e2 e3 hw hw1 hN256 hxs hb3 c3 c5 c7 f7 d2 hBA hb9 oA gA zA hb5 b3
        generalize wA.setCell ⟨g, 2, none⟩ (.slice AA (N + 1) cA) = W9 at c8 HF ⊢
        go_wp2
        go_ret2
        exact ⟨_, by rw [HT.out, HS.out]; rfl, by rw [HT.out, HS.out, HN.out]; exact HF.out⟩
end
end Go.Proofs.Ytaljojjpgkmiiaa

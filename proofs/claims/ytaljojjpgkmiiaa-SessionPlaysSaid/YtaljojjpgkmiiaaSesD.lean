/- Package session: Acked. Condition: the end is in memory. -/
import Derived.Test.YtaljojjpgkmiiaaSesB
import Derived.Test.YtaljojjpgkmiiaaSesC
namespace Go.Proofs.Ytaljojjpgkmiiaa
open Go.RowKit

/-- what Acked leaves -/
def AckP (B g : Nat) (v : Value) (E : SE) (k : Int) (w : World) (e : Ending) (w' : World) : Prop :=
  ∃ v', e = .returned (.int .i64 (E.acked k).2) ∧ EndAt w' B g v' (E.acked k).1 ∧ KeptE g v w w' ∧ NewV w v v'
section
variable {w : World} {B g : Nat} {v : Value} {E : SE}
theorem EndAt.store2 {w2 : World} {v' : Value} {l : List ByteArray} (h : EndAt w B g v E) (hg : w.grownBy w2 v.ownBlock) (o : OwnTx w2 B v' l) (hv : v'.ownBlock = v.ownBlock) (gd : SE.Good ⟨E.m, E.s, l⟩) :
    EndAt (w2.setCell ⟨g, 2, none⟩ v') B g v' ⟨E.m, E.s, l⟩ ∧ KeptE g v w (w2.setCell ⟨g, 2, none⟩ v') ∧ NewV w v v' := by
  have hg9 : w2.grownBy (w2.setCell ⟨g, 2, none⟩ v') (some g) := ⟨rfl, rfl, rfl, by simp [World.setCell], fun i _ hi => Below.heap_setCell w2 ⟨g, 2, none⟩ _ i fun e => hi (by rw [e])⟩
  have hb2 := h.box.grown hg (fun e => h.apart e.symm)
  refine ⟨⟨h.gB, by have h8 := hb2.set_ 2 v'; simpa using h8, own_keepN o fun i hi => hg9.block i (o.lt i hi).2 fun e => h.apart (by rw [← hv, hi, e]), gd⟩, ?_, .inl hv⟩
  exact (KeptE.grown hg (.inr rfl)).trans (.inl rfl) (KeptE.grown hg9 (.inl rfl))
set_option maxRecDepth 100000 in
set_option maxHeartbeats 3200000 in
theorem sesAcked_any (h : EndAt w B g v E) (k : Int) : Calls Try.prog 24 #[.pointer (some ⟨g, 0, none⟩), .int .i64 k] w (AckP B g v E k w) := by
  have Hbr := Lib.hid (brought_any h)
  obtain ⟨D, hD⟩ : ∃ D : Nat, E.s - E.l.length = D := ⟨_, rfl⟩
  have hDi : (E.s : Int) - (E.l.length : Int) = (D : Int) := by have := h.good.le; omega
  rw [hDi] at Hbr
  have HD := Lib.hid hD
  have HDi := Lib.hid hDi
  have hsl := h.good.sl
  obtain ⟨A, c, rfl, hnc, -⟩ := h.own.slice
  obtain ⟨N, hN⟩ : ∃ N, E.l.length = N := ⟨_, rfl⟩
  have HN := Lib.hid hN
  rw [hN] at h hnc ⊢
  have HE : Hid (∀ wx, Below w.heap.size w wx → EndAt wx B g (.slice A N c) E ∧ KeptE g (.slice A N c) w wx) := Lib.hid fun wx hx => ⟨h.below hx, KeptE.of hx⟩
  have Hgd := Lib.hid h.good
  by_cases h1 : k ≤ (D : Int)
  · have ht : E.acked k = (E, 0) := by unfold SE.acked; rw [if_neg fun h => by omega]
    have HT := Lib.hid ht
    clear h ht hD hDi hN hnc hsl
    go_enter Try.func24, Try.ntmps24
    go_wp2_with fail
    refine Hbr.out.mono ?_
    rintro e w1 ⟨rfl, b1⟩
    have H1 := Lib.hid (HE.out w1 b1)
    clear b1
    go_wp2
    go_ret
    exact ⟨_, by rw [HT.out]; rfl, by rw [HT.out]; exact ⟨H1.out.1, H1.out.2, .inl rfl⟩⟩
  · by_cases h2 : (E.s : Int) < k
    · have ht : E.acked k = (E, 0) := by unfold SE.acked; rw [if_neg fun h => by omega]
      have HT := Lib.hid ht
      clear h ht hD hDi hN hnc hsl
      go_enter Try.func24, Try.ntmps24
      go_wp2_with fail
      refine Hbr.out.mono ?_
      rintro e w1 ⟨rfl, b1⟩
      have H1 := Lib.hid (HE.out w1 b1)
      have c1 : w1.cell? ⟨g, 1, none⟩ = some (.int .i64 E.s) := H1.out.1.cells.2.1
      clear b1
      go_wp2
      go_ret
      exact ⟨_, by rw [HT.out]; rfl, by rw [HT.out]; exact ⟨H1.out.1, H1.out.2, .inl rfl⟩⟩
    · obtain ⟨q, rfl⟩ : ∃ q : Nat, k = q := ⟨k.toNat, by omega⟩
      obtain ⟨j, hj⟩ : ∃ j, q - D = j := ⟨_, rfl⟩
      have ht : E.acked (q : Int) = (⟨E.m, E.s, E.l.drop j⟩, j) := by unfold SE.acked; rw [if_pos ⟨by omega, by omega⟩, Int.toNat_natCast, hD, hj]
      have HT := Lib.hid ht
      have hw : IntKind.i64.wrap ((q : Int) - (D : Int)) = (j : Int) := by rw [show (q : Int) - (D : Int) = (j : Int) from by omega]; exact IntWalk.i64_in _ (by omega)
      have hgood : SE.Good ⟨E.m, E.s, E.l.drop j⟩ := by have h9 := h.good.acked (q : Int); rw [ht] at h9; exact h9
      have Hgood := Lib.hid hgood
      have hjN : j ≤ N := by have := h.good.le; omega
      have hj0 : 0 < j := by omega
      obtain ⟨ga, rfl, hga⟩ : ∃ ga, A = some ⟨ga, 0, none⟩ ∧ B ≤ ga := by
        have h9 := h.own
        unfold OwnTx at h9
        rw [hN] at h9
        exact own_head h9 (by omega)
      have HDl : Hid (∀ wx, Below w.heap.size w wx → Calls Try.prog 63 #[.slice (some ⟨ga, 0, none⟩) N c, .int .i64 0, .int .i64 (j : Int)] wx fun e w' => e = .returned (.slice (some ⟨ga, 0, none⟩) (N - j : Nat) c) ∧ w'.ownsRow B 9 1 (.slice (some ⟨ga, 0, none⟩) (N - j : Nat) c) (N - j) ((E.l.drop j).map Value.string) ∧ wx.grownBy w' (some ga)) := Lib.hid fun wx hx => delS_any E.l j N c ga B wx (by have h9 := (h.below hx).own; unfold OwnTx at h9; rwa [hN] at h9) hjN hj0 (by have := h.good.ll; omega) hnc
      have Hc : Hid (j ≤ N ∧ 0 < j) := Lib.hid ⟨hjN, hj0⟩
      have Hap : Hid (ga ≠ g) := Lib.hid fun e => h.apart (by rw [e]; rfl)
      clear h ht hD hDi hN hnc hsl hgood hjN hj0 hj
      go_enter Try.func24, Try.ntmps24
      go_wp2_with fail
      refine Hbr.out.mono ?_
      rintro e w1 ⟨rfl, b1⟩
      have H1 := Lib.hid (HE.out w1 b1)
      have HD1 := Lib.hid (HDl.out w1 b1)
      have c1 : w1.cell? ⟨g, 1, none⟩ = some (.int .i64 E.s) := H1.out.1.cells.2.1
      have c2 : w1.cell? ⟨g, 2, none⟩ = some (.slice (some ⟨ga, 0, none⟩) N c) := H1.out.1.cells.2.2.1
      clear b1 HDl
      go_wp2_with fail
      refine HD1.out.mono ?_
      rintro e w2 ⟨rfl, o2, g2⟩
      have hb2 := H1.out.1.box.grown g2 (fun e => by injection e with e; exact Hap.out e.symm)
      have d2 := hb2.cell 2
      have f2 := hb2.frozen 2
      simp at d2
      obtain ⟨M, hM⟩ : ∃ M, N - j = M := ⟨_, rfl⟩
      rw [hM] at o2 ⊢
      have Ho2 : Hid (OwnTx w2 B (.slice (some ⟨ga, 0, none⟩) M c) (E.l.drop j)) := Lib.hid (by unfold OwnTx; rw [List.length_drop, HN.out, hM]; exact o2)
      have HF := Lib.hid (H1.out.1.store2 g2 Ho2.out rfl Hgood.out)
      clear c1 c2 g2 o2 hb2 hM
      go_wp2
      go_ret
      exact ⟨_, by rw [HT.out]; rfl, by rw [HT.out]; exact ⟨HF.out.1, H1.out.2.trans (.inl rfl) HF.out.2.1, .inl rfl⟩⟩
end
end Go.Proofs.Ytaljojjpgkmiiaa

/- What atlas's plans make of a right map's parts: Move's. Condition: the parts are a row of the call's own. -/
import Derived.Test.YtefagaiaflddaaaHowB
namespace Go.Proofs.Ytefagaiaflddaaa
open Go.RowKit
open Go.Lib (strCells compareBytes)

theorem ptCells_setN : ∀ (l : List Pt) (i : Nat) (p : Pt) (n : Int), l[i]? = some p → ptCells (l.set i ⟨p.lo, n⟩) = (ptCells l).set (i * 2 + 1) (.int .i64 n)
  | [], i, p, n, h => by simp at h
  | d :: l, 0, p, n, h => by
    simp at h
    subst h
    rfl
  | d :: l, i + 1, p, n, h => by
    have ih := ptCells_setN l i p n (by simpa using h)
    rw [show (i + 1) * 2 + 1 = i * 2 + 1 + 1 + 1 from by omega]
    simp only [List.set_cons_succ, ptCells, ih]
theorem ptCells_setL : ∀ (l : List Pt) (i : Nat) (p : Pt), l[i]? = some p → (ptCells l).set (i * 2) (.string p.lo) = ptCells l
  | [], i, p, h => by simp at h
  | d :: l, 0, p, h => by
    simp at h
    subst h
    rfl
  | d :: l, i + 1, p, h => by
    have ih := ptCells_setL l i p (by simpa using h)
    rw [show (i + 1) * 2 = i * 2 + 1 + 1 from by omega]
    simp only [List.set_cons_succ, ptCells, ih]
set_option maxRecDepth 100000 in
set_option maxHeartbeats 3200000 in
theorem howMove_any (B bx by_ : Nat) (v : Value) (l : List Pt) (s : ByteArray) (node : Int) (w : World) (h : OwnPts w B v l) (hB : B ≤ w.heap.size) (hr : RightP l) (hbx : Box w bx 9 #[.string s]) (hby : Box w by_ 3 #[.int .i64 node]) :
    Calls Try.prog 41 #[v, .pointer (some ⟨bx, 0, none⟩), .pointer (some ⟨by_, 0, none⟩)] w (HowPost (moveP l s node) B w) := by
  obtain ⟨A, c, rfl, hnc, hcm, hx⟩ := h.slice
  obtain ⟨r, hre⟩ : ∃ r, moveP l s node = r := ⟨_, rfl⟩
  rw [hre]
  have Hre := Lib.hid hre
  obtain ⟨n, hn⟩ : ∃ n, l.length = n := ⟨_, rfl⟩
  have Hn := Lib.hid hn
  have hn8 : n ≤ 8 := by rw [← hn]; exact hr.most
  obtain ⟨i, hie⟩ : ∃ i, holdN l s.data.toList = i := ⟨_, rfl⟩
  have Hie := Lib.hid hie
  have hil : i < n := by rw [← hie, ← hn]; exact hold_lt (hold_is hr _)
  have Hh := Lib.hid (holder_any A l.length c _ l s w hx (Nat.le_refl _) hr)
  have HO := Lib.hid h
  have HX := Lib.hid hx
  have HB := Lib.hid (And.intro hbx hby)
  rw [hn] at Hh HO HX hnc ⊢
  rw [hie] at Hh
  have c0 : w.cell? ⟨bx, 0, none⟩ = some (.string s) := hbx.cell 0
  have Hnd := Lib.hid (fun wx => isNode_any node wx)
  clear h hr hbx hby hx hre hn hie
  go_enter Try.func41, Try.ntmps41
  go_wp2_with fail
  refine Hh.out.mono ?_
  rintro e w1 ⟨rfl, hb1⟩
  have Hb1 := Lib.hid hb1
  have hs1 : w.heap.size ≤ w1.heap.size := hb1.size
  obtain ⟨a, p, rfl, hab, hp, d0, d1⟩ := (HX.out.belowOf hb1 (Nat.le_refl _)).at_ hil
  have Hp : Hid (l[i]? = some p) := Lib.hid hp
  have Hpt : Hid (ptAt l i = p) := Lib.hid (ptAt_of hp)
  obtain ⟨plo, pn⟩ := p
  simp only at d0 d1
  have c2 : w1.cell? ⟨by_, 0, none⟩ = some (.int .i64 node) := (HB.out.2.below hb1 HB.out.2.lt).cell 0
  have hi0 : (0 : Int) ≤ (i : Int) := by omega
  have hi1 : (i : Int) < (n : Int) := by omega
  clear hp hab c0 Hh d0 hb1
  by_cases h14 : 1 ≤ node ∧ node ≤ 4
  · rw [decide_eq_true h14] at Hnd
    by_cases he : pn = node
    · have hdn : (pn == node) = true := by simpa using he
      have E : Hid (r = none) := Lib.hid (by rw [← Hre.out]; unfold moveP; rw [Hie.out, Hpt.out]; exact if_pos (.inr he))
      clear he
      go_wp2
      go_quiet (first | (go_at_call 31; refine quietN (Hnd.out _)))
      go_wp2
      go_ret2
      exact ⟨below_dr (Hb1.out.mono hB) _, .inl ⟨E.out, rfl⟩⟩
    · have hdn : (pn == node) = false := by simpa using he
      have E : Hid (r = some (l.set i ⟨plo, node⟩)) := Lib.hid (by
        rw [← Hre.out]
        unfold moveP
        rw [Hie.out, Hpt.out, if_neg]
        rintro (h1 | h1)
        · exact h1 h14
        · exact he h1)
      clear he
      go_wp2
      go_quiet (first | (go_at_call 31; refine quietN (Hnd.out _)))
      generalize hw2 : w1.drewN _ = w2 at *
      have hbq : Below w1.heap.size w1 w2 := by rw [← hw2]; exact below_dr (Below.refl _ _) _
      have Hb2 : Hid (Below w.heap.size w w2) := Lib.hid (Hb1.out.trans (hbq.mono hs1))
      have hs2 : w.heap.size ≤ w2.heap.size := Hb2.out.size
      have hO2 : w2.ownsRow B 46 2 (.slice (some a) n c) n (ptCells l) := by have h1 := HO.out.below Hb2.out; unfold OwnPts at h1; rwa [Hn.out] at h1
      obtain ⟨g, eg, -⟩ := own_head hO2 (by omega)
      injection eg with eg
      subst eg
      have z2 : w2.cell? ⟨by_, 0, none⟩ = some (.int .i64 node) := (HB.out.2.below Hb2.out HB.out.2.lt).cell 0
      have y1 : w2.cell? ⟨g, i * 2 + 1, none⟩ = some (.int .i64 pn) := (hO2.cellAt (i * 2 + 1) (by omega)).trans (ptCells_at l i _ Hp.out).2
      have f1 : w2.frozen? ⟨g, i * 2 + 1, none⟩ = false := hO2.frozenAt _
      have hst := hO2.stored (i * 2 + 1) (.int .i64 node)
      rw [← ptCells_setN l i _ node Hp.out] at hst
      have HE : Hid (Below B w (w2.setCell ⟨g, i * 2 + 1, none⟩ (.int .i64 node)) ∧ OwnPts (w2.setCell ⟨g, i * 2 + 1, none⟩ (.int .i64 node)) B (.slice (some ⟨g, 0, none⟩) n c) (l.set i ⟨plo, node⟩)) := Lib.hid ⟨(Hb2.out.mono hB).trans (grown_below (HO.out.below Hb2.out) (Nat.le_trans hB hs2) hst.2), by
        unfold OwnPts
        rw [List.length_set, Hn.out]
        exact hst.1⟩
      clear hw2 hbq c2 d1 hO2 hst
      go_wp2
      go_ret2
      exact ⟨HE.out.1, .inr ⟨_, _, E.out, rfl, HE.out.2⟩⟩
  · rw [decide_eq_false h14] at Hnd
    have E : Hid (r = none) := Lib.hid (by rw [← Hre.out]; unfold moveP; exact if_pos (.inl h14))
    go_wp2
    go_quiet (first | (go_at_call 31; refine quietN (Hnd.out _)))
    go_wp2
    go_ret2
    exact ⟨below_dr (Hb1.out.mono hB) _, .inl ⟨E.out, rfl⟩⟩
end Go.Proofs.Ytefagaiaflddaaa

/- What atlas's plans make of a right map's parts: Merge's and Move's. Condition: the parts are a row of the call's own. -/
import Derived.Test.YtefagaiaflddaaaHowA
namespace Go.Proofs.Ytefagaiaflddaaa
open Go.RowKit
open Go.Lib (strCells compareBytes)

theorem erase_two (l : List Pt) (i : Nat) : l.eraseIdx i = l.take i ++ l.drop (i + 1) := List.eraseIdx_eq_take_drop_succ ..
set_option maxRecDepth 100000 in
set_option maxHeartbeats 3200000 in
theorem howMerge_any (B bx : Nat) (v : Value) (l : List Pt) (s : ByteArray) (w : World) (h : OwnPts w B v l) (hB : B ≤ w.heap.size) (hr : RightP l) (hbx : Box w bx 9 #[.string s]) :
    Calls Try.prog 39 #[v, .pointer (some ⟨bx, 0, none⟩)] w (HowPost (mergeP l s) B w) := by
  obtain ⟨A, c, rfl, hnc, hcm, hx⟩ := h.slice
  obtain ⟨r, hre⟩ : ∃ r, mergeP l s = r := ⟨_, rfl⟩
  rw [hre]
  have Hre := Lib.hid hre
  obtain ⟨n, hn⟩ : ∃ n, l.length = n := ⟨_, rfl⟩
  have Hn := Lib.hid hn
  have hn8 : n ≤ 8 := by rw [← hn]; exact hr.most
  obtain ⟨i, hie⟩ : ∃ i, holdN l s.data.toList = i := ⟨_, rfl⟩
  have Hie := Lib.hid hie
  have hil : i < n := by rw [← hie, ← hn]; exact hold_lt (hold_is hr _)
  have Hh := Lib.hid (holder_any A l.length c _ l s w hx (Nat.le_refl _) hr)
  have HO := Lib.hid h
  have HX := Lib.hid hx
  have HB := Lib.hid hbx
  rw [hn] at Hh HO HX hnc ⊢
  rw [hie] at Hh
  have c0 : w.cell? ⟨bx, 0, none⟩ = some (.string s) := hbx.cell 0
  clear h hr hbx hx hre hn hie
  go_enter Try.func39, Try.ntmps39
  go_wp2_with fail
  refine Hh.out.mono ?_
  rintro e w1 ⟨rfl, hb1⟩
  have Hb1 := Lib.hid hb1
  have hs1 : w.heap.size ≤ w1.heap.size := hb1.size
  obtain ⟨a, p, rfl, hab, hp, d0, d1⟩ := (HX.out.belowOf hb1 (Nat.le_refl _)).at_ hil
  have Hp : Hid (ptAt l i = p) := Lib.hid (ptAt_of hp)
  obtain ⟨plo, pn⟩ := p
  simp only at d0 d1
  have c1 : w1.cell? ⟨bx, 0, none⟩ = some (.string s) := (HB.out.below hb1 HB.out.lt).cell 0
  have hi0 : (0 : Int) ≤ (i : Int) := by omega
  have hi1 : (i : Int) < (n : Int) := by omega
  clear hp hab c0 Hh
  by_cases hi00 : i = 0
  · have hd0 : ((i : Int) == 0) = true := by rw [hi00]; rfl
    have E : Hid (r = none) := Lib.hid (by rw [← Hre.out]; unfold mergeP; rw [Hie.out]; exact if_pos (.inl hi00))
    clear hi00 hb1
    go_wp2
    go_quiet (fail)
    go_wp2
    go_ret2
    exact ⟨below_dr (Hb1.out.mono hB) _, .inl ⟨E.out, rfl⟩⟩
  · have hd0 : ((i : Int) == 0) = false := by
      have : ¬ ((i : Int) = 0) := by omega
      simpa using this
    obtain ⟨j, hj⟩ : ∃ j, i - 1 = j := ⟨_, rfl⟩
    obtain ⟨a', q, ea, -, hq, -, e1⟩ := (HX.out.belowOf hb1 (Nat.le_refl _)).at_ (i := j) (by omega)
    injection ea with ea
    subst ea
    have Hq : Hid (ptAt l (i - 1) = q) := Lib.hid (by rw [hj]; exact ptAt_of hq)
    obtain ⟨qlo, qn⟩ := q
    simp only at e1
    have hkj : (i : Int) - 1 = (j : Int) := by omega
    have hwj : IntKind.i64.wrap ((i : Int) - 1) = (j : Int) := by rw [hkj]; exact IntWalk.i64_in _ (by omega)
    have hwj2 : IntKind.i64.wrap (j : Int) = (j : Int) := IntWalk.i64_in _ (by omega)
    have hj0 : (0 : Int) ≤ (j : Int) := by omega
    have hj1 : (j : Int) < (n : Int) := by omega
    have Hi0 := Lib.hid hi00
    clear hq hj hb1 hi00
    by_cases he : plo = s
    · have hd := text_eq plo s
      rw [decide_eq_true he] at hd
      have hd3 : (plo.toList != s.toList) = false := by rw [bne, hd]; rfl
      have Hpl : Hid ((⟨plo, pn⟩ : Pt).lb = s.data.toList) := Lib.hid (by unfold Pt.lb; rw [he])
      clear he
      by_cases hnn : pn = qn
      · have hdn : (pn != qn) = false := by rw [hnn]; simp
        have hdn2 : (pn == qn) = true := by rw [hnn]; simp
        have E : Hid (r = some (l.eraseIdx i)) := Lib.hid (by
          rw [← Hre.out]
          unfold mergeP
          rw [Hie.out, Hp.out, Hq.out, if_neg, erase_two]
          rintro (h1 | h1 | h1)
          · exact Hi0.out h1
          · exact h1 Hpl.out
          · exact h1 hnn)
        clear hnn
        go_wp2
        go_quiet (fail)
        generalize hw2 : w1.drewN _ = w2 at *
        have hbq : Below w1.heap.size w1 w2 := by rw [← hw2]; exact below_dr (Below.refl _ _) _
        have Hb2 : Hid (Below w.heap.size w w2) := Lib.hid (Hb1.out.trans (hbq.mono hs1))
        have hs2 : w.heap.size ≤ w2.heap.size := Hb2.out.size
        have hO2 : OwnPts w2 B (.slice (some a) n c) l := HO.out.below Hb2.out
        obtain ⟨g, eg, -⟩ := own_head (m := n) (size := 2) (e := 46) (by have h1 := hO2; unfold OwnPts at h1; rw [Hn.out] at h1; exact h1) (by omega)
        injection eg with eg
        subst eg
        have HD := Lib.hid (delP_any l i (i + 1) n c g B w2 (by have h1 := hO2; unfold OwnPts at h1; rw [Hn.out] at h1; exact h1) hil rfl (by omega) hnc)
        have hi2 : ((i + 1 : Nat) : Int) = (i : Int) + 1 := by omega
        rw [hi2] at HD
        have hwi : IntKind.i64.wrap ((i : Int) + 1) = (i : Int) + 1 := IntWalk.i64_in _ (by omega)
        have HO2 := Lib.hid hO2
        clear hw2 hbq c1 d0 d1 hi2 hO2 e1
        go_wp2_with fail
        refine HD.out.mono ?_
        rintro e' w4 ⟨rfl, o4, g4⟩
        have HE : Hid (Below B w w4 ∧ OwnPts w4 B (.slice (some ⟨g, 0, none⟩) (n - 1) c) (l.eraseIdx i)) := Lib.hid ⟨(Hb2.out.mono hB).trans (grown_below HO2.out (Nat.le_trans hB hs2) g4), by
          unfold OwnPts
          have hl : (l.eraseIdx i).length = n - 1 := by rw [List.length_eraseIdx, if_pos (by rw [Hn.out]; exact hil), Hn.out]
          rw [hl]
          exact o4⟩
        clear o4 g4
        go_wp2
        go_ret2
        exact ⟨HE.out.1, .inr ⟨_, _, E.out, rfl, HE.out.2⟩⟩
      · have hdn : (pn != qn) = true := by simpa using hnn
        have hdn2 : (pn == qn) = false := by simpa using hnn
        have E : Hid (r = none) := Lib.hid (by rw [← Hre.out]; unfold mergeP; rw [Hie.out, Hp.out, Hq.out]; exact if_pos (.inr (.inr hnn)))
        clear hnn
        go_wp2
        go_quiet (fail)
        go_wp2
        go_ret2
        exact ⟨below_dr (Hb1.out.mono hB) _, .inl ⟨E.out, rfl⟩⟩
    · have hd := text_eq plo s
      rw [decide_eq_false he] at hd
      have hd3 : (plo.toList != s.toList) = true := by rw [bne, hd]; rfl
      have E : Hid (r = none) := Lib.hid (by rw [← Hre.out]; unfold mergeP; rw [Hie.out, Hp.out]; exact if_pos (.inr (.inl fun h => he (bytes_ext h))))
      clear he
      go_wp2
      go_quiet (fail)
      go_wp2
      go_ret2
      exact ⟨below_dr (Hb1.out.mono hB) _, .inl ⟨E.out, rfl⟩⟩
end Go.Proofs.Ytefagaiaflddaaa

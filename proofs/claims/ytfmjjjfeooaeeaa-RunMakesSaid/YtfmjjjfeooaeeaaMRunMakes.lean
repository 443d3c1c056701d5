/- RunMakes: the run of any changes, and whether a list is one, are as the document says. No condition. -/
import Derived.Test.YtfmjjjfeooaeeaaRawB
import Derived.Test.YtfmjjjfeooaeeaaMSrtD
import Derived.Test.YtfmjjjfeooaeeaaOpenChs
namespace Go.Proofs.Ytfmjjjfeooaeeaa
open Go.RowKit
open Go.Lib (strCells compareBytes)

set_option maxRecDepth 100000 in
set_option maxHeartbeats 3200000 in
theorem makes_walk (A : Option Addr) (n ca : Nat) (l : List Chg) (w : World) (h : HasChs w w.heap.size A n l) (_hnc : n ≤ ca) (hm : ca ≤ maxLen) (hs : ∀ u ∈ l, u.k.size ≤ maxLen ∧ u.v.size ≤ maxLen) :
    Calls Try.prog 3 #[.slice A n ca] w fun e w' => e = .returned (.bool true) ∧ Below w.heap.size w w' := by
  have H := Lib.hid h
  have Hlt := Lib.hid (fun wx (hx : Below w.heap.size w wx) => light_any A n ca w.heap.size 60 l wx (h.belowOf hx (Nat.le_refl _)) (by omega) (by omega) hs)
  have Hmx := Lib.hid (show n ≤ maxLen by omega)
  have Hl := Lib.hid h.1
  clear h hs hm _hnc
  obtain ⟨rb, hrb⟩ : ∃ rb, runB l = rb := ⟨_, rfl⟩
  have Hrb := Lib.hid hrb
  clear hrb
  go_enter Try.func3, Try.ntmps3
  go_wp2_with fail
  refine (awake_any w).mono ?_
  rintro e w1 ⟨rfl, hb1⟩
  have Hb1 := Lib.hid hb1
  have Hlt1 := Lib.hid (Hlt.out w1 hb1)
  clear hb1
  go_wp2_with fail
  refine Hlt1.out.mono ?_
  rintro e w2 ⟨b, rfl, hbl, q, rfl⟩
  have Hbl := Lib.hid hbl
  have Hb2 := Lib.hid (below_dr Hb1.out q)
  clear hbl Hlt Hlt1
  generalize w1.drewN q = w2 at *
  have hsz2 := Hb2.out.size
  cases b with
  | false =>
    go_wp2
    go_ret
    exact ⟨rfl, Hb2.out⟩
  | true =>
    have HL := Lib.hid ((Hbl.out rfl).small)
    have hn60 : n ≤ 60 := by have := HL.out.1; have := Hl.out; omega
    have Hmk := Lib.hid (make_any A n ca w.heap.size l w2 (H.out.belowOf Hb2.out (Nat.le_refl _)) hsz2 (by omega) fun x hx => by have := HL.out.2 x hx; omega)
    have Hrun := Lib.hid (run_make l)
    have Hlen : Hid ((makeL l).length ≤ maxLen) := Lib.hid (by have := len_over l []; have := Hl.out; unfold makeL maxLen; simp at *; omega)
    go_wp2_with fail
    refine Hmk.out.mono ?_
    rintro e w3 ⟨v3, rfl, o3, hb3⟩
    have Hb3 := Lib.hid (Hb2.out.trans (hb3.mono hsz2))
    have hsz3 := Hb3.out.size
    obtain ⟨A3, c3, rfl, -, -, x3⟩ := o3.slice
    have X3 := Lib.hid x3
    have Hrm := Lib.hid (refMake_any A n ca w.heap.size l w3 (H.out.belowOf Hb3.out (Nat.le_refl _)) hsz3 (by omega))
    clear o3 x3 hb3 Hmk
    obtain ⟨M, hM⟩ : ∃ M, makeL l = M := ⟨_, rfl⟩
    rw [hM] at X3 Hrun Hlen Hrm ⊢
    obtain ⟨N, hN⟩ : ∃ N, M.length = N := ⟨_, rfl⟩
    rw [hN] at X3 Hlen ⊢
    have HN := Lib.hid hN
    clear hM hN
    go_wp2_with fail
    refine Hrm.out.mono ?_
    rintro e w4 ⟨v4, rfl, o4, hb4⟩
    have Hb4 := Lib.hid (Hb3.out.trans (hb4.mono hsz3))
    have hsz4 := Hb4.out.size
    obtain ⟨A4, c4, rfl, -, -, x4⟩ := o4.slice
    rw [HN.out] at x4 ⊢
    have X34 := Lib.hid (X3.out.belowOf hb4 (Nat.le_refl _))
    have hs34 := hb4.size
    have Hsame := Lib.hid (chSame_any A3 A4 N N c3 c4 _ _ M M w4 X34.out x4 Hlen.out Hlen.out)
    rw [decide_eq_true rfl] at Hsame
    clear o4 x4 hb4 Hrm
    go_wp2_with fail
    refine Hsame.out.mono ?_
    rintro e w5 ⟨rfl, hb5⟩
    have Hb5 := Lib.hid (Hb4.out.trans (hb5.mono hsz4))
    have hsz5 := Hb5.out.size
    have Hr := Lib.hid (right_any A3 N c3 w4.heap.size M w5 ((X34.out.more hs34).belowOf hb5 (Nat.le_refl _)) Hlen.out hb5.size)
    rw [runB_true Hrun.out] at Hr
    clear hb5 Hsame
    go_wp2_with fail
    refine Hr.out.mono ?_
    rintro e w6 ⟨rfl, hb6⟩
    have Hb6 := Lib.hid (Hb5.out.trans (hb6.mono hsz5))
    have hsz6 := Hb6.out.size
    have Hr6 := Lib.hid (right_any A n ca w.heap.size l w6 (H.out.belowOf Hb6.out (Nat.le_refl _)) Hmx.out hsz6)
    rw [Hrb.out] at Hr6
    clear hb6 Hr
    go_wp2_with fail
    refine Hr6.out.mono ?_
    rintro e w7 ⟨rfl, hb7⟩
    have Hb7 := Lib.hid (Hb6.out.trans (hb7.mono hsz6))
    have hsz7 := Hb7.out.size
    have Hr7 := Lib.hid (refRight_any A n ca w.heap.size l w7 (H.out.belowOf Hb7.out (Nat.le_refl _)) Hmx.out hsz7)
    rw [Hrb.out] at Hr7
    clear hb7 Hr6
    go_wp2_with fail
    refine Hr7.out.mono ?_
    rintro e w8 ⟨rfl, hb8⟩
    have Hb8 := Lib.hid (Hb7.out.trans (hb8.mono hsz7))
    clear hb8
    cases rb <;>
    · go_wp2
      go_ret
      exact ⟨rfl, Hb8.out⟩

namespace lawRunMakes
open Go.ChangeShapes Go.WideShapes Go.ChangeAt

theorem own : ownKnob Try.prog.godebug = none := by kernel_rfl
theorem kids : Kids Try.prog (· < Try.prog.types.size) := kids_rows (by kernel_rfl) (by kernel_rfl)
theorem full : ∀ t e, t < Try.prog.types.size → Try.prog.underlying t = some (.slice e) → 0 < Try.prog.cellsOf e := slices_full_of Try.prog (by kernel_rfl)

set_option maxRecDepth 100000 in
theorem lifted (os : Os) (started : os.Started) (H : Type) (enc : TypeId × Value → H) :
    ReturnsInHanded {} Try.checked os 3 .any (Rows.runMakesSpec.pre6 enc Try.prog Try.f3 Rows.runMakesRow.domain false) (Rows.runMakesSpec.post enc Try.prog Try.f3 false true false false) := by
  refine returnsInHanded_of_change (C := Try.checked) own started (by kernel_rfl) Try.func3
    (ChangeSpec.witness6 (enc := enc) (C := Try.checked) false ⟨#[], #[.slice none 0 0], []⟩ 8 (by kernel_rfl) (by kernel_rfl) (by kernel_rfl) (by kernel_rfl)) ?_
  intro W base args ds gs before hval0 hW _ _
  have hval : ∀ (j : Nat) t v, Try.f3.params[j]? = some t → args[j]? = some v → Value.okWide Try.prog W .any base t v := hval0
  have hW' := hW
  obtain ⟨p, q, hA0, hV, rfl, _, _⟩ := hW
  obtain ⟨rfl, rfl⟩ := trodVars_none hV
  have hA : DataW.TrodAll enc Try.prog W 0 (fun _ => true) true Try.f3.params.toList args.toList ds p := hA0
  rw [Try.params3] at hA hval
  obtain ⟨v0, vs0, d0, ds0, p0, q0, hargs, rfl, rfl, h0, r0⟩ := trodAll_cons hA
  obtain ⟨rfl, rfl, rfl⟩ := trodAll_nil r0
  obtain rfl : args = #[v0] := by cases args; simp_all
  have hlt := hW'.lt
  obtain ⟨A0, n0, c0, l0, rfl, hnc0, hm0, hb0, hs0⟩ := open_changes Try.underlying22 Try.underlying38 (by kernel_rfl) ⟨rfl, rfl, rfl⟩ ⟨by kernel_rfl, by kernel_rfl, by kernel_rfl⟩ ⟨by kernel_rfl, by kernel_rfl, by kernel_rfl⟩ (hval 0 22 v0 rfl rfl) h0 (fun x hx => hlt x (by simp [hx]))
  refine (makes_walk A0 n0 c0 l0 W hb0 hnc0 hm0 hs0).mono fun e W' ⟨he, hbel⟩ => ?_
  subst he
  exact ⟨_, rfl, law_post kids full (of_decide_eq_true (by kernel_rfl)) Try.underlying4 rfl rfl rfl hW' hbel⟩

theorem proved : Rows.RunMakesSaid :=
  OpenClaim.holds_of_wide 3 Try.f3 rfl rfl rfl rfl rfl rfl rfl ⟨rfl, rfl, rfl, rfl, rfl⟩ rfl rfl rfl rfl rfl (by kernel_rfl) Try.func3 (by kernel_rfl)
    (of_decide_eq_true (by kernel_rfl)) (by unfold Func.isWrapper; first | (rw [if_pos (by decide +kernel)]; kernel_rfl) | (rw [if_neg (by decide +kernel)]; exact ⟨rfl, rfl⟩))
    (fun os started H enc _ => lifted os started H enc)
end lawRunMakes

end Go.Proofs.Ytfmjjjfeooaeeaa

/- The law FrameWraps: for every input it returns true and leaves what it was given. No condition. -/
import Derived.Test.YteegnohfmonakaaFrmJ
import Derived.Test.YteegnohfmonakaaOpen
namespace Go.Proofs.Yteegnohfmonakaa
open Go.RowKit
open Go.Lib (strCells)

/-- what Wrap answers: bytes and an error -/
def wrapT (l : List UInt8) : List UInt8 × Nat := if 65536 < l.length then ([], 4) else (frameOf l, 0)
def WrapC (l : List UInt8) (w : World) (e : Ending) (w' : World) : Prop :=
  ∃ A m c, e = .returned (.tuple #[.slice A m c, .int .i64 ((wrapT l).2 : Int)]) ∧ HasBytes w' w'.heap.size A m (wrapT l).1 ∧ Below w.heap.size w w'
/-- what First answers: bytes, a number and an error -/
def firstT (l : List UInt8) : List UInt8 × Nat × Nat := if firstErr l = 0 then (payAt l, 8 + sizeAt l, 0) else ([], 0, firstErr l)

theorem wrapC_any (A : Option Addr) (n c B : Nat) (l : List UInt8) (w : World) (h : HasBytes w B A n l) (hB : B ≤ w.heap.size) : Calls Try.prog 9 #[.slice A n c] w (WrapC l w) := by
  have hl := h.len
  by_cases hn : 65536 < n
  · refine (wrap_large A n c w hn).mono ?_
    rintro e w' ⟨rfl, rfl⟩
    unfold WrapC wrapT
    rw [hl, if_pos hn]
    exact ⟨none, 0, 0, rfl, Has.nil _ _ _, Below.refl _ _⟩
  · refine (wrap_any A n c B l w h hB (by omega)).mono ?_
    rintro e w' ⟨v, rfl, hown, hb⟩
    obtain ⟨A1, c1, rfl, _, _, hh⟩ := own_slice hown
    unfold WrapC wrapT
    rw [hl, if_neg hn]
    exact ⟨A1, 8 + n, c1, rfl, hh, hb⟩
theorem refWrapC_any (A : Option Addr) (n c B : Nat) (l : List UInt8) (w : World) (h : HasBytes w B A n l) (hB : B ≤ w.heap.size) : Calls Try.prog 10 #[.slice A n c] w (WrapC l w) := by
  have hl := h.len
  by_cases hn : 65536 < n
  · refine (refWrap_large A n c w hn).mono ?_
    rintro e w' ⟨rfl, rfl⟩
    unfold WrapC wrapT
    rw [hl, if_pos hn]
    exact ⟨none, 0, 0, rfl, Has.nil _ _ _, Below.refl _ _⟩
  · refine (refWrap_any A n c B l w h hB (by omega)).mono ?_
    rintro e w' ⟨v, rfl, hown, hb⟩
    obtain ⟨A1, c1, rfl, _, _, hh⟩ := own_slice hown
    unfold WrapC wrapT
    rw [hl, if_neg hn]
    exact ⟨A1, 8 + n, c1, rfl, hh, hb⟩
theorem firstC_any (A : Option Addr) (n c B : Nat) (l : List UInt8) (w : World) (h : HasBytes w B A n l) (hB : B ≤ w.heap.size) (hn : n ≤ 1000000) (hnc : n ≤ c) : Calls Try.prog 11 #[.slice A n c] w fun e w' =>
    ∃ A m c, e = .returned (.tuple #[.slice A m c, .int .i64 ((firstT l).2.1 : Int), .int .i64 ((firstT l).2.2 : Int)]) ∧ HasBytes w' w'.heap.size A m (firstT l).1 ∧ Below w.heap.size w w' := by
  refine (first_any A n c B l w h hB (by omega) hnc).mono ?_
  rintro e w' (⟨he, rfl, hb⟩ | ⟨he, v, rfl, hown, _, hb⟩)
  · unfold firstT
    rw [if_neg he]
    exact ⟨none, 0, 0, rfl, Has.nil _ _ _, hb⟩
  · obtain ⟨A1, c1, rfl, _, _, hh⟩ := own_slice hown
    unfold firstT
    rw [if_pos he]
    exact ⟨A1, _, c1, by simp, hh, hb⟩
theorem refFirstC_any (A : Option Addr) (n c B : Nat) (l : List UInt8) (w : World) (h : HasBytes w B A n l) (hB : B ≤ w.heap.size) (hn : n ≤ 1000000) (hnc : n ≤ c) : Calls Try.prog 12 #[.slice A n c] w fun e w' =>
    ∃ A m c, e = .returned (.agg #[.slice A m c, .int .i64 ((firstT l).2.1 : Int), .int .i64 ((firstT l).2.2 : Int)]) ∧ HasBytes w' w'.heap.size A m (firstT l).1 ∧ Below w.heap.size w w' := by
  refine (refFirst_any A n c B l w h hB (by omega) hnc).mono ?_
  rintro e w' ⟨hb, ⟨he, rfl⟩ | ⟨he, v, rfl, hown⟩⟩
  · unfold firstT
    rw [if_neg he]
    exact ⟨none, 0, 0, rfl, Has.nil _ _ _, hb⟩
  · obtain ⟨A1, c1, rfl, _, _, hh⟩ := own_slice hown
    unfold firstT
    rw [if_pos he]
    exact ⟨A1, _, c1, by simp, hh, hb⟩

set_option maxHeartbeats 3200000 in
theorem frameWraps_walk (A A' : Option Addr) (n c n' c' : Nat) (l l' : List UInt8) (w : World) (h : HasBytes w w.heap.size A n l) (h' : HasBytes w w.heap.size A' n' l') (hn : n ≤ maxLen) (hn' : n' ≤ maxLen) (hnc' : n' ≤ c') :
    Calls Try.prog 3 #[.slice A n c, .slice A' n' c'] w fun e w' => e = .returned (.bool true) ∧ Below w.heap.size w w' := by
  unfold maxLen at hn hn'
  have H := Lib.hid h
  have H' := Lib.hid h'
  clear h h'
  by_cases hbig : 70000 < n
  · go_enter Try.func3, Try.ntmps3
    go_wp2_with fail
    refine (awake_any _).mono ?_
    rintro e w1 ⟨rfl, hb1⟩
    go_wp2
    go_ret
    exact ⟨rfl, hb1⟩
  by_cases hbig2 : 4000 < n'
  · go_enter Try.func3, Try.ntmps3
    go_wp2_with fail
    refine (awake_any _).mono ?_
    rintro e w1 ⟨rfl, hb1⟩
    go_wp2
    go_ret
    exact ⟨rfl, hb1⟩
  obtain ⟨x, hx⟩ : ∃ x, wrapT l = x := ⟨_, rfl⟩
  obtain ⟨x, k⟩ := x
  obtain ⟨y, hy⟩ : ∃ y, firstT l' = y := ⟨_, rfl⟩
  obtain ⟨y, N, k'⟩ := y
  have Hx := Lib.hid hx
  have Hy := Lib.hid hy
  clear hx hy
  go_enter Try.func3, Try.ntmps3
  go_wp2_with fail
  refine (awake_any _).mono ?_
  rintro e w1 ⟨rfl, hb1⟩
  have Hb1 := Lib.hid hb1
  clear hb1
  go_wp2_with fail
  refine (wrapC_any A n c w.heap.size l w1 (H.out.belowOf Hb1.out (Nat.le_refl _)) Hb1.out.size).mono ?_
  rintro e w2 ⟨A2, m2, c2, rfl, hh2, hb2⟩
  rw [Hx.out] at hh2 ⊢
  have Hb2 : Hid (Below w.heap.size w w2) := Lib.hid (Hb1.out.trans (hb2.mono Hb1.out.size))
  have Hh2 := Lib.hid hh2
  clear hb2 hh2
  go_wp2_with fail
  refine (refWrapC_any A n c w.heap.size l w2 (H.out.belowOf Hb2.out (Nat.le_refl _)) Hb2.out.size).mono ?_
  rintro e w3 ⟨A3, m3, c3, rfl, hh3, hb3⟩
  rw [Hx.out] at hh3 ⊢
  have Hb3 : Hid (Below w.heap.size w w3) := Lib.hid (Hb2.out.trans (hb3.mono Hb2.out.size))
  have Hh2' := Lib.hid (Hh2.out.below hb3)
  have Hs3 := Lib.hid hb3.size
  have Hh3 := Lib.hid hh3
  clear hb3 hh3
  go_wp2_with fail
  refine (firstC_any A' n' c' w.heap.size l' w3 (H'.out.belowOf Hb3.out (Nat.le_refl _)) Hb3.out.size (by omega) hnc').mono ?_
  rintro e w4 ⟨A4, m4, c4, rfl, hh4, hb4⟩
  rw [Hy.out] at hh4 ⊢
  have Hb4 : Hid (Below w.heap.size w w4) := Lib.hid (Hb3.out.trans (hb4.mono Hb3.out.size))
  have Hh24 := Lib.hid (Hh2'.out.belowOf hb4 Hs3.out)
  have Hh34 := Lib.hid (Hh3.out.below hb4)
  have Hs4 := Lib.hid hb4.size
  have Hh4 := Lib.hid hh4
  clear hb4 hh4
  go_wp2_with fail
  refine (refFirstC_any A' n' c' w.heap.size l' w4 (H'.out.belowOf Hb4.out (Nat.le_refl _)) Hb4.out.size (by omega) hnc').mono ?_
  rintro e w5 ⟨A5, m5, c5, rfl, hh5, hb5⟩
  rw [Hy.out] at hh5 ⊢
  have Hb5 : Hid (Below w.heap.size w w5) := Lib.hid (Hb4.out.trans (hb5.mono Hb4.out.size))
  have hcv2 := fun o => string_run (w := w5.alloc o) ((Hh24.out.belowOf hb5 (Nat.le_trans Hs3.out Hs4.out)).alloc (Nat.le_trans Hs3.out (Nat.le_trans Hs4.out hb5.size)) o) c2
  have hcv3 := fun o => string_run (w := w5.alloc o) ((Hh34.out.belowOf hb5 Hs4.out).alloc (Nat.le_trans Hs4.out hb5.size) o) c3
  have hcv4 := fun o => string_run (w := w5.alloc o) ((Hh4.out.belowOf hb5 (Nat.le_refl _)).alloc hb5.size o) c4
  have hcv5 := fun o => string_run (w := w5.alloc o) (hh5.alloc (Nat.le_refl _) o) c5
  clear hb5 hh5
  go_wp2
  go_ret
  exact ⟨by simp, Hb5.out.alloc Hb5.out.size _⟩

namespace lawFrameWraps
open Go.ChangeShapes Go.WideShapes Go.ChangeAt

theorem own : ownKnob Try.prog.godebug = none := by kernel_rfl
theorem kids : Kids Try.prog (· < Try.prog.types.size) := kids_rows (by kernel_rfl) (by kernel_rfl)
theorem full : ∀ t e, t < Try.prog.types.size → Try.prog.underlying t = some (.slice e) → 0 < Try.prog.cellsOf e := slices_full_of Try.prog (by kernel_rfl)

set_option maxRecDepth 100000 in
theorem lifted (os : Os) (started : os.Started) (H : Type) (enc : TypeId × Value → H) :
    ReturnsInHanded {} Try.checked os 3 .any (Rows.frameWrapsSpec.pre6 enc Try.prog Try.f3 Rows.frameWrapsRow.domain false) (Rows.frameWrapsSpec.post enc Try.prog Try.f3 false true false false) := by
  refine returnsInHanded_of_change (C := Try.checked) own started (by kernel_rfl) Try.func3
    (ChangeSpec.witness6 (enc := enc) (C := Try.checked) false ⟨#[], #[.slice none 0 0, .slice none 0 0], []⟩ 8 (by kernel_rfl) (by kernel_rfl) (by kernel_rfl) (by kernel_rfl)) ?_
  intro W base args ds gs before hval0 hW _ _
  have hval : ∀ (j : Nat) t v, Try.f3.params[j]? = some t → args[j]? = some v → Value.okWide Try.prog W .any base t v := hval0
  have hW' := hW
  obtain ⟨p, q, hA0, hV, rfl, _, _⟩ := hW
  obtain ⟨rfl, rfl⟩ := trodVars_none hV
  have hA : DataW.TrodAll enc Try.prog W 0 (fun _ => true) true Try.f3.params.toList args.toList ds p := hA0
  rw [Try.params3] at hA hval
  obtain ⟨v0, vs0, d0, ds0, p0, q0, hargs, rfl, rfl, h0, r0⟩ := trodAll_cons hA
  obtain ⟨v1, vs1, d1, ds1, p1, q1, rfl, rfl, rfl, h1, r1⟩ := trodAll_cons r0
  obtain ⟨rfl, rfl, rfl⟩ := trodAll_nil r1
  obtain rfl : args = #[v0, v1] := by cases args; simp_all
  have hlt := hW'.lt
  obtain ⟨A0, n0, c0, l0, rfl, hn0, hnc0, hb0⟩ := open_bytes Try.underlying22 Try.underlying5 (by kernel_rfl) (hval 0 22 v0 rfl rfl) h0 (fun x hx => hlt x (by simp [hx]))
  obtain ⟨A1, n1, c1, l1, rfl, hn1, hnc1, hb1⟩ := open_bytes Try.underlying22 Try.underlying5 (by kernel_rfl) (hval 1 22 v1 rfl rfl) h1 (fun x hx => hlt x (by simp [hx]))
  refine (frameWraps_walk A0 A1 n0 c0 n1 c1 l0 l1 W hb0 hb1 hn0 hn1 hnc1).mono fun e W' ⟨he, hbel⟩ => ?_
  subst he
  exact ⟨_, rfl, law_post kids full (of_decide_eq_true (by kernel_rfl)) Try.underlying4 rfl rfl rfl hW' hbel⟩

theorem proved : Rows.FrameWrapsSaid :=
  OpenClaim.holds_of_wide 3 Try.f3 rfl rfl rfl rfl rfl rfl rfl ⟨rfl, rfl, rfl, rfl, rfl⟩ rfl rfl rfl rfl rfl (by kernel_rfl) Try.func3 (by kernel_rfl)
    (of_decide_eq_true (by kernel_rfl)) (by unfold Func.isWrapper; first | (rw [if_pos (by decide +kernel)]; kernel_rfl) | (rw [if_neg (by decide +kernel)]; exact ⟨rfl, rfl⟩))
    (fun os started H enc _ => lifted os started H enc)
end lawFrameWraps

end Go.Proofs.Yteegnohfmonakaa

/- The law PackReads: for every input it returns true and leaves what it was given. No condition. -/
import Derived.Test.YtlmocflgphbiaaaWalkF
import Derived.Test.YtlmocflgphbiaaaWalkI
import Derived.Test.YtlmocflgphbiaaaOpen
namespace Go.Proofs.Ytlmocflgphbiaaa
open Go.RowKit
open Go.Lib (strCells)

theorem own_below {w w' : World} {B n : Nat} {e : TypeId} {v : Value} {xs : List Value} (h : w.ownsRow B e 1 v n xs) (hb : Below w.heap.size w w') : w'.ownsRow B e 1 v n xs :=
  h.kept (row := none) ⟨hb.os, hb.tape, hb.output, hb.size, fun i hi _ => hb.block i hi⟩ (by cases v.ownBlock <;> simp)

set_option maxHeartbeats 800000 in
set_option maxRecDepth 100000 in
theorem packReads_walk (A : Option Addr) (n c C : Nat) (p count most : Int) (l : List UInt8) (w : World) (h : HasBytes w C A n l) (hC : C ≤ w.heap.size) (hn : n ≤ maxLen) (hnc : n ≤ c) :
    Calls Try.prog 5 #[.slice A n c, .int .i64 p, .int .i64 count, .int .i64 most] w fun e w' => e = .returned (.bool true) ∧ Below w.heap.size w w' := by
  have hn' := hn
  unfold maxLen at hn'
  by_cases hbig : 3000 < n
  · go_enter Try.func5, Try.ntmps5
    go_wp2_with fail
    refine (awake_any _).mono ?_
    rintro e w1 ⟨rfl, hb1⟩
    go_wp2_with fail
    go_ret
    exact ⟨rfl, hb1⟩
  · go_enter Try.func5, Try.ntmps5
    go_wp2_with fail
    refine (awake_any _).mono ?_
    rintro e w1 ⟨rfl, hb1⟩
    have h1 := h.belowOf hb1 hC
    have hC1 := Nat.le_trans hC hb1.size
    go_wp2_with fail
    refine (getText_any A n c C p most l _ h1 (by omega) hnc).mono ?_
    rintro e w2 ⟨rfl, rfl⟩
    go_wp2_with fail
    refine (refText_any A n c C p most l _ h1 hC1 (by omega) hnc).mono ?_
    rintro e w3 ⟨rfl, hb3⟩
    have h3 := h1.belowOf hb3 hC1
    have hC3 := Nat.le_trans hC1 hb3.size
    have Hb13 := Lib.hid (hb1.trans (hb3.mono hb1.size))
    clear hb1 hb3 h1
    unfold got
    go_wp2_with fail
    refine (getTexts_any A n c C p count most l _ (h3.alloc hC3 _) (le_alloc hC3 _) (by omega) hnc).mono ?_
    rintro e w4 ⟨v4, rfl, hown4, hb4⟩
    have Hbx := Lib.hid (box_behind hb4)
    have Hb4 := Lib.hid ((Hb13.out.alloc Hb13.out.size _).trans (hb4.mono (le_alloc Hb13.out.size _)))
    have h4 := (h3.alloc hC3 (.cells #[.int .i64 0, .string ⟨(getText l p most).1.toArray⟩, .slice none 0 0, .int .i64 ((getText l p most).2.1 : Int), .int .i64 ((getText l p most).2.2 : Int)] 37)).belowOf hb4 (le_alloc hC3 _)
    have hC4 : C ≤ w4.heap.size := Nat.le_trans (le_alloc hC3 _) hb4.size
    clear hb4
    go_wp2_with fail
    refine (refTexts_any A n c C p count most l _ h4 hC4 (by omega) hnc).mono ?_
    rintro e w5 ⟨v5, rfl, hown5, hb5⟩
    have hown45 := own_below hown4 hb5
    have Hb5 := Lib.hid (Hb4.out.trans (hb5.mono Hb4.out.size))
    have Kbx := Lib.hid (Hbx.out.below hb5 Hbx.out.lt)
    obtain ⟨A4, c4, rfl, hn4, hm4, _⟩ := own_slice hown4
    obtain ⟨A5, c5, rfl, hn5, hm5, _⟩ := own_slice hown5
    have fz := Kbx.out.frozen
    obtain ⟨d0, d1, d2, d3, d4⟩ := Kbx.out.at5
    unfold got
    go_wp2_with fail
    have Ko4 := own_five hown45 Kbx.out (by decide) (.int .i64 0) (.string ⟨#[]⟩) (.slice A5 (getTexts l p count most).1.length c5) (.int .i64 ((getTexts l p count most).2.1 : Int)) (.int .i64 ((getTexts l p count most).2.2 : Int))
    have Ko5 := own_five hown5 Kbx.out (by decide) (.int .i64 0) (.string ⟨#[]⟩) (.slice A5 (getTexts l p count most).1.length c5) (.int .i64 ((getTexts l p count most).2.1 : Int)) (.int .i64 ((getTexts l p count most).2.2 : Int))
    have hlen : (getTexts l p count most).1.length ≤ 4611686018427387904 := by
      have := getTexts_len l p count most
      have := h.len
      omega
    refine (sameTexts_true A4 A5 _ c4 c5 _ _ (getTexts l p count most).1 _ (Has.of_own Ko4) (Has.of_own Ko5) hlen).mono ?_
    rintro e w6 ⟨rfl, hb6⟩
    have Hb6 := Lib.hid ((below_five Hb5.out Hb13.out.size _ _ _ _ _).trans (hb6.mono (by simp [World.setCell]; exact Hb5.out.size)))
    have K6 := (Kbx.out.five (a' := .int .i64 0) (b' := .string ⟨#[]⟩) (c' := .slice A5 (getTexts l p count most).1.length c5) (d' := .int .i64 ((getTexts l p count most).2.1 : Int)) (e' := .int .i64 ((getTexts l p count most).2.2 : Int))).below hb6 (by simp [World.setCell]; exact Kbx.out.lt)
    clear fz d0 d1 d2 d3 d4 hb6
    obtain ⟨d0, d1, d2, d3, d4⟩ := K6.at5
    go_wp2
    go_ret
    exact ⟨rfl, Hb6.out⟩

namespace lawReads
open Go.ChangeShapes Go.WideShapes Go.ChangeAt

theorem own : ownKnob Try.prog.godebug = none := by kernel_rfl
theorem kids : Kids Try.prog (· < Try.prog.types.size) := kids_rows (by kernel_rfl) (by kernel_rfl)
theorem full : ∀ t e, t < Try.prog.types.size → Try.prog.underlying t = some (.slice e) → 0 < Try.prog.cellsOf e := slices_full_of Try.prog (by kernel_rfl)

set_option maxRecDepth 100000 in
theorem lifted (os : Os) (started : os.Started) (H : Type) (enc : TypeId × Value → H) :
    ReturnsInHanded {} Try.checked os 5 .any (Rows.packReadsSpec.pre6 enc Try.prog Try.f5 Rows.packReadsRow.domain false) (Rows.packReadsSpec.post enc Try.prog Try.f5 false true false false) := by
  refine returnsInHanded_of_change (C := Try.checked) own started (by kernel_rfl) Try.func5
    (ChangeSpec.witness6 (enc := enc) (C := Try.checked) false ⟨#[], #[.slice none 0 0, .int .i64 0, .int .i64 0, .int .i64 0], []⟩ 8 (by kernel_rfl) (by kernel_rfl) (by kernel_rfl) (by kernel_rfl)) ?_
  intro W base args ds gs before hval0 hW _ _
  have hval : ∀ (j : Nat) t v, Try.f5.params[j]? = some t → args[j]? = some v → Value.okWide Try.prog W .any base t v := hval0
  have hW' := hW
  obtain ⟨p, q, hA0, hV, rfl, _, _⟩ := hW
  obtain ⟨rfl, rfl⟩ := trodVars_none hV
  have hA : DataW.TrodAll enc Try.prog W 0 (fun _ => true) true Try.f5.params.toList args.toList ds p := hA0
  rw [Try.params5] at hA hval
  obtain ⟨v0, vs0, d0, ds0, p0, q0, hargs, rfl, rfl, h0, r0⟩ := trodAll_cons hA
  obtain ⟨v1, vs1, d1, ds1, p1, q1, rfl, rfl, rfl, h1, r1⟩ := trodAll_cons r0
  obtain ⟨v2, vs2, d2, ds2, p2, q2, rfl, rfl, rfl, h2, r2⟩ := trodAll_cons r1
  obtain ⟨v3, vs3, d3, ds3, p3, q3, rfl, rfl, rfl, h3, r3⟩ := trodAll_cons r2
  obtain ⟨rfl, rfl, rfl⟩ := trodAll_nil r3
  obtain rfl : args = #[v0, v1, v2, v3] := by cases args; simp_all
  have hlt := hW'.lt
  obtain ⟨A0, n0, c0, l0, rfl, hn0, hnc0, hb0⟩ := open_bytes Try.underlying25 Try.underlying5 (by kernel_rfl) (hval 0 25 v0 rfl rfl) h0 (fun x hx => hlt x (by simp [hx]))
  obtain ⟨k1, rfl, _, _, bd1⟩ := open_int Try.underlying3 (hval 1 3 v1 rfl rfl) h1
  obtain ⟨k2, rfl, _, _, bd2⟩ := open_int Try.underlying3 (hval 2 3 v2 rfl rfl) h2
  obtain ⟨k3, rfl, _, _, bd3⟩ := open_int Try.underlying3 (hval 3 3 v3 rfl rfl) h3
  refine (packReads_walk A0 n0 c0 W.heap.size k1 k2 k3 l0 W hb0 (Nat.le_refl _) hn0 hnc0).mono fun e W' ⟨he, hbel⟩ => ?_
  subst he
  exact ⟨_, rfl, law_post kids full (of_decide_eq_true (by kernel_rfl)) Try.underlying4 rfl rfl rfl hW' hbel⟩

theorem proved : Rows.PackReadsSaid :=
  OpenClaim.holds_of_wide 5 Try.f5 rfl rfl rfl rfl rfl rfl rfl ⟨rfl, rfl, rfl, rfl, rfl⟩ rfl rfl rfl rfl rfl (by kernel_rfl) Try.func5 (by kernel_rfl)
    (of_decide_eq_true (by kernel_rfl)) (by unfold Func.isWrapper; first | (rw [if_pos (by decide +kernel)]; kernel_rfl) | (rw [if_neg (by decide +kernel)]; exact ⟨rfl, rfl⟩))
    (fun os started H enc _ => lifted os started H enc)
end lawReads

end Go.Proofs.Ytlmocflgphbiaaa

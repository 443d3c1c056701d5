/- The law TupleOrder: for every input it returns true and leaves what it was given. No condition. -/
import Derived.Test.YtjbbbecbefbcbaaTupP
import Derived.Test.YtjbbbecbefbcbaaTupI
import Derived.Test.YtjbbbecbefbcbaaOpenVals
namespace Go.Proofs.Ytjbbbecbefbcbaa
open Go.RowKit
open Go.Lib (strCells compareBytes)

theorem eq_toList (a b : ByteArray) : (a.toList == b.toList) = decide (a.data.toList = b.data.toList) := by
  rw [Lib.toList_data, Lib.toList_data]
  by_cases h : a.data.toList = b.data.toList
  · simp [h]
  · rw [decide_eq_false h]
    exact beq_eq_false_iff_ne.2 h
theorem allGood_of {l : List TVal} (h : rowErr l = 0) (hi : ∀ u ∈ l, InI64 u.n) : AllGood l := fun v hv => ⟨(rowErr_ok.1 h).2 v hv, hi v hv⟩
theorem cmpT_row {l m : List TVal} (hl : rowErr l = 0) (hm : rowErr m = 0) : cmpT l m = cmpRow l m := by unfold cmpT; rw [if_neg (by omega)]
theorem cmpT_bad {l m : List TVal} (h : rowErr l ≠ 0 ∨ rowErr m ≠ 0) : cmpT l m = 0 := by unfold cmpT; rw [if_pos h]

set_option maxHeartbeats 3200000 in
theorem tupleOrder_walk (A A' : Option Addr) (n n' c c' : Nat) (l m : List TVal) (w : World) (h : HasVals w w.heap.size A n l) (h' : HasVals w w.heap.size A' n' m) (hn : n ≤ maxLen) (hn' : n' ≤ maxLen)
    (hi : ∀ u ∈ l, InI64 u.n) (hi' : ∀ u ∈ m, InI64 u.n) (hw : ∀ u ∈ l, u.s.size ≤ maxLen) (hw' : ∀ u ∈ m, u.s.size ≤ maxLen) :
    Calls Try.prog 4 #[.slice A n c, .slice A' n' c'] w fun e w' => e = .returned (.bool true) ∧ Below w.heap.size w w' := by
  have H := Lib.hid h
  have H' := Lib.hid h'
  have Hi := Lib.hid hi
  have Hi' := Lib.hid hi'
  have Hw := Lib.hid hw
  have Hw' := Lib.hid hw'
  clear h h' hi hi' hw hw'
  obtain ⟨sx, hsx⟩ : ∃ sx : ByteArray, ⟨(keyT l).toArray⟩ = sx := ⟨_, rfl⟩
  obtain ⟨tx, htx⟩ : ∃ tx : ByteArray, ⟨(keyT m).toArray⟩ = tx := ⟨_, rfl⟩
  have Hsx : Hid (sx.data.toList = keyT l) := Lib.hid (by rw [← hsx])
  have Htx : Hid (tx.data.toList = keyT m) := Lib.hid (by rw [← htx])
  have Hk := Lib.hid (fun (wx : World) (hb : Below w.heap.size w wx) => key_any A n c _ l wx (H.out.below hb) hn hb.size Hi.out)
  have Hk' := Lib.hid (fun (wx : World) (hb : Below w.heap.size w wx) => key_any A' n' c' _ m wx (H'.out.below hb) hn' hb.size Hi'.out)
  have Hcmp := Lib.hid (fun (wx : World) (hb : Below w.heap.size w wx) => compare_any A A' n n' c c' _ l m wx (H.out.below hb) (H'.out.below hb) hn hn' hb.size)
  have Hcmp' := Lib.hid (fun (wx : World) (hb : Below w.heap.size w wx) => compare_any A' A n' n c' c _ m l wx (H'.out.below hb) (H.out.below hb) hn' hn hb.size)
  simp only [textErr] at Hk Hk'
  rw [hsx] at Hk
  rw [htx] at Hk'
  clear hsx htx
  go_enter Try.func4, Try.ntmps4
  go_wp2_with fail
  refine (awake_any _).mono ?_
  rintro e w1 ⟨rfl, hb1⟩
  have Hb1 := Lib.hid hb1
  clear hb1
  go_wp2_with fail
  refine (light_any A n c _ 2000 l w1 (H.out.below Hb1.out) hn (by omega) Hw.out).mono ?_
  rintro e w2 ⟨b, rfl, -, rfl⟩
  cases b with
  | false =>
    go_wp2_with fail
    go_ret
    exact ⟨rfl, Hb1.out⟩
  | true =>
    go_wp2_with fail
    refine (light_any A' n' c' _ 2000 m w1 (H'.out.below Hb1.out) hn' (by omega) Hw'.out).mono ?_
    rintro e w2 ⟨b, rfl, -, rfl⟩
    cases b with
    | false =>
      go_wp2_with fail
      go_ret
      exact ⟨rfl, Hb1.out⟩
    | true =>
      go_wp2_with fail
      rcases rowErr_num l with hl | ⟨hl1, hl2, hl3⟩
      · rcases rowErr_num m with hm | ⟨hm1, hm2, hm3⟩
        · have hk := keyL_cmp l m (allGood_of hl Hi.out) (allGood_of hm Hi'.out)
          rw [← keyT_eq hl, ← keyT_eq hm, ← Hsx.out, ← Htx.out] at hk
          have e1 := cmpT_row hl hm
          have e2 := cmpT_row hm hl
          rw [cmpRow_neg l m] at e2
          rw [hl] at Hk
          rw [hm] at Hk'
          rw [e1] at Hcmp
          rw [e2] at Hcmp'
          have h1 := bytesLess_cmp sx.data.toList tx.data.toList
          have h2 := eq_toList sx tx
          rw [← Lib.toList_data, ← Lib.toList_data] at h1
          rw [Lib.toList_data sx, Lib.toList_data tx, hk] at h1
          clear e1 e2 hl hm
          rcases cmpRow_cases l m with hc | hc | hc
          · have Hc : Hid (cmpRow l m = -1) := Lib.hid hc
            have h1' : Op.bytesLess sx.toList tx.toList = true := by rw [Lib.toList_data, Lib.toList_data, h1, hc]; rfl
            have h2' : (sx.toList == tx.toList) = false := by
              rw [h2]
              refine decide_eq_false fun e => ?_
              rw [e, cmpB_self, hc] at hk
              omega
            rw [hc] at Hcmp Hcmp'
            clear h1 h2 hc hk
            refine (Hk.out w1 Hb1.out).mono ?_
            rintro e w2 ⟨rfl, hb2⟩
            have Hb2 := Lib.hid (Hb1.out.trans (hb2.mono Hb1.out.size))
            clear hb2
            go_wp2_with fail
            refine (Hk'.out w2 Hb2.out).mono ?_
            rintro e w3 ⟨rfl, hb3⟩
            have Hb3 := Lib.hid (Hb2.out.trans (hb3.mono Hb2.out.size))
            clear hb3
            go_wp2_with fail
            refine (Hcmp.out w3 Hb3.out).mono ?_
            rintro e w4 ⟨rfl, hb4⟩
            have Hb4 := Lib.hid (Hb3.out.trans (hb4.mono Hb3.out.size))
            clear hb4
            go_wp2_with fail
            refine (Hcmp'.out w4 Hb4.out).mono ?_
            rintro e w5 ⟨rfl, hb5⟩
            have Hb5 := Lib.hid (Hb4.out.trans (hb5.mono Hb4.out.size))
            clear hb5
            go_wp2_with fail
            go_ret
            exact ⟨rfl, Hb5.out⟩
          · have h1' : Op.bytesLess sx.toList tx.toList = false := by rw [Lib.toList_data, Lib.toList_data, h1, hc]; rfl
            have h2' : (sx.toList == tx.toList) = true := by
              rw [h2]
              refine decide_eq_true (cmpB_zero ?_)
              rw [hk, hc]
            rw [hc] at Hcmp Hcmp'
            clear h1 h2 hc hk
            refine (Hk.out w1 Hb1.out).mono ?_
            rintro e w2 ⟨rfl, hb2⟩
            have Hb2 := Lib.hid (Hb1.out.trans (hb2.mono Hb1.out.size))
            clear hb2
            go_wp2_with fail
            refine (Hk'.out w2 Hb2.out).mono ?_
            rintro e w3 ⟨rfl, hb3⟩
            have Hb3 := Lib.hid (Hb2.out.trans (hb3.mono Hb2.out.size))
            clear hb3
            go_wp2_with fail
            refine (Hcmp.out w3 Hb3.out).mono ?_
            rintro e w4 ⟨rfl, hb4⟩
            have Hb4 := Lib.hid (Hb3.out.trans (hb4.mono Hb3.out.size))
            clear hb4
            go_wp2_with fail
            refine (Hcmp'.out w4 Hb4.out).mono ?_
            rintro e w5 ⟨rfl, hb5⟩
            have Hb5 := Lib.hid (Hb4.out.trans (hb5.mono Hb4.out.size))
            clear hb5
            go_wp2_with fail
            go_ret
            exact ⟨rfl, Hb5.out⟩
          · have h1' : Op.bytesLess sx.toList tx.toList = false := by rw [Lib.toList_data, Lib.toList_data, h1, hc]; rfl
            have h2' : (sx.toList == tx.toList) = false := by
              rw [h2]
              refine decide_eq_false fun e => ?_
              rw [e, cmpB_self, hc] at hk
              omega
            rw [hc] at Hcmp Hcmp'
            clear h1 h2 hc hk
            refine (Hk.out w1 Hb1.out).mono ?_
            rintro e w2 ⟨rfl, hb2⟩
            have Hb2 := Lib.hid (Hb1.out.trans (hb2.mono Hb1.out.size))
            clear hb2
            go_wp2_with fail
            refine (Hk'.out w2 Hb2.out).mono ?_
            rintro e w3 ⟨rfl, hb3⟩
            have Hb3 := Lib.hid (Hb2.out.trans (hb3.mono Hb2.out.size))
            clear hb3
            go_wp2_with fail
            refine (Hcmp.out w3 Hb3.out).mono ?_
            rintro e w4 ⟨rfl, hb4⟩
            have Hb4 := Lib.hid (Hb3.out.trans (hb4.mono Hb3.out.size))
            clear hb4
            go_wp2_with fail
            refine (Hcmp'.out w4 Hb4.out).mono ?_
            rintro e w5 ⟨rfl, hb5⟩
            have Hb5 := Lib.hid (Hb4.out.trans (hb5.mono Hb4.out.size))
            clear hb5
            go_wp2_with fail
            go_ret
            exact ⟨rfl, Hb5.out⟩
        · have hz := cmpT_bad (l := l) (m := m) (.inr hm3)
          rw [hl] at Hk
          rw [hz] at Hcmp
          clear hz hl hm3
          refine (Hk.out w1 Hb1.out).mono ?_
          rintro e w2 ⟨rfl, hb2⟩
          have Hb2 := Lib.hid (Hb1.out.trans (hb2.mono Hb1.out.size))
          clear hb2
          go_wp2_with fail
          refine (Hk'.out w2 Hb2.out).mono ?_
          rintro e w3 ⟨rfl, hb3⟩
          have Hb3 := Lib.hid (Hb2.out.trans (hb3.mono Hb2.out.size))
          clear hb3
          go_wp2_with fail
          refine (Hcmp.out w3 Hb3.out).mono ?_
          rintro e w4 ⟨rfl, hb4⟩
          have Hb4 := Lib.hid (Hb3.out.trans (hb4.mono Hb3.out.size))
          clear hb4
          go_wp2_with fail
          go_ret
          exact ⟨rfl, Hb4.out⟩
      · have hz := cmpT_bad (l := l) (m := m) (.inl hl3)
        rw [hz] at Hcmp
        clear hz hl3
        refine (Hk.out w1 Hb1.out).mono ?_
        rintro e w2 ⟨rfl, hb2⟩
        have Hb2 := Lib.hid (Hb1.out.trans (hb2.mono Hb1.out.size))
        clear hb2
        go_wp2_with fail
        refine (Hk'.out w2 Hb2.out).mono ?_
        rintro e w3 ⟨rfl, hb3⟩
        have Hb3 := Lib.hid (Hb2.out.trans (hb3.mono Hb2.out.size))
        clear hb3
        go_wp2_with fail
        refine (Hcmp.out w3 Hb3.out).mono ?_
        rintro e w4 ⟨rfl, hb4⟩
        have Hb4 := Lib.hid (Hb3.out.trans (hb4.mono Hb3.out.size))
        clear hb4
        go_wp2_with fail
        go_ret
        exact ⟨rfl, Hb4.out⟩

namespace lawTupleOrder
open Go.ChangeShapes Go.WideShapes Go.ChangeAt

theorem own : ownKnob Try.prog.godebug = none := by kernel_rfl
theorem kids : Kids Try.prog (· < Try.prog.types.size) := kids_rows (by kernel_rfl) (by kernel_rfl)
theorem full : ∀ t e, t < Try.prog.types.size → Try.prog.underlying t = some (.slice e) → 0 < Try.prog.cellsOf e := slices_full_of Try.prog (by kernel_rfl)

set_option maxRecDepth 100000 in
theorem lifted (os : Os) (started : os.Started) (H : Type) (enc : TypeId × Value → H) :
    ReturnsInHanded {} Try.checked os 4 .any (Rows.tupleOrderSpec.pre6 enc Try.prog Try.f4 Rows.tupleOrderRow.domain false) (Rows.tupleOrderSpec.post enc Try.prog Try.f4 false true false false) := by
  refine returnsInHanded_of_change (C := Try.checked) own started (by kernel_rfl) Try.func4
    (ChangeSpec.witness6 (enc := enc) (C := Try.checked) false ⟨#[], #[.slice none 0 0, .slice none 0 0], []⟩ 8 (by kernel_rfl) (by kernel_rfl) (by kernel_rfl) (by kernel_rfl)) ?_
  intro W base args ds gs before hval0 hW _ _
  have hval : ∀ (j : Nat) t v, Try.f4.params[j]? = some t → args[j]? = some v → Value.okWide Try.prog W .any base t v := hval0
  have hW' := hW
  obtain ⟨p, q, hA0, hV, rfl, _, _⟩ := hW
  obtain ⟨rfl, rfl⟩ := trodVars_none hV
  have hA : DataW.TrodAll enc Try.prog W 0 (fun _ => true) true Try.f4.params.toList args.toList ds p := hA0
  rw [Try.params4] at hA hval
  obtain ⟨v0, vs0, d0, ds0, p0, q0, hargs, rfl, rfl, h0, r0⟩ := trodAll_cons hA
  obtain ⟨v1, vs1, d1, ds1, p1, q1, rfl, rfl, rfl, h1, r1⟩ := trodAll_cons r0
  obtain ⟨rfl, rfl, rfl⟩ := trodAll_nil r1
  obtain rfl : args = #[v0, v1] := by cases args; simp_all
  have hlt := hW'.lt
  obtain ⟨A0, n0, c0, l0, rfl, hn0, hnc0, hb0, hi0, hw0⟩ := open_vals Try.underlying22 Try.underlying27 (by kernel_rfl) ⟨rfl, rfl, rfl⟩ ⟨by kernel_rfl, by kernel_rfl, by kernel_rfl⟩ ⟨by kernel_rfl, by kernel_rfl, by kernel_rfl⟩ (hval 0 22 v0 rfl rfl) h0 (fun x hx => hlt x (by simp [hx]))
  obtain ⟨A1, n1, c1, l1, rfl, hn1, hnc1, hb1, hi1, hw1⟩ := open_vals Try.underlying22 Try.underlying27 (by kernel_rfl) ⟨rfl, rfl, rfl⟩ ⟨by kernel_rfl, by kernel_rfl, by kernel_rfl⟩ ⟨by kernel_rfl, by kernel_rfl, by kernel_rfl⟩ (hval 1 22 v1 rfl rfl) h1 (fun x hx => hlt x (by simp [hx]))
  refine (tupleOrder_walk A0 A1 n0 n1 c0 c1 l0 l1 W hb0 hb1 hn0 hn1 hi0 hi1 hw0 hw1).mono fun e W' ⟨he, hbel⟩ => ?_
  subst he
  exact ⟨_, rfl, law_post kids full (of_decide_eq_true (by kernel_rfl)) Try.underlying4 rfl rfl rfl hW' hbel⟩

theorem proved : Rows.TupleOrderSaid :=
  OpenClaim.holds_of_wide 4 Try.f4 rfl rfl rfl rfl rfl rfl rfl ⟨rfl, rfl, rfl, rfl, rfl⟩ rfl rfl rfl rfl rfl (by kernel_rfl) Try.func4 (by kernel_rfl)
    (of_decide_eq_true (by kernel_rfl)) (by unfold Func.isWrapper; first | (rw [if_pos (by decide +kernel)]; kernel_rfl) | (rw [if_neg (by decide +kernel)]; exact ⟨rfl, rfl⟩))
    (fun os started H enc _ => lifted os started H enc)
end lawTupleOrder

end Go.Proofs.Ytjbbbecbefbcbaa

/- The law TupleNext: for every input it returns true and leaves what it was given. No condition. -/
import Derived.Test.YtjbbbecbefbcbaaTupP
import Derived.Test.YtjbbbecbefbcbaaOpen
namespace Go.Proofs.Ytjbbbecbefbcbaa
open Go.RowKit
open Go.Lib (strCells)

theorem eq_toList (a b : ByteArray) : (a.toList == b.toList) = decide (a.data.toList = b.data.toList) := by
  rw [Lib.toList_data, Lib.toList_data]
  by_cases h : a.data.toList = b.data.toList
  · simp [h]
  · rw [decide_eq_false h]
    exact beq_eq_false_iff_ne.2 h

set_option maxHeartbeats 1600000 in
theorem tupleNext_walk (s t : ByteArray) (w : World) (hs : s.size ≤ maxLen) (ht : t.size ≤ maxLen) :
    Calls Try.prog 6 #[.string s, .string t] w fun e w' => e = .returned (.bool true) ∧ Below w.heap.size w w' := by
  have hs2 := hs
  have ht2 := ht
  unfold maxLen at hs2 ht2
  by_cases hout : 200 < s.size ∨ 200 < t.size
  · have hcases : (200 < (s.size : Int)) ∨ (¬ 200 < (s.size : Int) ∧ 200 < (t.size : Int)) := by omega
    clear hout
    rcases hcases with h1 | ⟨h1, h2⟩
    all_goals
      go_enter Try.func6, Try.ntmps6
      go_wp2_with fail
      refine (awake_any _).mono ?_
      rintro e w1 ⟨rfl, hb1⟩
      go_wp2_with fail
      go_ret
      exact ⟨rfl, hb1⟩
  · have hs200 : ¬ 200 < (s.size : Int) := by omega
    have ht200 : ¬ 200 < (t.size : Int) := by omega
    clear hout
    obtain ⟨nx, hnx⟩ : ∃ nx : ByteArray, ⟨(nextT s.data.toList).toArray⟩ = nx := ⟨_, rfl⟩
    have Hnx : Hid (nx.data.toList = nextT s.data.toList) := Lib.hid (by rw [← hnx])
    have Hn1 := Lib.hid (fun wx => next_any s wx hs)
    have Hn2 := Lib.hid (fun wx => refNext_any s wx hs)
    rw [hnx] at Hn1 Hn2
    clear hnx
    have Hlast := Lib.hid (next_last s.data.toList t.data.toList)
    have Hbet := Lib.hid (next_between s.data.toList t.data.toList)
    have Htk := Lib.hid (begins_take s.data.toList t.data.toList)
    rw [← Lib.size_eq, ← Lib.size_eq] at Htk
    have key : ∀ b1 : Bool, begins s.data.toList t.data.toList = b1 → ((s.size ≤ t.size ∧ ((t.extract 0 s.size).toList == s.toList) = b1) ∨ (t.size < s.size ∧ b1 = false)) →
        Calls Try.prog 6 #[.string s, .string t] w fun e w' => e = .returned (.bool true) ∧ Below w.heap.size w w' := by
      intro b1 hb1 hcase
      obtain ⟨b2, h2⟩ : ∃ b2, Op.bytesLess t.toList s.toList = b2 := ⟨_, rfl⟩
      obtain ⟨b3, h3⟩ : ∃ b3, Op.bytesLess t.toList nx.toList = b3 := ⟨_, rfl⟩
      have h2' : Op.bytesLess t.data.toList s.data.toList = b2 := by rw [← h2, Lib.toList_data, Lib.toList_data]
      have h3' : Op.bytesLess t.data.toList (nextT s.data.toList) = b3 := by rw [← h3, Lib.toList_data, Lib.toList_data, Hnx.out]
      by_cases hempty : nextT s.data.toList = []
      · have hrel := Hlast.out hempty
        rw [hb1, h2'] at hrel
        have hne : nx.toList.isEmpty = true := by rw [Lib.toList_data, Hnx.out, hempty]; rfl
        clear hb1 h2' h3' h3 hempty
        subst hrel
        rcases hcase with ⟨hle, h1⟩ | ⟨hlt, h1⟩
        · cases b2
          all_goals
            simp only [Bool.not_true, Bool.not_false] at h1
            go_enter Try.func6, Try.ntmps6
            go_wp2_with fail
            refine (awake_any _).mono ?_
            rintro e w1 ⟨rfl, hb1⟩
            have Hb1 := Lib.hid hb1
            have hz1 := hb1.size
            clear hb1
            go_wp2_with fail
            refine (Hn1.out _).mono ?_
            rintro e w2 ⟨rfl, hb2⟩
            have Hb2 := Lib.hid (Hb1.out.trans (hb2.mono hz1))
            have hz2 := Hb2.out.size
            clear hb2
            go_wp2_with fail
            refine (Hn2.out _).mono ?_
            rintro e w3 ⟨rfl, hb3⟩
            have Hb3 := Lib.hid (Hb2.out.trans (hb3.mono hz2))
            clear hb3
            go_wp2
            go_ret
            exact ⟨rfl, Hb3.out⟩
        · have hlt' : ¬ (s.size : Int) ≤ (t.size : Int) := by omega
          obtain rfl : b2 = true := by cases b2 <;> simp_all
          clear h1
          go_enter Try.func6, Try.ntmps6
          go_wp2_with fail
          refine (awake_any _).mono ?_
          rintro e w1 ⟨rfl, hb1⟩
          have Hb1 := Lib.hid hb1
          have hz1 := hb1.size
          clear hb1
          go_wp2_with fail
          refine (Hn1.out _).mono ?_
          rintro e w2 ⟨rfl, hb2⟩
          have Hb2 := Lib.hid (Hb1.out.trans (hb2.mono hz1))
          have hz2 := Hb2.out.size
          clear hb2
          go_wp2_with fail
          refine (Hn2.out _).mono ?_
          rintro e w3 ⟨rfl, hb3⟩
          have Hb3 := Lib.hid (Hb2.out.trans (hb3.mono hz2))
          clear hb3
          go_wp2
          go_ret
          exact ⟨rfl, Hb3.out⟩
      · have hrel := Hbet.out hempty
        rw [hb1, h2', h3'] at hrel
        have hne : nx.toList.isEmpty = false := by
          rw [Lib.toList_data, Hnx.out]
          cases h : nextT s.data.toList with
          | nil => exact absurd h hempty
          | cons c l => rfl
        clear hb1 h2' h3' hempty
        subst hrel
        rcases hcase with ⟨hle, h1⟩ | ⟨hlt, h1⟩
        · cases b2 <;> cases b3
          all_goals
            simp only [Bool.not_true, Bool.not_false, Bool.and_true, Bool.and_false] at h1
            go_enter Try.func6, Try.ntmps6
            go_wp2_with fail
            refine (awake_any _).mono ?_
            rintro e w1 ⟨rfl, hb1⟩
            have Hb1 := Lib.hid hb1
            have hz1 := hb1.size
            clear hb1
            go_wp2_with fail
            refine (Hn1.out _).mono ?_
            rintro e w2 ⟨rfl, hb2⟩
            have Hb2 := Lib.hid (Hb1.out.trans (hb2.mono hz1))
            have hz2 := Hb2.out.size
            clear hb2
            go_wp2_with fail
            refine (Hn2.out _).mono ?_
            rintro e w3 ⟨rfl, hb3⟩
            have Hb3 := Lib.hid (Hb2.out.trans (hb3.mono hz2))
            clear hb3
            go_wp2
            go_ret
            exact ⟨rfl, Hb3.out⟩
        · have hlt' : ¬ (s.size : Int) ≤ (t.size : Int) := by omega
          cases b2 <;> cases b3
          · clear h1
            go_enter Try.func6, Try.ntmps6
            go_wp2_with fail
            refine (awake_any _).mono ?_
            rintro e w1 ⟨rfl, hb1⟩
            have Hb1 := Lib.hid hb1
            have hz1 := hb1.size
            clear hb1
            go_wp2_with fail
            refine (Hn1.out _).mono ?_
            rintro e w2 ⟨rfl, hb2⟩
            have Hb2 := Lib.hid (Hb1.out.trans (hb2.mono hz1))
            have hz2 := Hb2.out.size
            clear hb2
            go_wp2_with fail
            refine (Hn2.out _).mono ?_
            rintro e w3 ⟨rfl, hb3⟩
            have Hb3 := Lib.hid (Hb2.out.trans (hb3.mono hz2))
            clear hb3
            go_wp2
            go_ret
            exact ⟨rfl, Hb3.out⟩
          · cases h1
          · clear h1
            go_enter Try.func6, Try.ntmps6
            go_wp2_with fail
            refine (awake_any _).mono ?_
            rintro e w1 ⟨rfl, hb1⟩
            have Hb1 := Lib.hid hb1
            have hz1 := hb1.size
            clear hb1
            go_wp2_with fail
            refine (Hn1.out _).mono ?_
            rintro e w2 ⟨rfl, hb2⟩
            have Hb2 := Lib.hid (Hb1.out.trans (hb2.mono hz1))
            have hz2 := Hb2.out.size
            clear hb2
            go_wp2_with fail
            refine (Hn2.out _).mono ?_
            rintro e w3 ⟨rfl, hb3⟩
            have Hb3 := Lib.hid (Hb2.out.trans (hb3.mono hz2))
            clear hb3
            go_wp2
            go_ret
            exact ⟨rfl, Hb3.out⟩
          · clear h1
            go_enter Try.func6, Try.ntmps6
            go_wp2_with fail
            refine (awake_any _).mono ?_
            rintro e w1 ⟨rfl, hb1⟩
            have Hb1 := Lib.hid hb1
            have hz1 := hb1.size
            clear hb1
            go_wp2_with fail
            refine (Hn1.out _).mono ?_
            rintro e w2 ⟨rfl, hb2⟩
            have Hb2 := Lib.hid (Hb1.out.trans (hb2.mono hz1))
            have hz2 := Hb2.out.size
            clear hb2
            go_wp2_with fail
            refine (Hn2.out _).mono ?_
            rintro e w3 ⟨rfl, hb3⟩
            have Hb3 := Lib.hid (Hb2.out.trans (hb3.mono hz2))
            clear hb3
            go_wp2
            go_ret
            exact ⟨rfl, Hb3.out⟩
    by_cases hle : s.size ≤ t.size
    · refine key _ rfl (.inl ⟨hle, ?_⟩)
      have e := Htk.out
      rw [decide_eq_true hle, Bool.true_and] at e
      rw [e, eq_toList, Lib.extract_data, List.drop_zero, Nat.sub_zero]
    · refine key _ rfl (.inr ⟨by omega, ?_⟩)
      have e := Htk.out
      rw [decide_eq_false hle, Bool.false_and] at e
      exact e

namespace lawTupleNext
open Go.ChangeShapes Go.WideShapes Go.ChangeAt

theorem own : ownKnob Try.prog.godebug = none := by kernel_rfl
theorem kids : Kids Try.prog (· < Try.prog.types.size) := kids_rows (by kernel_rfl) (by kernel_rfl)
theorem full : ∀ t e, t < Try.prog.types.size → Try.prog.underlying t = some (.slice e) → 0 < Try.prog.cellsOf e := slices_full_of Try.prog (by kernel_rfl)

set_option maxRecDepth 100000 in
theorem lifted (os : Os) (started : os.Started) (H : Type) (enc : TypeId × Value → H) :
    ReturnsInHanded {} Try.checked os 6 .any (Rows.tupleNextSpec.pre6 enc Try.prog Try.f6 Rows.tupleNextRow.domain false) (Rows.tupleNextSpec.post enc Try.prog Try.f6 false true false false) := by
  refine returnsInHanded_of_change (C := Try.checked) own started (by kernel_rfl) Try.func6
    (ChangeSpec.witness6 (enc := enc) (C := Try.checked) false ⟨#[], #[.string ⟨#[]⟩, .string ⟨#[]⟩], []⟩ 8 (by kernel_rfl) (by kernel_rfl) (by kernel_rfl) (by kernel_rfl)) ?_
  intro W base args ds gs before hval0 hW _ _
  have hval : ∀ (j : Nat) t v, Try.f6.params[j]? = some t → args[j]? = some v → Value.okWide Try.prog W .any base t v := hval0
  have hW' := hW
  obtain ⟨p, q, hA0, hV, rfl, _, _⟩ := hW
  obtain ⟨rfl, rfl⟩ := trodVars_none hV
  have hA : DataW.TrodAll enc Try.prog W 0 (fun _ => true) true Try.f6.params.toList args.toList ds p := hA0
  rw [Try.params6] at hA hval
  obtain ⟨v0, vs0, d0, ds0, p0, q0, hargs, rfl, rfl, h0, r0⟩ := trodAll_cons hA
  obtain ⟨v1, vs1, d1, ds1, p1, q1, rfl, rfl, rfl, h1, r1⟩ := trodAll_cons r0
  obtain ⟨rfl, rfl, rfl⟩ := trodAll_nil r1
  obtain rfl : args = #[v0, v1] := by cases args; simp_all
  have hlt := hW'.lt
  obtain ⟨s0, rfl, _, _, ws0⟩ := Go.ChangeMaps.open_string Try.underlying9 (hval 0 9 v0 rfl rfl) h0
  obtain ⟨s1, rfl, _, _, ws1⟩ := Go.ChangeMaps.open_string Try.underlying9 (hval 1 9 v1 rfl rfl) h1
  refine (tupleNext_walk s0 s1 W ws0 ws1).mono fun e W' ⟨he, hbel⟩ => ?_
  subst he
  exact ⟨_, rfl, law_post kids full (of_decide_eq_true (by kernel_rfl)) Try.underlying4 rfl rfl rfl hW' hbel⟩

theorem proved : Rows.TupleNextSaid :=
  OpenClaim.holds_of_wide 6 Try.f6 rfl rfl rfl rfl rfl rfl rfl ⟨rfl, rfl, rfl, rfl, rfl⟩ rfl rfl rfl rfl rfl (by kernel_rfl) Try.func6 (by kernel_rfl)
    (of_decide_eq_true (by kernel_rfl)) (by unfold Func.isWrapper; first | (rw [if_pos (by decide +kernel)]; kernel_rfl) | (rw [if_neg (by decide +kernel)]; exact ⟨rfl, rfl⟩))
    (fun os started H enc _ => lifted os started H enc)
end lawTupleNext

end Go.Proofs.Ytjbbbecbefbcbaa

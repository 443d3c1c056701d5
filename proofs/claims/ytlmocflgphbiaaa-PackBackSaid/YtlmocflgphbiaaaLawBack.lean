/- The law PackBack: for every input it returns true and leaves what it was given. No condition. -/
import Derived.Test.YtlmocflgphbiaaaLawPuts
import Derived.Test.YtlmocflgphbiaaaWalkI
namespace Go.Proofs.Ytlmocflgphbiaaa
open Go.RowKit
open Go.Lib (strCells)

theorem ofBytes (s : ByteArray) : (⟨s.data.toList.toArray⟩ : ByteArray) = s := by cases s; simp

set_option maxRecDepth 100000 in
set_option maxHeartbeats 1600000 in
theorem packBack_walk (A E : Option Addr) (n c C n' c' C' : Nat) (k : Int) (s : ByteArray) (ss : List ByteArray) (M : List UInt8) (w : World) (h : HasTexts w C A n ss) (hC : C ≤ w.heap.size) (hn : n ≤ maxLen) (hss : ∀ s ∈ ss, s.size ≤ maxLen)
    (hs : s.size ≤ maxLen) (hk : k < 9223372036854775808) (hM : HasBytes w C' E n' M) (hC' : C' ≤ w.heap.size) (hn' : n' ≤ maxLen) :
    Calls Try.prog 6 #[.int .i64 k, .string s, .slice A n c, .slice E n' c'] w fun e w' => e = .returned (.bool true) ∧ Below w.heap.size w w' := by
  have hs' := hs
  have hn'' := hn'
  unfold maxLen at hs' hn''
  have H := Lib.hid h
  have HM := Lib.hid hM
  clear h hM
  by_cases hbig : 3000 < s.size
  · go_enter Try.func6, Try.ntmps6
    go_wp2_with fail
    refine (awake_any _).mono ?_
    rintro e w1 ⟨rfl, hb1⟩
    go_wp2_with fail
    go_ret
    exact ⟨rfl, hb1⟩
  · by_cases hbigM : 3000 < n'
    · go_enter Try.func6, Try.ntmps6
      go_wp2_with fail
      refine (awake_any _).mono ?_
      rintro e w1 ⟨rfl, hb1⟩
      go_wp2_with fail
      go_ret
      exact ⟨rfl, hb1⟩
    · have Hbulk : Hid (∀ W, HasTexts W C A n ss → Calls Try.prog 11 #[.slice A n c, .int .i64 3000] W (BulkPost ss 3000 W)) :=
        Lib.hid fun W hW => bulk_any A n c C 3000 ss W hW hn (by omega) hss
      go_enter Try.func6, Try.ntmps6
      go_wp2_with fail
      refine (awake_any _).mono ?_
      rintro e w1 ⟨rfl, hb1⟩
      have H1 := Lib.hid (H.out.belowOf hb1 hC)
      have HM1 := Lib.hid (HM.out.belowOf hb1 hC')
      have hC1 := Nat.le_trans hC hb1.size
      have hC1' := Nat.le_trans hC' hb1.size
      have Hb1 := Lib.hid hb1
      clear hb1
      go_wp2_with fail
      refine (Hbulk.out _ H1.out).mono ?_
      rintro e _ ⟨r, rfl, hr, rfl⟩
      by_cases hr3 : 3000 < r
      · go_wp2_with fail
        go_ret
        exact ⟨rfl, Hb1.out⟩
      · have ht := hr (by omega)
        obtain ⟨hln, hsm, hbody⟩ := tot_body (most := 3000) ss (by omega) ht
        have hnn : n ≤ 3000 := by rw [← H.out.len]; exact hln
        have htf : (textForm s.data.toList).length ≤ 3009 := by rw [textForm_len, size_bytes]; have := numForm_len9 (k := s.size) (by omega); omega
        have hxf : (textsForm (raw ss)).length ≤ 30009 := by rw [textsForm, List.length_append]; have := numForm_len9 (k := (raw ss).length) (by simp [raw]; omega); omega
        have Hbody : Hid ((textsBody (raw ss)).length ≤ 1000000) := Lib.hid (by omega)
        have Hsm : Hid (∀ x ∈ raw ss, x.length < 9223372036854775808 ∧ x.length ≤ (3000 : Int)) := Lib.hid fun x hx => by
          simp only [raw, List.mem_map] at hx
          obtain ⟨y, hy, rfl⟩ := hx
          have := hsm y hy
          rw [size_bytes]
          omega
        clear hr ht hln hsm hbody
        by_cases hneg : k < 0
        · go_wp2_with fail
          refine (num_any k _ hk).mono ?_
          rintro e w2 ⟨v2, rfl, hown2, hb2⟩
          rw [if_pos hneg] at hown2
          obtain ⟨A2, c2, rfl, _, _, _⟩ := own_slice hown2
          have Hb2 := Lib.hid (Hb1.out.trans (hb2.mono Hb1.out.size))
          clear hown2 hb2
          go_wp2
          go_ret
          exact ⟨rfl, Hb2.out⟩
        · obtain ⟨q, rfl⟩ : ∃ q : Nat, k = q := ⟨k.toNat, by omega⟩
          have Hnum : Hid (∀ W : World, Calls Try.prog 16 #[.int .i64 (q : Int)] W (Gives W.heap.size (numForm q).length (byteCells (numForm q)) W)) := Lib.hid fun W => by
            have := num_any q W (by omega)
            rw [if_neg hneg, Int.toNat_natCast] at this
            exact this
          have hnf := numForm_len9 (k := q) (by omega)
          have hq9 : q < 9223372036854775808 := by omega
          have Hrl : Hid ((raw ss).length = n) := Lib.hid (by rw [raw, List.length_map, H.out.len])
          have HN : Hid (getNum (flat [numForm q, textForm s.data.toList, textsForm (raw ss)] ++ M) 0 = (q, (numForm q).length, 0)) := Lib.hid (by
            have := getNum_put (l := flat [numForm q, textForm s.data.toList, textsForm (raw ss)] ++ M) (p := 0) hq9 (by simp) (more := textForm s.data.toList ++ (textsForm (raw ss) ++ M)) (by simp [flat])
            rw [Nat.zero_add] at this
            exact this)
          have HT : Hid (getText (flat [numForm q, textForm s.data.toList, textsForm (raw ss)] ++ M) (numForm q).length s.size = (s.data.toList, (numForm q).length + (textForm s.data.toList).length, 0)) := Lib.hid
            (getText_put (l := flat [numForm q, textForm s.data.toList, textsForm (raw ss)] ++ M) (p := (numForm q).length) (by rw [size_bytes]; omega) (by rw [size_bytes]; omega) (by simp [flat]) (more := textsForm (raw ss) ++ M) (by simp [flat]))
          have HX : Hid (getTexts (flat [numForm q, textForm s.data.toList, textsForm (raw ss)] ++ M) (((numForm q).length + (textForm s.data.toList).length : Nat) : Int) n 3000 = (raw ss, (numForm q).length + (textForm s.data.toList).length + (textsForm (raw ss)).length, 0)) := Lib.hid
            (getTexts_put (l := flat [numForm q, textForm s.data.toList, textsForm (raw ss)] ++ M) (p := (numForm q).length + (textForm s.data.toList).length) Hsm.out (by have := Hrl.out; omega) (by have := Hrl.out; omega) (by simp [flat] <;> omega) (more := M)
              (by simp only [flat, List.append_nil, List.append_assoc]; rw [← List.drop_drop, List.drop_left, List.drop_left]))
          clear hq9 hk
          go_wp2_with fail
          refine (Hnum.out _).mono ?_
          rintro e w2 ⟨v2, rfl, hown2, hb2⟩
          obtain ⟨A2, c2, rfl, _, _, hh2⟩ := own_slice hown2
          have Ha2 := Lib.hid hh2
          have Hb2 := Lib.hid (Hb1.out.trans (hb2.mono Hb1.out.size))
          have H2 := Lib.hid (H1.out.belowOf hb2 hC1)
          have HM2 := Lib.hid (HM1.out.belowOf hb2 hC1')
          have hC2 := Nat.le_trans hC1 hb2.size
          have hC2' := Nat.le_trans hC1' hb2.size
          clear hown2 hb2 hh2
          go_wp2_with fail
          refine (text_any s _ (by omega)).mono ?_
          rintro e w3 ⟨v3, rfl, hown3, hb3⟩
          obtain ⟨A3, c3, rfl, _, _, hh3⟩ := own_slice hown3
          have Ha3 := Lib.hid ((Ha2.out.below hb3).more hb3.size)
          have Ht3 := Lib.hid hh3
          have Hb3 := Lib.hid (Hb2.out.trans (hb3.mono Hb2.out.size))
          have H3 := Lib.hid (H2.out.belowOf hb3 hC2)
          have HM3 := Lib.hid (HM2.out.belowOf hb3 hC2')
          have hC3 := Nat.le_trans hC2 hb3.size
          have hC3' := Nat.le_trans hC2' hb3.size
          clear hown3 hb3 hh3 Ha2
          go_wp2_with fail
          refine (texts_any A n c C ss _ H3.out hC3 Hbody.out (by omega)).mono ?_
          rintro e w4 ⟨v4, rfl, hown4, hb4⟩
          obtain ⟨A4, c4, rfl, _, _, hh4⟩ := own_slice hown4
          have Ha4 := Lib.hid ((Ha3.out.below hb4).more hb4.size)
          have Ht4 := Lib.hid ((Ht3.out.below hb4).more hb4.size)
          have Hx4 := Lib.hid hh4
          have Hb4 := Lib.hid (Hb3.out.trans (hb4.mono Hb3.out.size))
          have H4 := Lib.hid (H3.out.belowOf hb4 hC3)
          have HM4 := Lib.hid (HM3.out.belowOf hb4 hC3')
          have hC4 := Nat.le_trans hC3 hb4.size
          have hC4' := Nat.le_trans hC3' hb4.size
          clear hown4 hb4 hh4 Ha3 Ht3
          go_wp2_with fail
          have hparts := parts3 w4 A2 A3 A4 _ _ _ c2 c3 c4 _ _ _ 25 Ha4.out Ht4.out Hx4.out
          have Hbp := Lib.hid (Hb4.out.alloc Hb4.out.size (.cells #[.slice A2 (numForm q).length c2, .slice A3 (textForm s.data.toList).length c3, .slice A4 (textsForm (raw ss)).length c4] 25))
          refine (join_any _ 3 3 _ _ _ _ hparts (by simp) (by simp [flat]; omega) (by omega)).mono ?_
          rintro e w5 ⟨v5, rfl, hown5, hb5⟩
          obtain ⟨A5, c5, rfl, _, _, hh5⟩ := own_slice hown5
          have hb45 := ((Below.refl _ w4).alloc (Nat.le_refl _) (.cells #[.slice A2 (numForm q).length c2, .slice A3 (textForm s.data.toList).length c3, .slice A4 (textsForm (raw ss)).length c4] 25)).trans (hb5.mono (by simp))
          have H5 := Lib.hid (H4.out.belowOf hb45 hC4)
          have HM5 := Lib.hid (HM4.out.belowOf hb45 hC4')
          have hC5 := Nat.le_trans hC4 hb45.size
          have hC5' := Nat.le_trans hC4' hb45.size
          have Hb5 := Lib.hid (Hb4.out.trans (hb45.mono Hb4.out.size))
          have Hh5 := Lib.hid hh5
          have hfl : (flat [numForm q, textForm s.data.toList, textsForm (raw ss)]).length ≤ 40000 := by simp [flat]; omega
          clear hb5 hown5 hh5 hb45 Ha4 Ht4 Hx4 hparts Hbp
          have Hlit := Lib.hid (World.ownsRow_lit (base := w5.heap.size) (e := 5) (size := 1) w5 #[] 0 (Nat.le_refl _) (by simp [maxLen]) rfl)
          have Hbl := Lib.hid ((Below.refl w5.heap.size w5).alloc (Nat.le_refl _) (.cells #[] 5))
          go_wp2_with
            (first
              | (at_builtin
                 refine wpList_append_has rfl (.tmp 45) (.tmp 46) _ rfl 5 u8_elem Try.underlying25 rfl Hlit.out rfl (Hh5.out.alloc (Nat.le_refl _) _) (byteCells_one _) (by simp only [maxLen]; omega) (by omega) (le_alloc (Nat.le_refl _) _) ?_
                 intro v6 w6 hown6 hg6 _
                 have Hb6 := Lib.hid (below_own Hbl.out Hlit.out hg6 (le_alloc (Nat.le_refl _) _))
                 have Ho6 := Lib.hid hown6
                 clear hown6 hg6)
              | (at_builtin
                 refine wpList_append_has rfl (.tmp 47) (.tmp 48) _ rfl 5 u8_elem Try.underlying25 rfl Ho6.out rfl (HM5.out.belowOf Hb6.out hC5') (byteCells_one _) (by simp only [maxLen]; omega) (by omega) Hb6.out.size ?_
                 intro v7 w7 hown7 hg7 _
                 have Hb7 := Lib.hid (below_own Hb6.out Ho6.out hg7 Hb6.out.size)
                 have Ho7 := Lib.hid hown7
                 clear hown7 hg7))
          obtain ⟨A7, c7, rfl, hc7, hm7, hh7⟩ := own_slice Ho7.out
          have Hb7' := Lib.hid (Hb5.out.trans (Hb7.out.mono Hb5.out.size))
          have H7 := Lib.hid (H5.out.belowOf Hb7.out hC5)
          have hC7 := Nat.le_trans hC5 Hb7.out.size
          clear Ho7 Hb7 Ho6 Hb6 Hlit Hbl
          generalize hN : 0 + (flat [numForm q, textForm s.data.toList, textsForm (raw ss)]).length + n' = N at hh7 hc7 ⊢
          have hN2 : N ≤ 43000 := by omega
          have Ha7 : Hid (HasBytes w7 w7.heap.size A7 N (flat [numForm q, textForm s.data.toList, textsForm (raw ss)] ++ M)) := Lib.hid (by
            have e : (#[] : Array Value).toList ++ byteCells (flat [numForm q, textForm s.data.toList, textsForm (raw ss)]) ++ byteCells M = byteCells (flat [numForm q, textForm s.data.toList, textsForm (raw ss)] ++ M) := by simp [byteCells]
            rw [e] at hh7
            exact hh7)
          clear hh7 hN
          refine (getNum_any A7 N c7 _ 0 _ w7 Ha7.out (by simp only [maxLen]; omega) hc7).mono ?_
          rintro e _ ⟨rfl, rfl⟩
          rw [HN.out]
          go_wp2_with fail
          have hgt := getText_any A7 N c7 _ (numForm q).length s.size _ w7 Ha7.out (by omega) hc7
          rw [HT.out] at hgt
          simp only [ofBytes] at hgt
          refine hgt.mono ?_
          clear hgt
          rintro e _ ⟨rfl, rfl⟩
          go_wp2_with fail
          have hgx := getTexts_any A7 N c7 _ (((numForm q).length + (textForm s.data.toList).length : Nat) : Int) n 3000 _ w7 Ha7.out (Nat.le_refl _) (by omega) hc7
          rw [HX.out] at hgx
          refine hgx.mono ?_
          clear hgx
          rintro e w8 ⟨v8, rfl, hown8, hb8⟩
          obtain ⟨A8, c8, rfl, _, _, hh8⟩ := own_slice hown8
          have hrl := Hrl.out
          simp only at hh8
          rw [hrl] at hh8
          have Hh8 := Lib.hid hh8
          have H8 : Hid (Has w8 C A n (strVals (raw ss))) := Lib.hid (by rw [strVals_raw]; exact H7.out.belowOf hb8 hC7)
          have Hb8 := Lib.hid (Hb7'.out.trans (hb8.mono Hb7'.out.size))
          clear hh8 hb8 hown8
          simp only [hrl]
          clear hrl
          go_wp2_with fail
          refine (sameTexts_true A8 A n c8 c _ _ (raw ss) w8 Hh8.out H8.out (by omega)).mono ?_
          rintro e w9 ⟨rfl, hb9⟩
          have Hb9 := Lib.hid (Hb8.out.trans (hb9.mono Hb8.out.size))
          clear hb9
          have hfl2 : Hid ((flat [numForm q, textForm s.data.toList, textsForm (raw ss)]).length = (numForm q).length + (textForm s.data.toList).length + (textsForm (raw ss)).length) := Lib.hid (by simp [flat]; omega)
          go_wp2
          go_ret
          have hb : ((((numForm q).length : Int) + ((textForm s.data.toList).length : Int) + ((textsForm (raw ss)).length : Int)) == (((flat [numForm q, textForm s.data.toList, textsForm (raw ss)]).length : Nat) : Int)) = true := by
            rw [hfl2.out]
            simp
          exact ⟨congrArg (fun b => Ending.returned (.bool b)) hb, Hb9.out⟩

namespace lawBack
open Go.ChangeShapes Go.WideShapes Go.ChangeAt

theorem own : ownKnob Try.prog.godebug = none := by kernel_rfl
theorem kids : Kids Try.prog (· < Try.prog.types.size) := kids_rows (by kernel_rfl) (by kernel_rfl)
theorem full : ∀ t e, t < Try.prog.types.size → Try.prog.underlying t = some (.slice e) → 0 < Try.prog.cellsOf e := slices_full_of Try.prog (by kernel_rfl)

set_option maxRecDepth 100000 in
theorem lifted (os : Os) (started : os.Started) (H : Type) (enc : TypeId × Value → H) :
    ReturnsInHanded {} Try.checked os 6 .any (Rows.packBackSpec.pre6 enc Try.prog Try.f6 Rows.packBackRow.domain false) (Rows.packBackSpec.post enc Try.prog Try.f6 false true false false) := by
  refine returnsInHanded_of_change (C := Try.checked) own started (by kernel_rfl) Try.func6
    (ChangeSpec.witness6 (enc := enc) (C := Try.checked) false ⟨#[], #[.int .i64 0, .string ⟨#[]⟩, .slice none 0 0, .slice none 0 0], []⟩ 8 (by kernel_rfl) (by kernel_rfl) (by kernel_rfl) (by kernel_rfl)) ?_
  intro W base args ds gs before hval0 hW _ _
  have hval : ∀ (j : Nat) t v, Try.f6.params[j]? = some t → args[j]? = some v → Value.okWide Try.prog W .any base t v := hval0
  have hW' := hW
  obtain ⟨p, q, hA0, hV, rfl, _, _⟩ := hW
  obtain ⟨rfl, rfl⟩ := trodVars_none hV
  have hA : DataW.TrodAll enc Try.prog W 0 (fun _ => true) true Try.f6.params.toList args.toList ds p := hA0
  rw [Try.params6] at hA hval
  obtain ⟨v0, vs0, d0, ds0, p0, q0, hargs, rfl, rfl, h0, r0⟩ := trodAll_cons hA
  obtain ⟨v1, vs1, d1, ds1, p1, q1, rfl, rfl, rfl, h1, r1⟩ := trodAll_cons r0
  obtain ⟨v2, vs2, d2, ds2, p2, q2, rfl, rfl, rfl, h2, r2⟩ := trodAll_cons r1
  obtain ⟨v3, vs3, d3, ds3, p3, q3, rfl, rfl, rfl, h3, r3⟩ := trodAll_cons r2
  obtain ⟨rfl, rfl, rfl⟩ := trodAll_nil r3
  obtain rfl : args = #[v0, v1, v2, v3] := by cases args; simp_all
  have hlt := hW'.lt
  obtain ⟨k0, rfl, _, _, wf0⟩ := open_int Try.underlying3 (hval 0 3 v0 rfl rfl) h0
  have bd0 := bounds_i64 wf0
  obtain ⟨s1, rfl, _, _, ws1⟩ := Go.ChangeMaps.open_string Try.underlying9 (hval 1 9 v1 rfl rfl) h1
  obtain ⟨A2, n2, c2, ss2, rfl, hn2, hnc2, hb2, hw2⟩ := open_texts Try.underlying22 Try.underlying9 (by kernel_rfl) (hval 2 22 v2 rfl rfl) h2 (fun x hx => hlt x (by simp [hx]))
  obtain ⟨A3, n3, c3, l3, rfl, hn3, hnc3, hb3⟩ := open_bytes Try.underlying25 Try.underlying5 (by kernel_rfl) (hval 3 25 v3 rfl rfl) h3 (fun x hx => hlt x (by simp [hx]))
  refine (packBack_walk A2 A3 n2 c2 W.heap.size n3 c3 W.heap.size k0 s1 ss2 l3 W hb2 (Nat.le_refl _) hn2 hw2 ws1 (by omega) hb3 (Nat.le_refl _) hn3).mono fun e W' ⟨he, hbel⟩ => ?_
  subst he
  exact ⟨_, rfl, law_post kids full (of_decide_eq_true (by kernel_rfl)) Try.underlying4 rfl rfl rfl hW' hbel⟩

theorem proved : Rows.PackBackSaid :=
  OpenClaim.holds_of_wide 6 Try.f6 rfl rfl rfl rfl rfl rfl rfl ⟨rfl, rfl, rfl, rfl, rfl⟩ rfl rfl rfl rfl rfl (by kernel_rfl) Try.func6 (by kernel_rfl)
    (of_decide_eq_true (by kernel_rfl)) (by unfold Func.isWrapper; first | (rw [if_pos (by decide +kernel)]; kernel_rfl) | (rw [if_neg (by decide +kernel)]; exact ⟨rfl, rfl⟩))
    (fun os started H enc _ => lifted os started H enc)
end lawBack

end Go.Proofs.Ytlmocflgphbiaaa

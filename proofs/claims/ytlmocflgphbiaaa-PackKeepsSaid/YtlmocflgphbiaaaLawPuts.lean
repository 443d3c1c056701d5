/- The law PackPuts: for every input it returns true and leaves what it was given. No condition. -/
import Derived.Test.YtlmocflgphbiaaaWalkK
import Derived.Test.YtlmocflgphbiaaaOpen
namespace Go.Proofs.Ytlmocflgphbiaaa
open Go.RowKit
open Go.Lib (strCells)

/-- the form of a number, of one below 0 nothing -/
def intForm (k : Int) : List UInt8 := if k < 0 then [] else numForm k.toNat
theorem intForm_len {k : Int} (h : k < 9223372036854775808) : (intForm k).length ≤ 9 := by
  unfold intForm
  split
  · simp
  · exact numForm_len9 (by omega)

theorem parts3 (w : World) (A1 A2 A3 : Option Addr) (n1 n2 n3 c1 c2 c3 : Nat) (a b c : List UInt8) (t : TypeId) (h1 : HasBytes w w.heap.size A1 n1 a) (h2 : HasBytes w w.heap.size A2 n2 b) (h3 : HasBytes w w.heap.size A3 n3 c) :
    Parts (w.alloc (.cells #[.slice A1 n1 c1, .slice A2 n2 c2, .slice A3 n3 c3] t)) (w.heap.size + 1) (some ⟨w.heap.size, 0, none⟩) 3 [.slice A1 n1 c1, .slice A2 n2 c2, .slice A3 n3 c3] [a, b, c] := by
  refine ⟨Has.lit w #[.slice A1 n1 c1, .slice A2 n2 c2, .slice A3 n3 c3] t, rfl, fun k hk => ?_⟩
  match k, hk with
  | 0, _ => exact ⟨A1, n1, c1, rfl, (h1.alloc (Nat.le_refl _) _).more (by omega)⟩
  | 1, _ => exact ⟨A2, n2, c2, rfl, (h2.alloc (Nat.le_refl _) _).more (by omega)⟩
  | 2, _ => exact ⟨A3, n3, c3, rfl, (h3.alloc (Nat.le_refl _) _).more (by omega)⟩

set_option maxRecDepth 100000 in
set_option maxHeartbeats 1600000 in
theorem packPuts_walk (A : Option Addr) (n c C : Nat) (k : Int) (s : ByteArray) (ss : List ByteArray) (w : World) (h : HasTexts w C A n ss) (hC : C ≤ w.heap.size) (hn : n ≤ maxLen) (hss : ∀ s ∈ ss, s.size ≤ maxLen)
    (hs : s.size ≤ maxLen) (hk : k < 9223372036854775808) :
    Calls Try.prog 3 #[.int .i64 k, .string s, .slice A n c] w fun e w' => e = .returned (.bool true) ∧ Below w.heap.size w w' := by
  have hs' := hs
  unfold maxLen at hs'
  have H := Lib.hid h
  clear h
  by_cases hbig : 3000 < s.size
  · go_enter Try.func3, Try.ntmps3
    go_wp2_with fail
    refine (awake_any _).mono ?_
    rintro e w1 ⟨rfl, hb1⟩
    go_wp2_with fail
    go_ret
    exact ⟨rfl, hb1⟩
  · have Hbulk : Hid (∀ W, HasTexts W C A n ss → Calls Try.prog 11 #[.slice A n c, .int .i64 3000] W (BulkPost ss 3000 W)) :=
      Lib.hid fun W hW => bulk_any A n c C 3000 ss W hW hn (by omega) hss
    go_enter Try.func3, Try.ntmps3
    go_wp2_with fail
    refine (awake_any _).mono ?_
    rintro e w1 ⟨rfl, hb1⟩
    have H1 := Lib.hid (H.out.belowOf hb1 hC)
    have hC1 := Nat.le_trans hC hb1.size
    have Hb1 := Lib.hid hb1
    clear hb1
    go_wp2_with fail
    refine (Hbulk.out _ H1.out).mono ?_
    rintro e w1' ⟨r, rfl, hr, rfl⟩
    by_cases hr3 : 3000 < r
    · go_wp2_with fail
      go_ret
      exact ⟨rfl, Hb1.out⟩
    · have ht := hr (by omega)
      obtain ⟨hln, hsm, hbody⟩ := tot_body (most := 3000) ss (by omega) ht
      have hnn : n ≤ 3000 := by rw [← H.out.len]; exact hln
      have hif := intForm_len hk
      have htf : (textForm s.data.toList).length ≤ 3009 := by rw [textForm_len, size_bytes]; have := numForm_len9 (k := s.size) (by omega); omega
      have hxf : (textsForm (raw ss)).length ≤ 30009 := by rw [textsForm, List.length_append]; have := numForm_len9 (k := (raw ss).length) (by simp [raw]; omega); omega
      have Hbody : Hid ((textsBody (raw ss)).length ≤ 1000000) := Lib.hid (by omega)
      clear hr ht hln hsm hbody
      go_wp2_with fail
      refine (refPutNum_any k _ hk).mono ?_
      rintro e w2 ⟨v2, rfl, hown2, hb2⟩
      change w2.ownsRow w1.heap.size 5 1 v2 (intForm k).length (byteCells (intForm k)) at hown2
      obtain ⟨A2, c2, rfl, hc2, hm2, hh2⟩ := own_slice hown2
      have Ha2 := Lib.hid hh2
      have Hb2 := Lib.hid (Hb1.out.trans (hb2.mono Hb1.out.size))
      have H2 := Lib.hid (H1.out.belowOf hb2 hC1)
      have hC2 := Nat.le_trans hC1 hb2.size
      clear hown2 hb2 hc2 hm2 hh2
      go_wp2_with fail
      refine (refPutText_any s _ (by omega)).mono ?_
      rintro e w3 ⟨v3, rfl, hown3, hb3⟩
      obtain ⟨A3, c3, rfl, hc3, hm3, hh3⟩ := own_slice hown3
      have Ha3 := Lib.hid ((Ha2.out.below hb3).more hb3.size)
      have Ht3 := Lib.hid hh3
      have Hb3 := Lib.hid (Hb2.out.trans (hb3.mono Hb2.out.size))
      have H3 := Lib.hid (H2.out.belowOf hb3 hC2)
      have hC3 := Nat.le_trans hC2 hb3.size
      clear hown3 hb3 hc3 hm3 hh3 Ha2
      go_wp2_with fail
      refine (refPutTexts_any A n c C ss _ H3.out hC3 Hbody.out (by omega)).mono ?_
      rintro e w4 ⟨v4, rfl, hown4, hb4⟩
      obtain ⟨A4, c4, rfl, hc4, hm4, hh4⟩ := own_slice hown4
      have Ha4 := Lib.hid ((Ha3.out.below hb4).more hb4.size)
      have Ht4 := Lib.hid ((Ht3.out.below hb4).more hb4.size)
      have Hx4 := Lib.hid hh4
      have Hb4 := Lib.hid (Hb3.out.trans (hb4.mono Hb3.out.size))
      have H4 := Lib.hid (H3.out.belowOf hb4 hC3)
      have hC4 := Nat.le_trans hC3 hb4.size
      clear hown4 hb4 hc4 hm4 hh4 Ha3 Ht3
      have hlit := World.ownsRow_lit (base := w4.heap.size) (e := 5) (size := 1) w4 #[] 0 (Nat.le_refl _) (by simp [maxLen]) rfl
      have Hlit := Lib.hid hlit
      clear hlit
      have Hbl := Lib.hid ((Below.refl w4.heap.size w4).alloc (Nat.le_refl _) (.cells #[] 5))
      go_wp2_with
        (first
          | (at_builtin
             refine wpList_append_has rfl (.tmp 27) (.tmp 28) _ rfl 5 u8_elem Try.underlying25 rfl Hlit.out rfl (Ha4.out.alloc (Nat.le_refl _) _) (byteCells_one _) (by simp only [maxLen]; omega) (by omega) (le_alloc (Nat.le_refl _) _) ?_
             intro v5 w5 hown5 hg5 _
             have Hb5 := Lib.hid (below_own Hbl.out Hlit.out hg5 (le_alloc (Nat.le_refl _) _))
             have Ho5 := Lib.hid hown5
             clear hown5 hg5)
          | (at_builtin
             refine wpList_append_has rfl (.tmp 29) (.tmp 30) _ rfl 5 u8_elem Try.underlying25 rfl Ho5.out rfl (Ht4.out.below Hb5.out) (byteCells_one _) (by simp only [maxLen]; omega) (by omega) Hb5.out.size ?_
             intro v6 w6 hown6 hg6 _
             have Hb6 := Lib.hid (below_own Hb5.out Ho5.out hg6 Hb5.out.size)
             have Ho6 := Lib.hid hown6
             clear hown6 hg6)
          | (at_builtin
             refine wpList_append_has rfl (.tmp 31) (.tmp 32) _ rfl 5 u8_elem Try.underlying25 rfl Ho6.out rfl (Hx4.out.below Hb6.out) (byteCells_one _) (by simp only [maxLen]; omega) (by omega) Hb6.out.size ?_
             intro v7 w7 hown7 hg7 _
             have Hb7 := Lib.hid (below_own Hb6.out Ho6.out hg7 Hb6.out.size)
             have Ho7 := Lib.hid hown7
             clear hown7 hg7))
      have Ha7 := Lib.hid ((Ha4.out.below Hb7.out).more Hb7.out.size)
      have Ht7 := Lib.hid ((Ht4.out.below Hb7.out).more Hb7.out.size)
      have Hx7 := Lib.hid ((Hx4.out.below Hb7.out).more Hb7.out.size)
      obtain ⟨A7, c7, rfl, _, _, hh7⟩ := own_slice Ho7.out
      have Hall7 := Lib.hid hh7
      have H7 := Lib.hid (H4.out.belowOf Hb7.out hC4)
      have hC7 := Nat.le_trans hC4 Hb7.out.size
      have Hw7 := Lib.hid (Hb4.out.trans (Hb7.out.mono Hb4.out.size))
      clear hh7 Ha4 Ht4 Hx4 Hb7 Ho7 Hb6 Ho6 Hb5 Ho5 Hlit Hbl H4 hC4 Hb4
      refine (num_any k _ hk).mono ?_
      rintro e w8 ⟨v8, rfl, hown8, hb8⟩
      change w8.ownsRow w7.heap.size 5 1 v8 (intForm k).length (byteCells (intForm k)) at hown8
      obtain ⟨A8, c8, rfl, _, _, hh8⟩ := own_slice hown8
      have Ha8 := Lib.hid ((Ha7.out.below hb8).more hb8.size)
      have Ht8 := Lib.hid ((Ht7.out.below hb8).more hb8.size)
      have Hx8 := Lib.hid ((Hx7.out.below hb8).more hb8.size)
      have Hall8 := Lib.hid ((Hall7.out.below hb8).more hb8.size)
      have H8 := Lib.hid (H7.out.belowOf hb8 hC7)
      have hC8 := Nat.le_trans hC7 hb8.size
      have Hw8 := Lib.hid (Hw7.out.trans (hb8.mono Hw7.out.size))
      have Hh8 := Lib.hid hh8
      clear hb8 hown8 hh8 Ha7 Ht7 Hx7 Hall7 H7 hC7 Hw7
      go_wp2_with fail
      refine (same_true A8 A2 _ _ c8 c2 _ _ _ _ Hh8.out Ha8.out).mono ?_
      rintro e _ ⟨rfl, rfl⟩
      go_wp2_with fail
      refine (text_any s _ (by omega)).mono ?_
      rintro e w9 ⟨v9, rfl, hown9, hb9⟩
      obtain ⟨A9, c9, rfl, _, _, hh9⟩ := own_slice hown9
      have Ha9 := Lib.hid ((Ha8.out.below hb9).more hb9.size)
      have Ht9 := Lib.hid ((Ht8.out.below hb9).more hb9.size)
      have Hx9 := Lib.hid ((Hx8.out.below hb9).more hb9.size)
      have Hall9 := Lib.hid ((Hall8.out.below hb9).more hb9.size)
      have H9 := Lib.hid (H8.out.belowOf hb9 hC8)
      have hC9 := Nat.le_trans hC8 hb9.size
      have Hw9 := Lib.hid (Hw8.out.trans (hb9.mono Hw8.out.size))
      have Hh9 := Lib.hid hh9
      clear hb9 hown9 hh9 Ha8 Ht8 Hx8 Hall8 H8 hC8 Hw8 Hh8
      go_wp2_with fail
      refine (same_true A9 A3 _ _ c9 c3 _ _ _ _ Hh9.out Ht9.out).mono ?_
      rintro e _ ⟨rfl, rfl⟩
      go_wp2_with fail
      refine (texts_any A n c C ss _ H9.out hC9 Hbody.out (by omega)).mono ?_
      rintro e wa ⟨va, rfl, howna, hba⟩
      obtain ⟨Aa, ca, rfl, _, _, hha⟩ := own_slice howna
      have Haa := Lib.hid ((Ha9.out.below hba).more hba.size)
      have Hta := Lib.hid ((Ht9.out.below hba).more hba.size)
      have Hxa := Lib.hid ((Hx9.out.below hba).more hba.size)
      have Halla := Lib.hid ((Hall9.out.below hba).more hba.size)
      have Hwa := Lib.hid (Hw9.out.trans (hba.mono Hw9.out.size))
      have Hha := Lib.hid hha
      clear hba howna hha Ha9 Ht9 Hx9 Hall9 H9 hC9 Hw9 Hh9
      go_wp2_with fail
      refine (same_true Aa A4 _ _ ca c4 _ _ _ _ Hha.out Hxa.out).mono ?_
      rintro e _ ⟨rfl, rfl⟩
      go_wp2_with fail
      have hparts := parts3 wa A2 A3 A4 _ _ _ c2 c3 c4 _ _ _ 25 Haa.out Hta.out Hxa.out
      have Hbp := Lib.hid (Hwa.out.alloc Hwa.out.size (.cells #[.slice A2 (intForm k).length c2, .slice A3 (textForm s.data.toList).length c3, .slice A4 (textsForm (raw ss)).length c4] 25))
      refine (join_any _ 3 3 _ _ _ _ hparts (by simp) (by simp [flat]; omega) (by omega)).mono ?_
      rintro e wb ⟨vb, rfl, hownb, hbb⟩
      obtain ⟨Ab, cb, rfl, _, _, hhb⟩ := own_slice hownb
      have Hallb := Lib.hid (Halla.out.belowOf (((Below.refl _ wa).alloc (Nat.le_refl _) (.cells #[.slice A2 (intForm k).length c2, .slice A3 (textForm s.data.toList).length c3, .slice A4 (textsForm (raw ss)).length c4] 25)).trans (hbb.mono (by simp))) (Nat.le_refl _))
      have Hwb := Lib.hid (Hbp.out.trans (hbb.mono Hbp.out.size))
      have Hhb := Lib.hid hhb
      clear hbb hownb hhb Haa Hta Hxa Halla Hwa Hha hparts Hbp
      have hfl : (#[] : Array Value).toList ++ byteCells (intForm k) ++ byteCells (textForm s.data.toList) ++ byteCells (textsForm (raw ss)) = byteCells (flat [intForm k, textForm s.data.toList, textsForm (raw ss)]) := by
        simp [flat, byteCells]
      have Hallc : Hid (HasBytes wb wa.heap.size A7 ((intForm k).length + (textForm s.data.toList).length + (textsForm (raw ss)).length) (flat [intForm k, textForm s.data.toList, textsForm (raw ss)])) := Lib.hid (by have := Hallb.out; rw [hfl, Nat.zero_add] at this; exact this)
      clear hfl Hallb
      go_wp2_with fail
      refine (same_true Ab A7 _ _ cb c7 _ _ _ _ Hhb.out Hallc.out).mono ?_
      rintro e _ ⟨rfl, rfl⟩
      go_wp2_with fail
      refine (join_any none 0 0 0 [] [] wb ⟨Has.nil _ _ _, rfl, fun k hk => absurd hk (by simp)⟩ (Nat.zero_le _) (by simp [flat]) (by omega)).mono ?_
      rintro e wc ⟨vc, rfl, hownc, hbc⟩
      obtain ⟨Ac, cc, rfl, _, _, _⟩ := own_slice hownc
      have Hwc := Lib.hid (Hwb.out.trans (hbc.mono Hwb.out.size))
      clear hownc hbc
      go_wp2
      go_ret
      exact ⟨rfl, Hwc.out⟩

namespace lawPuts
open Go.ChangeShapes Go.WideShapes Go.ChangeAt

theorem own : ownKnob Try.prog.godebug = none := by kernel_rfl
theorem kids : Kids Try.prog (· < Try.prog.types.size) := kids_rows (by kernel_rfl) (by kernel_rfl)
theorem full : ∀ t e, t < Try.prog.types.size → Try.prog.underlying t = some (.slice e) → 0 < Try.prog.cellsOf e := slices_full_of Try.prog (by kernel_rfl)

set_option maxRecDepth 100000 in
theorem lifted (os : Os) (started : os.Started) (H : Type) (enc : TypeId × Value → H) :
    ReturnsInHanded {} Try.checked os 3 .any (Rows.packPutsSpec.pre6 enc Try.prog Try.f3 Rows.packPutsRow.domain false) (Rows.packPutsSpec.post enc Try.prog Try.f3 false true false false) := by
  refine returnsInHanded_of_change (C := Try.checked) own started (by kernel_rfl) Try.func3
    (ChangeSpec.witness6 (enc := enc) (C := Try.checked) false ⟨#[], #[.int .i64 0, .string ⟨#[]⟩, .slice none 0 0], []⟩ 8 (by kernel_rfl) (by kernel_rfl) (by kernel_rfl) (by kernel_rfl)) ?_
  intro W base args ds gs before hval0 hW _ _
  have hval : ∀ (j : Nat) t v, Try.f3.params[j]? = some t → args[j]? = some v → Value.okWide Try.prog W .any base t v := hval0
  have hW' := hW
  obtain ⟨p, q, hA0, hV, rfl, _, _⟩ := hW
  obtain ⟨rfl, rfl⟩ := trodVars_none hV
  have hA : DataW.TrodAll enc Try.prog W 0 (fun _ => true) true Try.f3.params.toList args.toList ds p := hA0
  rw [Try.params3] at hA hval
  obtain ⟨v0, vs0, d0, ds0, p0, q0, hargs, rfl, rfl, h0, r0⟩ := trodAll_cons hA
  obtain ⟨v1, vs1, d1, ds1, p1, q1, rfl, rfl, rfl, h1, r1⟩ := trodAll_cons r0
  obtain ⟨v2, vs2, d2, ds2, p2, q2, rfl, rfl, rfl, h2, r2⟩ := trodAll_cons r1
  obtain ⟨rfl, rfl, rfl⟩ := trodAll_nil r2
  obtain rfl : args = #[v0, v1, v2] := by cases args; simp_all
  have hlt := hW'.lt
  obtain ⟨k0, rfl, _, _, wf0⟩ := open_int Try.underlying3 (hval 0 3 v0 rfl rfl) h0
  have bd0 := bounds_i64 wf0
  obtain ⟨s1, rfl, _, _, ws1⟩ := Go.ChangeMaps.open_string Try.underlying9 (hval 1 9 v1 rfl rfl) h1
  obtain ⟨A2, n2, c2, ss2, rfl, hn2, hnc2, hb2, hw2⟩ := open_texts Try.underlying22 Try.underlying9 (by kernel_rfl) (hval 2 22 v2 rfl rfl) h2 (fun x hx => hlt x (by simp [hx]))
  refine (packPuts_walk A2 n2 c2 W.heap.size k0 s1 ss2 W hb2 (Nat.le_refl _) hn2 hw2 ws1 (by omega)).mono fun e W' ⟨he, hbel⟩ => ?_
  subst he
  exact ⟨_, rfl, law_post kids full (of_decide_eq_true (by kernel_rfl)) Try.underlying4 rfl rfl rfl hW' hbel⟩

theorem proved : Rows.PackPutsSaid :=
  OpenClaim.holds_of_wide 3 Try.f3 rfl rfl rfl rfl rfl rfl rfl ⟨rfl, rfl, rfl, rfl, rfl⟩ rfl rfl rfl rfl rfl (by kernel_rfl) Try.func3 (by kernel_rfl)
    (of_decide_eq_true (by kernel_rfl)) (by unfold Func.isWrapper; first | (rw [if_pos (by decide +kernel)]; kernel_rfl) | (rw [if_neg (by decide +kernel)]; exact ⟨rfl, rfl⟩))
    (fun os started H enc _ => lifted os started H enc)
end lawPuts

end Go.Proofs.Ytlmocflgphbiaaa

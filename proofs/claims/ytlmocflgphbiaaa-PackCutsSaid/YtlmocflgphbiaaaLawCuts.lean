/- The law PackCuts: for every input it returns true and leaves what it was given. No condition. -/
import Derived.Test.YtlmocflgphbiaaaLawPuts
import Derived.Test.YtlmocflgphbiaaaWalkI
namespace Go.Proofs.Ytlmocflgphbiaaa
open Go.RowKit
open Go.Lib (strCells)

set_option maxRecDepth 100000 in
set_option maxHeartbeats 1600000 in
theorem packCuts_walk (A : Option Addr) (n c C : Nat) (k : Int) (s : ByteArray) (ss : List ByteArray) (w : World) (h : HasTexts w C A n ss) (hC : C ≤ w.heap.size) (hn : n ≤ maxLen) (hss : ∀ s ∈ ss, s.size ≤ maxLen)
    (hs : s.size ≤ maxLen) (hk : k < 9223372036854775808) :
    Calls Try.prog 8 #[.int .i64 k, .string s, .slice A n c] w fun e w' => e = .returned (.bool true) ∧ Below w.heap.size w w' := by
  have hs' := hs
  unfold maxLen at hs'
  have H := Lib.hid h
  clear h
  by_cases hneg : k < 0
  · go_enter Try.func8, Try.ntmps8
    go_wp2_with fail
    refine (awake_any _).mono ?_
    rintro e w1 ⟨rfl, hb1⟩
    go_wp2_with fail
    go_ret
    exact ⟨rfl, hb1⟩
  · by_cases hbig : 1000 < s.size
    · go_enter Try.func8, Try.ntmps8
      go_wp2_with fail
      refine (awake_any _).mono ?_
      rintro e w1 ⟨rfl, hb1⟩
      go_wp2_with fail
      go_ret
      exact ⟨rfl, hb1⟩
    · have Hbulk : Hid (∀ W, HasTexts W C A n ss → Calls Try.prog 11 #[.slice A n c, .int .i64 1000] W (BulkPost ss 1000 W)) :=
        Lib.hid fun W hW => bulk_any A n c C 1000 ss W hW hn (by omega) hss
      go_enter Try.func8, Try.ntmps8
      go_wp2_with fail
      refine (awake_any _).mono ?_
      rintro e w1 ⟨rfl, hb1⟩
      have H1 := Lib.hid (H.out.belowOf hb1 hC)
      have hC1 := Nat.le_trans hC hb1.size
      have Hb1 := Lib.hid hb1
      clear hb1
      go_wp2_with fail
      refine (Hbulk.out _ H1.out).mono ?_
      rintro e _ ⟨r, rfl, hr, rfl⟩
      by_cases hr3 : 1000 < r
      · go_wp2_with fail
        go_ret
        exact ⟨rfl, Hb1.out⟩
      · have ht := hr (by omega)
        obtain ⟨hln, hsm, hbody⟩ := tot_body (most := 1000) ss (by omega) ht
        have hnn : n ≤ 1000 := by rw [← H.out.len]; exact hln
        have htf : (textForm s.data.toList).length ≤ 1009 := by rw [textForm_len, size_bytes]; have := numForm_len9 (k := s.size) (by omega); omega
        have hxf : (textsForm (raw ss)).length ≤ 10009 := by rw [textsForm, List.length_append]; have := numForm_len9 (k := (raw ss).length) (by simp [raw]; omega); omega
        have Hbody : Hid ((textsBody (raw ss)).length ≤ 1000000) := Lib.hid (by omega)
        have Hsm : Hid (∀ x ∈ raw ss, x.length < 9223372036854775808 ∧ x.length ≤ (1000 : Int)) := Lib.hid fun x hx => by
          simp only [raw, List.mem_map] at hx
          obtain ⟨y, hy, rfl⟩ := hx
          have := hsm y hy
          rw [size_bytes]
          omega
        have Hrl : Hid ((raw ss).length = n) := Lib.hid (by rw [raw, List.length_map, H.out.len])
        obtain ⟨q, rfl⟩ : ∃ q : Nat, k = q := ⟨k.toNat, by omega⟩
        have Hnum : Hid (∀ W : World, Calls Try.prog 16 #[.int .i64 (q : Int)] W (Gives W.heap.size (numForm q).length (byteCells (numForm q)) W)) := Lib.hid fun W => by
          have := num_any q W (by omega)
          rw [if_neg (by omega), Int.toNat_natCast] at this
          exact this
        have hnf := numForm_len9 (k := q) (by omega)
        have HN : Hid (∀ i, i < (numForm q).length → getNum ((numForm q).take i) 0 = (0, 0, 2)) := Lib.hid fun i hi =>
          getNum_cut (p := 0) (i := i) (n := q) (by omega) (Nat.zero_le _) hi rfl
        have HT : Hid (∀ i, i < (textForm s.data.toList).length → getText ((textForm s.data.toList).take i) 0 1000 = ([], 0, 2)) := Lib.hid fun i hi =>
          getText_cut (p := 0) (i := i) (s := s.data.toList) (by rw [size_bytes]; omega) (by rw [size_bytes]; omega) (Nat.zero_le _) hi rfl
        have HX : Hid (∀ i, i < (textsForm (raw ss)).length → getTexts ((textsForm (raw ss)).take i) 0 1000 1000 = ([], 0, 2)) := Lib.hid fun i hi =>
          getTexts_cut (p := 0) (i := i) (L := raw ss) Hsm.out (by have := Hrl.out; omega) (by have := Hrl.out; omega) (Nat.zero_le _) hi rfl
        clear hr ht hln hsm hbody hk
        go_wp2_with fail
        refine (Hnum.out _).mono ?_
        rintro e w2 ⟨v2, rfl, hown2, hb2⟩
        obtain ⟨A2, c2, rfl, hc2, _, hh2⟩ := own_slice hown2
        have Ha2 := Lib.hid hh2
        have Hb2 := Lib.hid (Hb1.out.trans (hb2.mono Hb1.out.size))
        have H2 := Lib.hid (H1.out.belowOf hb2 hC1)
        have hC2 := Nat.le_trans hC1 hb2.size
        clear hown2 hb2 hh2
        go_wp2_with fail
        refine (text_any s _ (by omega)).mono ?_
        rintro e w3 ⟨v3, rfl, hown3, hb3⟩
        obtain ⟨A3, c3, rfl, hc3, _, hh3⟩ := own_slice hown3
        have Ha3 := Lib.hid ((Ha2.out.below hb3).more hb3.size)
        have Ht3 := Lib.hid hh3
        have Hb3 := Lib.hid (Hb2.out.trans (hb3.mono Hb2.out.size))
        have H3 := Lib.hid (H2.out.belowOf hb3 hC2)
        have hC3 := Nat.le_trans hC2 hb3.size
        clear hown3 hb3 hh3 Ha2
        go_wp2_with fail
        refine (texts_any A n c C ss _ H3.out hC3 Hbody.out (by omega)).mono ?_
        rintro e w4 ⟨v4, rfl, hown4, hb4⟩
        obtain ⟨A4, c4, rfl, hc4, _, hh4⟩ := own_slice hown4
        have Ha4 := Lib.hid ((Ha3.out.below hb4).more hb4.size)
        have Ht4 := Lib.hid ((Ht3.out.below hb4).more hb4.size)
        have Hx4 := Lib.hid hh4
        have Hb4 := Lib.hid (Hb3.out.trans (hb4.mono Hb3.out.size))
        clear hown4 hb4 hh4 Ha3 Ht3 H2 H3 H1
        go_wp2_with fail
        go_loop [10, 11, 12, 13] (fun i _ _ _ => ∃ j : Nat, j ≤ (numForm q).length ∧ i = .int .i64 (j : Int)) (fun i _ _ _ => (numForm q).length - (intOf i).toNat)
        case atStart => exact ⟨0, by omega, rfl⟩
        case round =>
          obtain ⟨j, hj, rfl⟩ := hrel
          by_cases hjl : j < (numForm q).length
          · have hj0 : (0 : Int) ≤ (j : Int) := by omega
            have hjc : (j : Int) ≤ (c2 : Int) := by omega
            have hcl := getNum_any A2 j c2 _ 0 _ w4 (HasBytes.head Ha4.out (k := j) (by omega)) (by simp only [maxLen]; omega) (by omega)
            rw [HN.out j hjl] at hcl
            have Hcl := Lib.hid hcl
            clear hcl
            go_wp2_with fail
            refine Hcl.out.mono ?_
            rintro e _ ⟨rfl, rfl⟩
            go_wp2
            go_round
            case rel => exact ⟨j + 1, by omega, by go_num⟩
            case measure => simp [intOf]; omega
          · go_wp2
            go_loop [14, 15, 16, 17] (fun i _ _ _ => ∃ j : Nat, j ≤ (textForm s.data.toList).length ∧ i = .int .i64 (j : Int)) (fun i _ _ _ => (textForm s.data.toList).length - (intOf i).toNat)
            case atStart => exact ⟨0, by omega, rfl⟩
            case round =>
              obtain ⟨j2, hj2, rfl⟩ := hrel
              by_cases hjl2 : j2 < (textForm s.data.toList).length
              · have hj0 : (0 : Int) ≤ (j2 : Int) := by omega
                have hjc : (j2 : Int) ≤ (c3 : Int) := by omega
                have hcl := getText_any A3 j2 c3 _ 0 1000 _ w4 (HasBytes.head Ht4.out (k := j2) (by omega)) (by omega) (by omega)
                rw [HT.out j2 hjl2] at hcl
                have Hcl := Lib.hid hcl
                clear hcl
                go_wp2_with fail
                refine Hcl.out.mono ?_
                rintro e _ ⟨rfl, rfl⟩
                go_wp2
                go_round
                case rel => exact ⟨j2 + 1, by omega, by go_num⟩
                case measure => simp [intOf]; omega
              · go_wp2
                go_loopw [18, 19, 20, 21] (fun i _ _ _ wr => ∃ j : Nat, j ≤ (textsForm (raw ss)).length ∧ i = .int .i64 (j : Int) ∧ Below w4.heap.size w4 wr) (fun i _ _ _ _ => (textsForm (raw ss)).length - (intOf i).toNat)
                case atStart => exact ⟨0, by omega, rfl, Below.refl _ _⟩
                case round =>
                  obtain ⟨j3, hj3, rfl, hbr⟩ := hrel
                  have Hbr := Lib.hid hbr
                  have hszr := hbr.size
                  clear hbr
                  by_cases hjl3 : j3 < (textsForm (raw ss)).length
                  · have hj0 : (0 : Int) ≤ (j3 : Int) := by omega
                    have hjc : (j3 : Int) ≤ (c4 : Int) := by omega
                    have hcl := getTexts_any A4 j3 c4 _ 0 1000 1000 _ wr (HasBytes.head (Hx4.out.below Hbr.out) (k := j3) (by omega)) hszr (by omega) (by omega)
                    rw [HX.out j3 hjl3] at hcl
                    have Hcl := Lib.hid hcl
                    clear hcl
                    go_wp2_with fail
                    refine Hcl.out.mono ?_
                    rintro e w5 ⟨v5, rfl, hown5, hb5⟩
                    have Hb5 := Lib.hid (Hbr.out.trans (hb5.mono hszr))
                    clear hown5 hb5
                    go_wp2
                    go_roundw
                    case rel => exact ⟨j3 + 1, by omega, by go_num, Hb5.out⟩
                    case measure => simp [intOf]; omega
                  · go_wp2
                    go_ret
                    exact ⟨rfl, Hb4.out.trans (Hbr.out.mono Hb4.out.size)⟩

namespace lawCuts
open Go.ChangeShapes Go.WideShapes Go.ChangeAt

theorem own : ownKnob Try.prog.godebug = none := by kernel_rfl
theorem kids : Kids Try.prog (· < Try.prog.types.size) := kids_rows (by kernel_rfl) (by kernel_rfl)
theorem full : ∀ t e, t < Try.prog.types.size → Try.prog.underlying t = some (.slice e) → 0 < Try.prog.cellsOf e := slices_full_of Try.prog (by kernel_rfl)

set_option maxRecDepth 100000 in
theorem lifted (os : Os) (started : os.Started) (H : Type) (enc : TypeId × Value → H) :
    ReturnsInHanded {} Try.checked os 8 .any (Rows.packCutsSpec.pre6 enc Try.prog Try.f8 Rows.packCutsRow.domain false) (Rows.packCutsSpec.post enc Try.prog Try.f8 false true false false) := by
  refine returnsInHanded_of_change (C := Try.checked) own started (by kernel_rfl) Try.func8
    (ChangeSpec.witness6 (enc := enc) (C := Try.checked) false ⟨#[], #[.int .i64 0, .string ⟨#[]⟩, .slice none 0 0], []⟩ 8 (by kernel_rfl) (by kernel_rfl) (by kernel_rfl) (by kernel_rfl)) ?_
  intro W base args ds gs before hval0 hW _ _
  have hval : ∀ (j : Nat) t v, Try.f8.params[j]? = some t → args[j]? = some v → Value.okWide Try.prog W .any base t v := hval0
  have hW' := hW
  obtain ⟨p, q, hA0, hV, rfl, _, _⟩ := hW
  obtain ⟨rfl, rfl⟩ := trodVars_none hV
  have hA : DataW.TrodAll enc Try.prog W 0 (fun _ => true) true Try.f8.params.toList args.toList ds p := hA0
  rw [Try.params8] at hA hval
  obtain ⟨v0, vs0, d0, ds0, p0, q0, hargs, rfl, rfl, h0, r0⟩ := trodAll_cons hA
  obtain ⟨v1, vs1, d1, ds1, p1, q1, rfl, rfl, rfl, h1, r1⟩ := trodAll_cons r0
  obtain ⟨v2, vs2, d2, ds2, p2, q2, rfl, rfl, rfl, h2, r2⟩ := trodAll_cons r1
  obtain ⟨rfl, rfl, rfl⟩ := trodAll_nil r2
  obtain rfl : args = #[v0, v1, v2] := by cases args; simp_all
  have hlt := hW'.lt
  obtain ⟨k0, rfl, _, _, wf0⟩ := open_int Try.underlying3 (hval 0 3 v0 rfl rfl) h0
  have bd0 := bounds_i64 wf0
  obtain ⟨s1, rfl, _, _, ws1⟩ := Go.ChangeMaps.open_string Try.underlying9 (hval 1 9 v1 rfl rfl) h1
  obtain ⟨A2, n2, c2, ss2, rfl, hn2, hnc2, hb2, hw2⟩ := open_texts Try.underlying22 Try.underlying9 (by kernel_rfl) (hval 2 22 v2 rfl rfl) h2 (fun x hx => hlt x (by simp [hx]))
  refine (packCuts_walk A2 n2 c2 W.heap.size k0 s1 ss2 W hb2 (Nat.le_refl _) hn2 hw2 ws1 (by omega)).mono fun e W' ⟨he, hbel⟩ => ?_
  subst he
  exact ⟨_, rfl, law_post kids full (of_decide_eq_true (by kernel_rfl)) Try.underlying4 rfl rfl rfl hW' hbel⟩

theorem proved : Rows.PackCutsSaid :=
  OpenClaim.holds_of_wide 8 Try.f8 rfl rfl rfl rfl rfl rfl rfl ⟨rfl, rfl, rfl, rfl, rfl⟩ rfl rfl rfl rfl rfl (by kernel_rfl) Try.func8 (by kernel_rfl)
    (of_decide_eq_true (by kernel_rfl)) (by unfold Func.isWrapper; first | (rw [if_pos (by decide +kernel)]; kernel_rfl) | (rw [if_neg (by decide +kernel)]; exact ⟨rfl, rfl⟩))
    (fun os started H enc _ => lifted os started H enc)
end lawCuts

end Go.Proofs.Ytlmocflgphbiaaa

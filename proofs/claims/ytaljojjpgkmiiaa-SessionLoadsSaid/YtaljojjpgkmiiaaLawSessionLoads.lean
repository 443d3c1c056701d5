/- SessionLoads: any text is the end that the document says, or refused by the first error; what is loaded saves itself as it was. No condition. -/
import Derived.Test.YtaljojjpgkmiiaaSesH
import Derived.Test.YtaljojjpgkmiiaaSesK
import Derived.Test.YtaljojjpgkmiiaaRow
import Derived.Test.YtaljojjpgkmiiaaOpen
import Derived.Deep.RegionHeld3
namespace Go.Proofs.Ytaljojjpgkmiiaa
open Go.RowKit
open Go.Lib (strCells)

theorem save_body {E : SE} : (textsBody (raw E.l)).length ≤ E.save.length := by
  unfold SE.save textsForm
  simp only [List.length_append]
  omega
theorem text_back {s : ByteArray} {b : List UInt8} (h : s.data.toList = b) : (⟨b.toArray⟩ : ByteArray) = s := by
  subst h
  rfl
set_option maxRecDepth 100000 in
set_option maxHeartbeats 12800000 in
theorem loads15_walk (s : ByteArray) (w : World) : Calls Try.prog 4 #[.string s] w fun e w' => e = .returned (.bool true) ∧ Below w.heap.size w w' := by
  by_cases hs : 3000 < s.size
  · have g1 : (3000 : Int) < (s.size : Int) := by omega
    clear hs
    go_enter Try.func4, Try.ntmps4
    go_wp2_with fail
    refine (awake15_any w).mono ?_
    rintro e w1 ⟨rfl, b1⟩
    have Hb1 := Lib.hid b1
    clear b1
    go_wp2
    go_ret
    exact ⟨rfl, Hb1.out⟩
  · have g1 : ¬ (3000 : Int) < (s.size : Int) := by omega
    obtain ⟨b, hb⟩ : ∃ b, s.data.toList = b := ⟨_, rfl⟩
    have hbl : b.length = s.size := by rw [← hb]; exact (Lib.size_eq s).symm
    have HL := Lib.hid (fun wx => sesLoad_any s wx (by omega))
    have HR := Lib.hid (fun wx => refLoad_any s wx (by omega))
    rw [hb] at HL HR
    obtain ⟨E, z, hz⟩ : ∃ E z, loadT b = (E, z) := ⟨_, _, rfl⟩
    have HGd : Hid (z = 0 → E.Good ∧ (⟨E.save.toArray⟩ : ByteArray) = s ∧ (textsBody (raw E.l)).length ≤ 1000000) := Lib.hid fun h0 => by
      have h1 : (loadT b).2 = 0 := by rw [hz]; exact h0
      have h2 := loadT_good h1
      have h3 := loadT_back h1
      rw [hz] at h2 h3
      simp only at h2 h3
      refine ⟨h2, by rw [h3]; exact text_back hb, ?_⟩
      have := save_body (E := E)
      rw [h3] at this
      omega
    unfold LoadP at HL
    unfold RLoadP at HR
    rw [hz] at HL HR
    clear hs hb hbl hz
    by_cases h0 : z = 0
    · subst h0
      obtain ⟨hg, hsv, hbd⟩ := HGd.out rfl
      have Hg := Lib.hid hg
      have Hsv := Lib.hid hsv
      have Hbd := Lib.hid hbd
      clear hg hsv hbd HGd
      go_enter Try.func4, Try.ntmps4
      go_wp2_with fail
      refine (awake15_any w).mono ?_
      rintro e w1 ⟨rfl, b1⟩
      have Hb1 := Lib.hid b1
      clear b1
      go_wp2_with fail
      refine (HL.out w1).mono ?_
      rintro e w2 (⟨h9, -⟩ | ⟨-, g, v, rfl, h2, b2⟩)
      · exact absurd rfl h9
      have H2 := Lib.hid (And.intro h2 (Hb1.out.trans (b2.mono Hb1.out.size)))
      clear h2 b2
      go_wp2_with fail
      refine (HR.out w2).mono ?_
      rintro e w3 (⟨h9, -⟩ | ⟨-, rg, rv, rfl, h3, b3⟩)
      · exact absurd rfl h9
      have H3 := Lib.hid (And.intro h3 (And.intro (H2.out.1.below b3) (H2.out.2.trans (b3.mono H2.out.2.size))))
      clear h3 b3
      go_wp2_with fail
      refine (refPost_any H3.out.1 300).mono ?_
      rintro e w4 ⟨At, ct, f, rfl, hct, ht, hpo, hf, b4⟩
      obtain ⟨m, hm⟩ : ∃ m : Nat, E.m = m := ⟨_, rfl⟩
      have hrb := (H3.out.1.below b4).box
      rw [hm] at hrb
      have H4 := Lib.hid (And.intro hrb (And.intro (H3.out.2.1.below b4) (And.intro (H3.out.2.2.trans (b4.mono H3.out.2.2.size)) (And.intro ht hpo))))
      have Hf := Lib.hid hf
      have Hs4 := Lib.hid b4.size
      obtain ⟨N, hN⟩ : ∃ N, (E.post 300).length = N := ⟨_, rfl⟩
      have HN := Lib.hid hN
      have hN256 : N ≤ 256 := by rw [← hN, hpo, itemsFrom_len, List.length_take]; have := Hg.out.ll; omega
      have HN2 := Lib.hid hN256
      have Hm := Lib.hid hm
      have q0 : w4.cell? ⟨rg, 0, none⟩ = some (.int .i64 m) := hrb.cell 0
      have HK : Hid (∀ wx, Below w4.heap.size w4 wx → wx.cell? ⟨rg, 0, none⟩ = some (.int .i64 m) ∧ Below w4.heap.size w4 wx) := Lib.hid fun wx hx => ⟨(H4.out.1.below hx H4.out.1.lt).cell 0, hx⟩
      rw [hN]
      clear hrb ht hpo hf b4 hct hN hN256 hm
      go_wp2
      go_region_held3 (fun wx => wx.cell? ⟨rg, 0, none⟩ = some (.int .i64 m) ∧ Below w4.heap.size w4 wx)
        (first | exact HK.out _ (Below.refl _ _).drew | exact HK.out _ (And.right (by assumption)) | exact HK.out _ (below_thn (And.right (by assumption)) b7 (And.right (by assumption) : Below w4.heap.size w4 _).size) | exact HK.out _ (below_thn (And.right (by assumption)) b6 (And.right (by assumption) : Below w4.heap.size w4 _).size) | exact HK.out _ (below_thn (And.right (by assumption)) b5 (And.right (by assumption) : Below w4.heap.size w4 _).size))
        (first
          | (go_at_call 26; refine (sesSave_any (H4.out.2.1.below (And.right (by assumption))) Hbd.out).mono ?_; rw [Hsv.out]; rintro e w5 ⟨rfl, b5⟩)
          | (go_at_call 29; refine (sesMark_any (H4.out.2.1.below (And.right (by assumption)))).mono ?_; rw [Hm.out]; rintro e w9 ⟨rfl, rfl⟩)
          | (go_at_call 21; refine (sesPost_any (H4.out.2.1.below (And.right (by assumption))) 300).mono ?_; rintro e w6 ⟨v6, rfl, o6, b6⟩; obtain ⟨Ai, ci, rfl, -, -, hi⟩ := o6.slice; rw [HN.out] at hi ⊢; rw [H4.out.2.2.2.2] at hi; have ht6 := H4.out.2.2.2.1.belowOf (below_thn (And.right (by assumption)) b6 (And.right (by assumption) : Below w4.heap.size w4 _).size) Hs4.out; rw [HN.out] at ht6; have hi6 := Lib.hid hi)
          | (go_at_call 20; refine (same15_any _ _ _ _ _ _ _ _ _ _ hi6.out ht6 (by have := Hf.out; have := HN2.out; omega)).mono ?_; rintro e w7 ⟨rfl, b7⟩))
      all_goals
        have HB7 : Hid (Below w.heap.size w w7) := Lib.hid (H4.out.2.2.1.trans ((And.right (by assumption) : Below w4.heap.size w4 w7).mono H4.out.2.2.1.size))
        clear o6 hi b5 b6 b7 ht6
        go_wp2
        go_ret
        exact ⟨rfl, HB7.out⟩
    · have e1 : ((z : Int) != (z : Int)) = false := by simp
      go_enter Try.func4, Try.ntmps4
      go_wp2_with fail
      refine (awake15_any w).mono ?_
      rintro e w1 ⟨rfl, b1⟩
      have Hb1 := Lib.hid b1
      clear b1
      go_wp2_with fail
      refine (HL.out w1).mono ?_
      rintro e w2 (⟨-, rfl, b2⟩ | ⟨h9, -⟩)
      · have Hb2 := Lib.hid (Hb1.out.trans (b2.mono Hb1.out.size))
        clear b2
        go_wp2_with fail
        refine (HR.out w2).mono ?_
        rintro e w3 (⟨-, rfl, b3⟩ | ⟨h9, -⟩)
        · have Hb3 := Lib.hid (Hb2.out.trans (b3.mono Hb2.out.size))
          clear b3
          go_wp2
          go_ret
          exact ⟨rfl, Hb3.out⟩
        · exact absurd h9 h0
      · exact absurd h9 h0

namespace lawSessionLoads
open Go.ChangeShapes Go.WideShapes Go.ChangeAt

theorem own : ownKnob Try.prog.godebug = none := by kernel_rfl
theorem kids : Kids Try.prog (· < Try.prog.types.size) := kids_rows (by kernel_rfl) (by kernel_rfl)
theorem full : ∀ t e, t < Try.prog.types.size → Try.prog.underlying t = some (.slice e) → 0 < Try.prog.cellsOf e := slices_full_of Try.prog (by kernel_rfl)

set_option maxRecDepth 100000 in
theorem lifted (os : Os) (started : os.Started) (H : Type) (enc : TypeId × Value → H) :
    ReturnsInHanded {} Try.checked os 4 .any (Rows.sessionLoadsSpec.pre6 enc Try.prog Try.f4 Rows.sessionLoadsRow.domain false) (Rows.sessionLoadsSpec.post enc Try.prog Try.f4 false true false false) := by
  refine returnsInHanded_of_change (C := Try.checked) own started (by kernel_rfl) Try.func4
    (ChangeSpec.witness6 (enc := enc) (C := Try.checked) false ⟨#[], #[.string ⟨#[]⟩], []⟩ 8 (by kernel_rfl) (by kernel_rfl) (by kernel_rfl) (by kernel_rfl)) ?_
  intro W base args ds gs before hval0 hW _ _
  have hval : ∀ (j : Nat) t v, Try.f4.params[j]? = some t → args[j]? = some v → Value.okWide Try.prog W .any base t v := hval0
  have hW' := hW
  obtain ⟨p, q, hA0, hV, rfl, _, _⟩ := hW
  obtain ⟨rfl, rfl⟩ := trodVars_none hV
  have hA : DataW.TrodAll enc Try.prog W 0 (fun _ => true) true Try.f4.params.toList args.toList ds p := hA0
  rw [Try.params4] at hA hval
  obtain ⟨v0, vs0, d0, ds0, p0, q0, hargs, rfl, rfl, h0, r0⟩ := trodAll_cons hA
  obtain ⟨rfl, rfl, rfl⟩ := trodAll_nil r0
  obtain rfl : args = #[v0] := by cases args; simp_all
  have hlt := hW'.lt
  obtain ⟨s0, rfl, _, _, ws0⟩ := Go.ChangeMaps.open_string Try.underlying9 (hval 0 9 v0 rfl rfl) h0
  refine (loads15_walk s0 W).mono fun e W' ⟨he, hbel⟩ => ?_
  subst he
  exact ⟨_, rfl, law_post kids full (of_decide_eq_true (by kernel_rfl)) Try.underlying4 rfl rfl rfl hW' hbel⟩

theorem proved : Rows.SessionLoadsSaid :=
  OpenClaim.holds_of_wide 4 Try.f4 rfl rfl rfl rfl rfl rfl rfl ⟨rfl, rfl, rfl, rfl, rfl⟩ rfl rfl rfl rfl rfl (by kernel_rfl) Try.func4 (by kernel_rfl)
    (of_decide_eq_true (by kernel_rfl)) (by unfold Func.isWrapper; first | (rw [if_pos (by decide +kernel)]; kernel_rfl) | (rw [if_neg (by decide +kernel)]; exact ⟨rfl, rfl⟩))
    (fun os started H enc _ => lifted os started H enc)
end lawSessionLoads

end Go.Proofs.Ytaljojjpgkmiiaa

/- SpanLeast: the least form of any ranges, what is left without one, and whether they have all of one, are as the document says. No condition. -/
import Derived.Test.YtoifhpeohbbekaaRngQ
import Derived.Test.YtoifhpeohbbekaaOpenRng
import Derived.Test.YtoifhpeohbbekaaRow
namespace Go.Proofs.Ytoifhpeohbbekaa
open Go.RowKit
open Go.Lib (strCells compareBytes)

set_option maxRecDepth 100000 in
set_option maxHeartbeats 6400000 in
theorem least_walk (A : Option Addr) (n ca : Nat) (l : List Rg) (r : Rg) (w : World) (h : HasRgs w w.heap.size A n l) (hnc : n ≤ ca) (hm : ca ≤ maxLen) (hs : ∀ u ∈ l, u.lo.size ≤ maxLen ∧ u.hi.size ≤ maxLen) (hr : r.lo.size ≤ maxLen ∧ r.hi.size ≤ maxLen) :
    Calls Try.prog 8 #[.slice A n ca, ragg r] w fun e w' => e = .returned (.bool true) ∧ Below w.heap.size w w' := by
  have H := Lib.hid h
  have Hl := Lib.hid h.1
  have Hl1 : Hid (∀ wx, Below w.heap.size w wx → Calls Try.prog 36 #[.slice A n ca, .int .i64 20] wx (LightPost l 20 wx)) := Lib.hid (fun wx hx => lightR_any A n ca w.heap.size 20 l wx (h.belowOf hx (Nat.le_refl _)) (by omega) hs)
  have Hl2 : Hid (∀ wx : World, Calls Try.prog 36 #[.slice (some ⟨wx.heap.size, 0, none⟩) 1 1, .int .i64 1] (wx.alloc (.cells #[.string r.lo, .string r.hi] 25)) (LightPost [r] 1 (wx.alloc (.cells #[.string r.lo, .string r.hi] 25)))) := Lib.hid (fun wx => lightR_any (some ⟨wx.heap.size, 0, none⟩) 1 1 (wx.heap.size + 1) 1 [r] _ (one_lit wx r) (by simp [maxLen]) (fun u hu => by simp at hu; subst hu; exact hr))
  have HLe := Lib.hid (fun (hn : n ≤ 20) (hK : Small 200 l) wx (hx : Below w.heap.size w wx) => least_any A n ca w.heap.size 200 l wx (h.belowOf hx (Nat.le_refl _)) hx.size (by omega) hK (by omega))
  have HRL := Lib.hid (fun (hn : n ≤ 20) wx (hx : Below w.heap.size w wx) => refLeast_any A n ca w.heap.size l wx (h.belowOf hx (Nat.le_refl _)) hx.size (by omega))
  have HMi := Lib.hid (fun (hn : n ≤ 20) (hK : Small 200 l) (hK2 : Small 200 [r]) wx (hx : Below w.heap.size w wx) => minus_any A n ca w.heap.size 200 l r wx (h.belowOf hx (Nat.le_refl _)) hx.size (by omega) hK (by omega) (hK2 r (by simp)))
  have HRM := Lib.hid (fun (hn : n ≤ 20) wx (hx : Below w.heap.size w wx) => refMinus_any A n ca w.heap.size l r wx (h.belowOf hx (Nat.le_refl _)) hx.size (by omega))
  have HCo := Lib.hid (fun (hn : n ≤ 20) (hK : Small 200 l) (hK2 : Small 200 [r]) wx (hx : Below w.heap.size w wx) => covers_any A n ca w.heap.size 200 l r wx (h.belowOf hx (Nat.le_refl _)) hx.size (by omega) hK (by omega) (hK2 r (by simp)))
  have HRC := Lib.hid (fun (hn : n ≤ 20) wx (hx : Below w.heap.size w wx) => refCovers_any A n ca w.heap.size l r wx (h.belowOf hx (Nat.le_refl _)) hx.size (by omega))
  obtain ⟨CB, hCB⟩ : ∃ b, coversB l r = b := ⟨_, rfl⟩
  simp only [hCB] at HCo HRC
  clear h hs hr hm hnc hCB
  obtain ⟨rl, rh⟩ := r
  unfold ragg at *
  simp only at Hl2
  have HBx : Hid (∀ wx, Below (w.alloc (.cells #[.string rl, .string rh] 25)).heap.size (w.alloc (.cells #[.string rl, .string rh] 25)) wx → (wx.cell? ⟨w.heap.size, 0, none⟩ = some (.string rl) ∧ wx.cell? ⟨w.heap.size, 1, none⟩ = some (.string rh)) ∧ Below w.heap.size w wx) := Lib.hid fun wx hx => by
    have h1 := (Box.made w 25 #[.string rl, .string rh]).below hx (by simp)
    exact ⟨⟨h1.cell 0, h1.cell 1⟩, (below_box _).trans (hx.mono (by simp))⟩
  go_enter Try.func8, Try.ntmps8
  go_wp2_with fail
  refine (awakeR_any _).mono ?_
  rintro e w1 ⟨rfl, hb1⟩
  have Hb1 := Lib.hid hb1
  obtain ⟨⟨p0, p1⟩, hbw1⟩ := HBx.out w1 hb1
  have Hl1' := Lib.hid (Hl1.out w1 hbw1)
  have Hbw1 := Lib.hid hbw1
  clear hb1 hbw1
  go_wp2_with fail
  refine Hl1'.out.mono ?_
  rintro e w1' ⟨t, rfl, ht, rfl⟩
  have Ht := Lib.hid ht
  clear ht
  cases t with
  | false =>
    go_wp2
    go_ret
    exact ⟨rfl, Hbw1.out⟩
  | true =>
    have HtA := Lib.hid (Ht.out rfl)
    clear Ht
    go_wp2_with fail
    refine (Hl2.out _).mono ?_
    rintro e w2' ⟨t2, rfl, ht2, rfl⟩
    have Ht2 := Lib.hid ht2
    have Hb2 := Lib.hid (Hb1.out.alloc Hb1.out.size (.cells #[.string rl, .string rh] 25))
    clear ht2
    cases t2 with
    | false =>
      have HE := Lib.hid (HBx.out _ Hb2.out).2
      go_wp2
      go_ret
      exact ⟨rfl, HE.out⟩
    | true =>
      have HtB := Lib.hid (Ht2.out rfl)
      clear Ht2
      have hn20 : n ≤ 20 := by have := HtA.out.1; have := Hl.out; omega
      have HLe1 := Lib.hid (HLe.out hn20 HtA.out.2)
      have HRL1 := Lib.hid (HRL.out hn20)
      have HMi1 := Lib.hid (HMi.out hn20 HtA.out.2 HtB.out.2)
      have HRM1 := Lib.hid (HRM.out hn20)
      have HCo1 := Lib.hid (HCo.out hn20 HtA.out.2 HtB.out.2)
      have HRC1 := Lib.hid (HRC.out hn20)
      have HK : Hid (∀ wx, Below (w.alloc (.cells #[.string rl, .string rh] 25)).heap.size (w.alloc (.cells #[.string rl, .string rh] 25)) wx → (wx.cell? ⟨w.heap.size, 0, none⟩ = some (.string rl) ∧ wx.cell? ⟨w.heap.size, 1, none⟩ = some (.string rh)) ∧ Below (w.alloc (.cells #[.string rl, .string rh] 25)).heap.size (w.alloc (.cells #[.string rl, .string rh] 25)) wx) := Lib.hid fun wx hx => ⟨(HBx.out wx hx).1, hx⟩
      clear p0 p1 HLe HRL HMi HRM HCo HRC
      go_wp2
      go_region_held3 (fun wx => (wx.cell? ⟨w.heap.size, 0, none⟩ = some (.string rl) ∧ wx.cell? ⟨w.heap.size, 1, none⟩ = some (.string rh)) ∧ Below (w.alloc (.cells #[.string rl, .string rh] 25)).heap.size (w.alloc (.cells #[.string rl, .string rh] 25)) wx)
        (first | exact HK.out _ Hb2.out.drew | exact HK.out _ (keep_call (And.right (by assumption)) b1) | exact HK.out _ (keep_call (And.right (by assumption)) b2) | exact HK.out _ (keep_call (And.right (by assumption)) b3) | exact HK.out _ (keep_call (And.right (by assumption)) b4) | exact HK.out _ (keep_call (And.right (by assumption)) b5) | exact HK.out _ (keep_call (And.right (by assumption)) b6) | exact HK.out _ (keep_call (And.right (by assumption)) b7) | exact HK.out _ (keep_call (And.right (by assumption)) b8))
        (first
          | (go_at_call 44; refine (HLe1.out _ (HBx.out _ (And.right (by assumption))).2).mono ?_; rintro e w11 ⟨m1, v1, rfl, o1, f1, k1, -, b1⟩; obtain ⟨A1, c1, rfl, -, -, x1⟩ := o1.slice; have k1' : m1.length ≤ 20 := by omega)
          | (go_at_call 45; refine (HRL1.out _ (HBx.out _ (And.right (by assumption))).2).mono ?_; rintro e w12 ⟨m2, v2, rfl, o2, f2, k2, b2⟩; obtain ⟨A2, c2, rfl, -, -, x2⟩ := o2.slice; have e12 := isForm_uniq f1 f2 (fun _ => Iff.rfl); subst e12; have x1' := (x1.belowOf b2 (Nat.le_refl _)).more b2.size)
          | (go_at_call_of 43 (Value.slice A1 m1.length c1); refine (same_true x1' x2 (by omega) (by omega)).mono ?_; rintro e w13 ⟨rfl, b3⟩)
          | (go_at_call 46; refine (HMi1.out _ (HBx.out _ (And.right (by assumption))).2).mono ?_; rintro e w14 ⟨m3, v3, rfl, o3, f3, k3, -, b4⟩; obtain ⟨A3, c3, rfl, -, -, x3⟩ := o3.slice; have k3' : m3.length ≤ 40 := by omega)
          | (go_at_call 47; refine (HRM1.out _ (HBx.out _ (And.right (by assumption))).2).mono ?_; rintro e w15 ⟨m4, v4, rfl, o4, f4, k4, b5⟩; obtain ⟨A4, c4, rfl, -, -, x4⟩ := o4.slice; have e34 := isForm_uniq f3 f4 (fun _ => Iff.rfl); subst e34; have x3' := (x3.belowOf b5 (Nat.le_refl _)).more b5.size)
          | (go_at_call_of 43 (Value.slice A3 m3.length c3); refine (same_true x3' x4 (by omega) (by omega)).mono ?_; rintro e w16 ⟨rfl, b6⟩)
          | (go_at_call 48; refine (HCo1.out _ (HBx.out _ (And.right (by assumption))).2).mono ?_; rintro e w17 ⟨rfl, b7⟩)
          | (go_at_call 49; refine (HRC1.out _ (HBx.out _ (And.right (by assumption))).2).mono ?_; rintro e w18 ⟨rfl, b8⟩))
      all_goals
        have HE : Hid (Below w.heap.size w w18) := Lib.hid (HBx.out w18 (And.right (by assumption))).2
        clear o1 o2 o3 o4 f1 f2 f3 f4 b1 b2 b3 b4 b5 b6 b7 b8 x1 x2 x3 x4 x1' x3'
        go_wp2
        go_ret
        exact ⟨rfl, HE.out⟩

namespace lawSpanLeast
open Go.ChangeShapes Go.WideShapes Go.ChangeAt

theorem own : ownKnob Try.prog.godebug = none := by kernel_rfl
theorem kids : Kids Try.prog (· < Try.prog.types.size) := kids_rows (by kernel_rfl) (by kernel_rfl)
theorem full : ∀ t e, t < Try.prog.types.size → Try.prog.underlying t = some (.slice e) → 0 < Try.prog.cellsOf e := slices_full_of Try.prog (by kernel_rfl)

set_option maxRecDepth 100000 in
theorem lifted (os : Os) (started : os.Started) (H : Type) (enc : TypeId × Value → H) :
    ReturnsInHanded {} Try.checked os 8 .any (Rows.spanLeastSpec.pre6 enc Try.prog Try.f8 Rows.spanLeastRow.domain false) (Rows.spanLeastSpec.post enc Try.prog Try.f8 false true false false) := by
  refine returnsInHanded_of_change (C := Try.checked) own started (by kernel_rfl) Try.func8
    (ChangeSpec.witness6 (enc := enc) (C := Try.checked) false ⟨#[], #[.slice none 0 0, .agg #[.string ⟨#[]⟩, .string ⟨#[]⟩]], []⟩ 8 (by kernel_rfl) (by kernel_rfl) (by kernel_rfl) (by kernel_rfl)) ?_
  intro W base args ds gs before hval0 hW _ _
  have hval : ∀ (j : Nat) t v, Try.f8.params[j]? = some t → args[j]? = some v → Value.okWide Try.prog W .any base t v := hval0
  have hW' := hW
  obtain ⟨p, q, hA0, hV, rfl, _, _⟩ := hW
  obtain ⟨rfl, rfl⟩ := trodVars_none hV
  have hA : DataW.TrodAll enc Try.prog W 0 (fun _ => true) true Try.f8.params.toList args.toList ds p := hA0
  rw [Try.params8] at hA hval
  obtain ⟨v0, vs0, d0, ds0, p0, q0, hargs, rfl, rfl, h0, r0⟩ := trodAll_cons hA
  obtain ⟨v1, vs1, d1, ds1, p1, q1, rfl, rfl, rfl, h1, r1⟩ := trodAll_cons r0
  obtain ⟨rfl, rfl, rfl⟩ := trodAll_nil r1
  obtain rfl : args = #[v0, v1] := by cases args; simp_all
  have hlt := hW'.lt
  obtain ⟨A0, n0, c0, l0, rfl, hnc0, hm0, hb0, hs0⟩ := open_rgs Try.underlying67 Try.underlying25 (by kernel_rfl) ⟨rfl, rfl⟩ ⟨by kernel_rfl, by kernel_rfl⟩ ⟨by kernel_rfl, by kernel_rfl⟩ (hval 0 67 v0 rfl rfl) h0 (fun x hx => hlt x (by simp [hx]))
  obtain ⟨x1, y1, rfl, wx1, wy1⟩ := open_rg Try.underlying25 (by kernel_rfl) ⟨rfl, rfl⟩ ⟨by kernel_rfl, by kernel_rfl⟩ ⟨by kernel_rfl, by kernel_rfl⟩ (hval 1 25 v1 rfl rfl) h1
  refine (least_walk A0 n0 c0 l0 ⟨x1, y1⟩ W hb0 hnc0 hm0 hs0 ⟨wx1, wy1⟩).mono fun e W' ⟨he, hbel⟩ => ?_
  subst he
  exact ⟨_, rfl, law_post kids full (of_decide_eq_true (by kernel_rfl)) Try.underlying4 rfl rfl rfl hW' hbel⟩

theorem proved : Rows.SpanLeastSaid :=
  OpenClaim.holds_of_wide 8 Try.f8 rfl rfl rfl rfl rfl rfl rfl ⟨rfl, rfl, rfl, rfl, rfl⟩ rfl rfl rfl rfl rfl (by kernel_rfl) Try.func8 (by kernel_rfl)
    (of_decide_eq_true (by kernel_rfl)) (by unfold Func.isWrapper; first | (rw [if_pos (by decide +kernel)]; kernel_rfl) | (rw [if_neg (by decide +kernel)]; exact ⟨rfl, rfl⟩))
    (fun os started H enc _ => lifted os started H enc)
end lawSpanLeast

end Go.Proofs.Ytoifhpeohbbekaa

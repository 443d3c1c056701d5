/- AtlasPlans: what becomes of any map by any plan, or why not, is as the document says. No condition. -/
import Derived.Test.YtnfnjhnfpcbdfaaAtR
import Derived.Test.YtnfnjhnfpcbdfaaActB
import Derived.Test.YtnfnjhnfpcbdfaaAtE
import Derived.Test.YtnfnjhnfpcbdfaaOpenMap
import Derived.Test.YtnfnjhnfpcbdfaaRow
namespace Go.Proofs.Ytnfnjhnfpcbdfaa
open Go.RowKit
open Go.Lib (strCells compareBytes)

/-- the call's own copies of a map and of a plan -/
theorem mapact_boxP {w wx : World} {ep k node : Int} {A : Option Addr} {n c : Nat} {s : ByteArray} (h : Below ((w.alloc (.cells #[.int .i64 ep, .slice A n c] 24)).alloc (.cells #[.int .i64 k, .string s, .int .i64 node] 40)).heap.size ((w.alloc (.cells #[.int .i64 ep, .slice A n c] 24)).alloc (.cells #[.int .i64 k, .string s, .int .i64 node] 40)) wx) :
    (wx.cell? ⟨w.heap.size, 0, none⟩ = some (.int .i64 ep) ∧ wx.cell? ⟨w.heap.size, 1, none⟩ = some (.slice A n c)) ∧ (wx.cell? ⟨w.heap.size + 1, 0, none⟩ = some (.int .i64 k) ∧ wx.cell? ⟨w.heap.size + 1, 1, none⟩ = some (.string s) ∧ wx.cell? ⟨w.heap.size + 1, 2, none⟩ = some (.int .i64 node)) ∧ Below w.heap.size w wx ∧ w.heap.size + 2 ≤ wx.heap.size := by
  have h1 : Box ((w.alloc (.cells #[.int .i64 ep, .slice A n c] 24)).alloc (.cells #[.int .i64 k, .string s, .int .i64 node] 40)) w.heap.size 24 #[.int .i64 ep, .slice A n c] := (Box.made w _ _).alloc _
  have h2 : Box ((w.alloc (.cells #[.int .i64 ep, .slice A n c] 24)).alloc (.cells #[.int .i64 k, .string s, .int .i64 node] 40)) (w.heap.size + 1) 40 #[.int .i64 k, .string s, .int .i64 node] := by
    have := Box.made (w.alloc (.cells #[.int .i64 ep, .slice A n c] 24)) 40 #[.int .i64 k, .string s, .int .i64 node]
    rwa [World.size_alloc] at this
  have hs := h.size
  simp only [World.size_alloc] at hs
  have k1 := h1.below h (by simp; omega)
  have k2 := h2.below h (by simp)
  exact ⟨⟨k1.cell 0, k1.cell 1⟩, ⟨k2.cell 0, k2.cell 1, k2.cell 2⟩, ((below_box _).alloc (by simp) _).trans (h.mono (by simp; omega)), by omega⟩
set_option maxRecDepth 100000 in
set_option maxHeartbeats 12800000 in
theorem plans_walk (ep : Int) (A : Option Addr) (n c : Nat) (l : List Pt) (k : Int) (s : ByteArray) (node : Int) (w : World) (h : HasPts w w.heap.size A n l) (hnc : n ≤ c) (hcm : c ≤ maxLen) (hs : ∀ p ∈ l, p.lo.size ≤ maxLen) (hsz : s.size ≤ maxLen) :
    Calls Try.prog 4 #[.agg #[.int .i64 ep, .slice A n c], .agg #[.int .i64 k, .string s, .int .i64 node]] w fun e w' => e = .returned (.bool true) ∧ Below w.heap.size w w' := by
  have hn : n ≤ maxLen := Nat.le_trans hnc hcm
  have HM := Lib.hid (fun wx (hx : Below ((w.alloc (.cells #[.int .i64 ep, .slice A n c] 24)).alloc (.cells #[.int .i64 k, .string s, .int .i64 node] 40)).heap.size ((w.alloc (.cells #[.int .i64 ep, .slice A n c] 24)).alloc (.cells #[.int .i64 k, .string s, .int .i64 node] 40)) wx) => mapact_boxP hx)
  have HA : Hid (∀ wx, Below ((w.alloc (.cells #[.int .i64 ep, .slice A n c] 24)).alloc (.cells #[.int .i64 k, .string s, .int .i64 node] 40)).heap.size ((w.alloc (.cells #[.int .i64 ep, .slice A n c] 24)).alloc (.cells #[.int .i64 k, .string s, .int .i64 node] 40)) wx → HasPts wx w.heap.size A n l ∧ w.heap.size ≤ wx.heap.size) := Lib.hid fun wx hx => ⟨h.belowOf (mapact_boxP hx).2.2.1 (Nat.le_refl _), (mapact_boxP hx).2.2.1.size⟩
  have HLi := Lib.hid (fun wx (hx : Below ((w.alloc (.cells #[.int .i64 ep, .slice A n c] 24)).alloc (.cells #[.int .i64 k, .string s, .int .i64 node] 40)).heap.size ((w.alloc (.cells #[.int .i64 ep, .slice A n c] 24)).alloc (.cells #[.int .i64 k, .string s, .int .i64 node] 40)) wx) => light12_any ep A n c w.heap.size l wx (HA.out wx hx).1 (HA.out wx hx).2 hn hs)
  have HX1 := Lib.hid (fun wx (hx : Below ((w.alloc (.cells #[.int .i64 ep, .slice A n c] 24)).alloc (.cells #[.int .i64 k, .string s, .int .i64 node] 40)).heap.size ((w.alloc (.cells #[.int .i64 ep, .slice A n c] 24)).alloc (.cells #[.int .i64 k, .string s, .int .i64 node] 40)) wx) => (act_any k ep A n c w.heap.size l s node wx (HA.out wx hx).1 (HA.out wx hx).2 hn hs hsz).mono fun e w' h9 => act_out h9 (HA.out wx hx).1 (HA.out wx hx).2)
  have HX2 := Lib.hid (fun wx (hx : Below ((w.alloc (.cells #[.int .i64 ep, .slice A n c] 24)).alloc (.cells #[.int .i64 k, .string s, .int .i64 node] 40)).heap.size ((w.alloc (.cells #[.int .i64 ep, .slice A n c] 24)).alloc (.cells #[.int .i64 k, .string s, .int .i64 node] 40)) wx) => (does_any k ep A n c w.heap.size l s node wx (HA.out wx hx).1 (HA.out wx hx).2 hn hs).mono fun e w' h9 => act_out h9 (HA.out wx hx).1 (HA.out wx hx).2)
  have Hl := Lib.hid h.1
  have HN5 := Lib.hid (outM_len k ep l s node)
  obtain ⟨⟨me, ml, mz⟩, hm⟩ : ∃ m, outM k ep l s node = m := ⟨_, rfl⟩
  simp only [hm] at HX1 HX2 HN5
  obtain ⟨N, hN⟩ : ∃ N, ml.length = N := ⟨_, rfl⟩
  simp only [hN] at HX1 HX2 HN5
  have hzz : (mz == mz) = true := by simp
  unfold maxLen at hsz
  clear h hs hnc hcm hn hm hN
  go_enter Try.func4, Try.ntmps4
  go_wp2_with fail
  refine (awake12_any _).mono ?_
  rintro e w1 ⟨rfl, hb1⟩
  have Hb1 := Lib.hid hb1
  obtain ⟨⟨q0, q1⟩, ⟨t0, t1, t2⟩, -⟩ := HM.out w1 hb1
  have HL1 := Lib.hid (HLi.out w1 hb1)
  clear hb1 HLi
  go_wp2_with fail
  refine HL1.out.mono ?_
  rintro e w2 ⟨b, rfl, hbl, hb2⟩
  have Hb2 : Hid (Below ((w.alloc (.cells #[.int .i64 ep, .slice A n c] 24)).alloc (.cells #[.int .i64 k, .string s, .int .i64 node] 40)).heap.size ((w.alloc (.cells #[.int .i64 ep, .slice A n c] 24)).alloc (.cells #[.int .i64 k, .string s, .int .i64 node] 40)) w2) := Lib.hid (Hb1.out.trans (hb2.mono Hb1.out.size))
  obtain ⟨⟨q0, q1⟩, ⟨t0, t1, t2⟩, hbw, hsz2⟩ := HM.out w2 Hb2.out
  have HW2 := Lib.hid hbw
  have Hbl := Lib.hid hbl
  clear hb2 HL1 hbw hbl
  cases b with
  | false =>
    go_wp2
    go_ret
    exact ⟨rfl, HW2.out⟩
  | true =>
    by_cases h3 : 300 < s.size
    · have h3' : (300 : Int) < (s.size : Int) := by omega
      go_wp2
      go_ret
      exact ⟨rfl, HW2.out⟩
    have h3' : ¬ (300 : Int) < (s.size : Int) := by omega
    have HL := Lib.hid (Hbl.out rfl)
    have HN : Hid (N ≤ 50) := Lib.hid (HN5.out (by have := HL.out.1; omega))
    have G1 := Lib.hid (HX1.out w2 Hb2.out)
    clear Hbl HX1 HN5
    go_wp2_with fail
    refine G1.out.mono ?_
    rintro e w3 ⟨A3, c3, rfl, x3, b3⟩
    have b3' : Below ((w.alloc (.cells #[.int .i64 ep, .slice A n c] 24)).alloc (.cells #[.int .i64 k, .string s, .int .i64 node] 40)).heap.size ((w.alloc (.cells #[.int .i64 ep, .slice A n c] 24)).alloc (.cells #[.int .i64 k, .string s, .int .i64 node] 40)) w3 := Hb2.out.trans (b3.mono Hb2.out.size)
    have HB3 : Hid (Below ((w.alloc (.cells #[.int .i64 ep, .slice A n c] 24)).alloc (.cells #[.int .i64 k, .string s, .int .i64 node] 40)).heap.size ((w.alloc (.cells #[.int .i64 ep, .slice A n c] 24)).alloc (.cells #[.int .i64 k, .string s, .int .i64 node] 40)) (w3.alloc (.cells #[.int .i64 me, .slice A3 N c3] 24))) := Lib.hid (b3'.alloc b3'.size _)
    have X3 : Hid (HasPts (w3.alloc (.cells #[.int .i64 me, .slice A3 N c3] 24)) w3.heap.size A3 N ml ∧ Box (w3.alloc (.cells #[.int .i64 me, .slice A3 N c3] 24)) w3.heap.size 24 #[.int .i64 me, .slice A3 N c3]) := Lib.hid ⟨x3.belowOf (below_box _) (Nat.le_refl _), Box.made _ _ _⟩
    obtain ⟨⟨q0, q1⟩, ⟨t0, t1, t2⟩, -⟩ := HM.out _ HB3.out
    have G2 := Lib.hid (HX2.out _ HB3.out)
    clear G1 b3 b3' x3 HX2
    go_wp2_with fail
    refine G2.out.mono ?_
    rintro e w4 ⟨A4, c4, rfl, x4, b4⟩
    have b4' : Below (w3.alloc (.cells #[.int .i64 me, .slice A3 N c3] 24)).heap.size (w3.alloc (.cells #[.int .i64 me, .slice A3 N c3] 24)) (w4.alloc (.cells #[.int .i64 me, .slice A4 N c4] 24)) := b4.alloc b4.size _
    have X4 : Hid (HasPts (w4.alloc (.cells #[.int .i64 me, .slice A4 N c4] 24)) w4.heap.size A4 N ml ∧ HasPts (w4.alloc (.cells #[.int .i64 me, .slice A4 N c4] 24)) w3.heap.size A3 N ml) := Lib.hid ⟨x4.belowOf (below_box _) (Nat.le_refl _), X3.out.1.belowOf b4' (by simp)⟩
    have K3 := X3.out.2.below b4' X3.out.2.lt
    have K4 := Box.made w4 24 #[.int .i64 me, .slice A4 N c4]
    have x0 : (w4.alloc (.cells #[.int .i64 me, .slice A4 N c4] 24)).cell? ⟨w3.heap.size, 0, none⟩ = some (.int .i64 me) := K3.cell 0
    have x1 : (w4.alloc (.cells #[.int .i64 me, .slice A4 N c4] 24)).cell? ⟨w3.heap.size, 1, none⟩ = some (.slice A3 N c3) := K3.cell 1
    have y0 : (w4.alloc (.cells #[.int .i64 me, .slice A4 N c4] 24)).cell? ⟨w4.heap.size, 0, none⟩ = some (.int .i64 me) := K4.cell 0
    have y1 : (w4.alloc (.cells #[.int .i64 me, .slice A4 N c4] 24)).cell? ⟨w4.heap.size, 1, none⟩ = some (.slice A4 N c4) := K4.cell 1
    have HB4 : Hid (Below ((w.alloc (.cells #[.int .i64 ep, .slice A n c] 24)).alloc (.cells #[.int .i64 k, .string s, .int .i64 node] 40)).heap.size ((w.alloc (.cells #[.int .i64 ep, .slice A n c] 24)).alloc (.cells #[.int .i64 k, .string s, .int .i64 node] 40)) (w4.alloc (.cells #[.int .i64 me, .slice A4 N c4] 24))) := Lib.hid (HB3.out.trans (b4'.mono HB3.out.size))
    have D := Lib.hid (sameM_any me A3 A4 N c3 c4 w3.heap.size w4.heap.size ml (w4.alloc (.cells #[.int .i64 me, .slice A4 N c4] 24)) X4.out.2 X4.out.1 (by have := b4'.size; simp only [World.size_alloc] at this ⊢; omega) (by simp) (by have := HN.out; unfold maxLen; omega))
    clear G2 b4 b4' x4 K3 K4
    go_wp2_with fail
    refine D.out.mono ?_
    rintro e w5 ⟨rfl, b5⟩
    have HE := Lib.hid (HM.out _ (HB4.out.trans (b5.mono HB4.out.size))).2.2.1
    clear b5 D
    go_wp2
    go_ret
    exact ⟨rfl, HE.out⟩

namespace lawAtlasPlans
open Go.ChangeShapes Go.WideShapes Go.ChangeAt

theorem own : ownKnob Try.prog.godebug = none := by kernel_rfl
theorem kids : Kids Try.prog (· < Try.prog.types.size) := kids_rows (by kernel_rfl) (by kernel_rfl)
theorem full : ∀ t e, t < Try.prog.types.size → Try.prog.underlying t = some (.slice e) → 0 < Try.prog.cellsOf e := slices_full_of Try.prog (by kernel_rfl)

set_option maxRecDepth 100000 in
theorem lifted (os : Os) (started : os.Started) (H : Type) (enc : TypeId × Value → H) :
    ReturnsInHanded {} Try.checked os 4 .any (Rows.atlasPlansSpec.pre6 enc Try.prog Try.f4 Rows.atlasPlansRow.domain false) (Rows.atlasPlansSpec.post enc Try.prog Try.f4 false true false false) := by
  refine returnsInHanded_of_change (C := Try.checked) own started (by kernel_rfl) Try.func4
    (ChangeSpec.witness6 (enc := enc) (C := Try.checked) false ⟨#[], #[.agg #[.int .i64 0, .slice none 0 0], .agg #[.int .i64 0, .string ⟨#[]⟩, .int .i64 0]], []⟩ 8 (by kernel_rfl) (by kernel_rfl) (by kernel_rfl) (by kernel_rfl)) ?_
  intro W base args ds gs before hval0 hW _ _
  have hval : ∀ (j : Nat) t v, Try.f4.params[j]? = some t → args[j]? = some v → Value.okWide Try.prog W .any base t v := hval0
  have hW' := hW
  obtain ⟨p, q, hA0, hV, rfl, _, _⟩ := hW
  obtain ⟨rfl, rfl⟩ := trodVars_none hV
  have hA : DataW.TrodAll enc Try.prog W 0 (fun _ => true) true Try.f4.params.toList args.toList ds p := hA0
  rw [Try.params4] at hA hval
  obtain ⟨v0, vs0, d0, ds0, p0, q0, hargs, rfl, rfl, h0, r0⟩ := trodAll_cons hA
  obtain ⟨v1, vs1, d1, ds1, p1, q1, rfl, rfl, rfl, h1, r1⟩ := trodAll_cons r0
  obtain ⟨rfl, rfl, rfl⟩ := trodAll_nil r1
  obtain rfl : args = #[v0, v1] := by cases args; simp_all
  have hlt := hW'.lt
  obtain ⟨e0, A0, n0, c0, l0, rfl, hnc0, hm0, hb0, hs0⟩ := open_map Try.underlying24 (by kernel_rfl) ⟨rfl, rfl⟩ ⟨by kernel_rfl, by kernel_rfl⟩ ⟨by kernel_rfl, by kernel_rfl⟩ Try.underlying46 (by kernel_rfl) ⟨rfl, rfl⟩ ⟨by kernel_rfl, by kernel_rfl⟩ ⟨by kernel_rfl, by kernel_rfl⟩ (hval 0 24 v0 rfl rfl) h0 (fun x hx => hlt x (by simp [hx]))
  obtain ⟨k1, s1, m1, rfl, ws1⟩ := open_act12 Try.underlying40 (by kernel_rfl) ⟨rfl, rfl, rfl⟩ ⟨by kernel_rfl, by kernel_rfl, by kernel_rfl⟩ ⟨by kernel_rfl, by kernel_rfl, by kernel_rfl⟩ (hval 1 40 v1 rfl rfl) h1
  refine (plans_walk e0 A0 n0 c0 l0 k1 s1 m1 W hb0 hnc0 hm0 hs0 ws1).mono fun e W' ⟨he, hbel⟩ => ?_
  subst he
  exact ⟨_, rfl, law_post kids full (of_decide_eq_true (by kernel_rfl)) Try.underlying4 rfl rfl rfl hW' hbel⟩

theorem proved : Rows.AtlasPlansSaid :=
  OpenClaim.holds_of_wide 4 Try.f4 rfl rfl rfl rfl rfl rfl rfl ⟨rfl, rfl, rfl, rfl, rfl⟩ rfl rfl rfl rfl rfl (by kernel_rfl) Try.func4 (by kernel_rfl)
    (of_decide_eq_true (by kernel_rfl)) (by unfold Func.isWrapper; first | (rw [if_pos (by decide +kernel)]; kernel_rfl) | (rw [if_neg (by decide +kernel)]; exact ⟨rfl, rfl⟩))
    (fun os started H enc _ => lifted os started H enc)
end lawAtlasPlans

end Go.Proofs.Ytnfnjhnfpcbdfaa

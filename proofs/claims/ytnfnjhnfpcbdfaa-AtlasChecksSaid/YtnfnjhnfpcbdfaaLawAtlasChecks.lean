/- AtlasChecks: whether a map is right, where a text is in it, and what its parts have, are as the document says. No condition. -/
import Derived.Test.YtnfnjhnfpcbdfaaAtR
import Derived.Test.YtnfnjhnfpcbdfaaAtI
import Derived.Test.YtnfnjhnfpcbdfaaOpenMap
import Derived.Test.YtnfnjhnfpcbdfaaRow
import Derived.Deep.RegionHeld3
namespace Go.Proofs.Ytnfnjhnfpcbdfaa
open Go.RowKit
open Go.Lib (strCells compareBytes)

set_option maxRecDepth 100000 in
set_option maxHeartbeats 12800000 in
theorem checks_walk (ep : Int) (A : Option Addr) (n c : Nat) (l : List Pt) (s : ByteArray) (i : Int) (w : World) (h : HasPts w w.heap.size A n l) (hnc : n ≤ c) (hcm : c ≤ maxLen) (hs : ∀ p ∈ l, p.lo.size ≤ maxLen) (hsz : s.size ≤ maxLen) :
    Calls Try.prog 3 #[.agg #[.int .i64 ep, .slice A n c], .string s, .int .i64 i] w fun e w' => e = .returned (.bool true) ∧ Below w.heap.size w w' := by
  have hn : n ≤ maxLen := Nat.le_trans hnc hcm
  have HM := Lib.hid (fun wx (hx : Below (w.alloc (.cells #[.int .i64 ep, .slice A n c] 24)).heap.size (w.alloc (.cells #[.int .i64 ep, .slice A n c] 24)) wx) => map_box hx)
  have HA : Hid (∀ wx, Below (w.alloc (.cells #[.int .i64 ep, .slice A n c] 24)).heap.size (w.alloc (.cells #[.int .i64 ep, .slice A n c] 24)) wx → HasPts wx w.heap.size A n l ∧ w.heap.size ≤ wx.heap.size) := Lib.hid fun wx hx => ⟨h.belowOf (map_box hx).2.2 (Nat.le_refl _), (map_box hx).2.2.size⟩
  have HLi := Lib.hid (fun wx (hx : Below (w.alloc (.cells #[.int .i64 ep, .slice A n c] 24)).heap.size (w.alloc (.cells #[.int .i64 ep, .slice A n c] 24)) wx) => light12_any ep A n c w.heap.size l wx (HA.out wx hx).1 (HA.out wx hx).2 hn hs)
  have HF1 := Lib.hid (fun wx (hx : Below (w.alloc (.cells #[.int .i64 ep, .slice A n c] 24)).heap.size (w.alloc (.cells #[.int .i64 ep, .slice A n c] 24)) wx) => find_any ep A n c w.heap.size l s wx (HA.out wx hx).1 (HA.out wx hx).2 hn hs)
  have HF2 := Lib.hid (fun wx (hx : Below (w.alloc (.cells #[.int .i64 ep, .slice A n c] 24)).heap.size (w.alloc (.cells #[.int .i64 ep, .slice A n c] 24)) wx) => refFind_any ep A n c w.heap.size l s wx (HA.out wx hx).1 (HA.out wx hx).2 hn hs)
  have HO1 := Lib.hid (fun wx (hx : Below (w.alloc (.cells #[.int .i64 ep, .slice A n c] 24)).heap.size (w.alloc (.cells #[.int .i64 ep, .slice A n c] 24)) wx) => of_any ep A n c w.heap.size l i wx (HA.out wx hx).1 (HA.out wx hx).2 hn hs)
  have HO2 := Lib.hid (fun wx (hx : Below (w.alloc (.cells #[.int .i64 ep, .slice A n c] 24)).heap.size (w.alloc (.cells #[.int .i64 ep, .slice A n c] 24)) wx) => refOf_any ep A n c w.heap.size l i wx (HA.out wx hx).1 (HA.out wx hx).2 hn hs)
  have HC1 := Lib.hid (fun wx (hx : Below (w.alloc (.cells #[.int .i64 ep, .slice A n c] 24)).heap.size (w.alloc (.cells #[.int .i64 ep, .slice A n c] 24)) wx) => check_any ep A n c w.heap.size l wx (HA.out wx hx).1 (HA.out wx hx).2 hn hs)
  have HC2 := Lib.hid (fun wx (hx : Below (w.alloc (.cells #[.int .i64 ep, .slice A n c] 24)).heap.size (w.alloc (.cells #[.int .i64 ep, .slice A n c] 24)) wx) => refCheck_any ep A n c w.heap.size l wx (HA.out wx hx).1 (HA.out wx hx).2 hn hs)
  obtain ⟨⟨fi, fb⟩, hf⟩ : ∃ f, findT ep l s.data.toList = f := ⟨_, rfl⟩
  obtain ⟨⟨r0, r1, rb⟩, ho⟩ : ∃ r, ofT ep l i = r := ⟨_, rfl⟩
  obtain ⟨z, hz⟩ : ∃ z, checkT ep l = z := ⟨_, rfl⟩
  obtain ⟨⟨sp, sl, sz⟩, hst⟩ : ∃ m, startT i = m := ⟨_, rfl⟩
  unfold OfPost at HO1 HO2
  unfold CheckPost at HC1 HC2
  rw [hf] at HF1 HF2
  rw [ho] at HO1 HO2
  rw [hz] at HC1 HC2
  have HS1 := Lib.hid (fun wx => start_any i wx)
  have HS2 := Lib.hid (fun wx => refStart_any i wx)
  rw [hst] at HS1 HS2
  obtain ⟨N7, hN7⟩ : ∃ N7, sl.length = N7 := ⟨_, rfl⟩
  have HN7 := Lib.hid hN7
  have HN8 : Hid (N7 ≤ 1) := Lib.hid (by
    rw [← hN7]
    unfold startT at hst
    split at hst
    · injection hst with _ h9; injection h9 with h9 _; rw [← h9]; simp
    · injection hst with _ h9; injection h9 with h9 _; rw [← h9]; simp)
  unfold maxLen at hsz
  clear h hs hnc hcm hn hf ho hz hst hN7
  go_enter Try.func3, Try.ntmps3
  go_wp2_with fail
  refine (awake12_any _).mono ?_
  rintro e w1 ⟨rfl, hb1⟩
  have Hb1 := Lib.hid hb1
  obtain ⟨q0, q1, -⟩ := HM.out w1 hb1
  have HL1 := Lib.hid (HLi.out w1 hb1)
  clear hb1 HLi
  go_wp2_with fail
  refine HL1.out.mono ?_
  rintro e w2 ⟨b, rfl, hbl, hb2⟩
  have Hb2 : Hid (Below (w.alloc (.cells #[.int .i64 ep, .slice A n c] 24)).heap.size (w.alloc (.cells #[.int .i64 ep, .slice A n c] 24)) w2) := Lib.hid (Hb1.out.trans (hb2.mono Hb1.out.size))
  obtain ⟨q0, q1, hbw⟩ := HM.out w2 Hb2.out
  have HW2 := Lib.hid hbw
  clear hb2 HL1 hbw hbl
  cases b with
  | false =>
    go_wp2
    go_ret
    exact ⟨rfl, HW2.out⟩
  | true =>
    by_cases h3 : 300 < s.size
    · have h3' : (300 : Int) < (s.size : Int) := by omega
      go_wp2
      go_ret
      exact ⟨rfl, HW2.out⟩
    have h3' : ¬ (300 : Int) < (s.size : Int) := by omega
    have G1 := Lib.hid (HF1.out w2 Hb2.out)
    clear HF1
    go_wp2_with fail
    refine G1.out.mono ?_
    rintro e w3 ⟨rfl, b3⟩
    have Hb3 : Hid (Below (w.alloc (.cells #[.int .i64 ep, .slice A n c] 24)).heap.size (w.alloc (.cells #[.int .i64 ep, .slice A n c] 24)) w3) := Lib.hid (Hb2.out.trans (b3.mono Hb2.out.size))
    obtain ⟨q0, q1, -⟩ := HM.out w3 Hb3.out
    have G2 := Lib.hid (HF2.out w3 Hb3.out)
    clear HF2 G1 b3
    go_wp2_with fail
    refine G2.out.mono ?_
    rintro e w4 ⟨rfl, b4⟩
    have Hb4 : Hid (Below (w.alloc (.cells #[.int .i64 ep, .slice A n c] 24)).heap.size (w.alloc (.cells #[.int .i64 ep, .slice A n c] 24)) w4) := Lib.hid (Hb3.out.trans (b4.mono Hb3.out.size))
    obtain ⟨q0, q1, -⟩ := HM.out w4 Hb4.out
    have G3 := Lib.hid (HO1.out w4 Hb4.out)
    clear HO1 G2 b4
    go_wp2_with fail
    refine G3.out.mono ?_
    rintro e w5 ⟨rfl, b5⟩
    have Hb5 : Hid (Below (w.alloc (.cells #[.int .i64 ep, .slice A n c] 24)).heap.size (w.alloc (.cells #[.int .i64 ep, .slice A n c] 24)) (w5.alloc (.cells #[.string r0, .string r1] 30))) := Lib.hid ((Hb4.out.trans (b5.mono Hb4.out.size)).alloc (Nat.le_trans Hb4.out.size b5.size) _)
    have B5 : Hid (Box (w5.alloc (.cells #[.string r0, .string r1] 30)) w5.heap.size 30 #[.string r0, .string r1]) := Lib.hid (Box.made _ _ _)
    obtain ⟨q0, q1, -⟩ := HM.out _ Hb5.out
    have G4 := Lib.hid (HO2.out _ Hb5.out)
    clear HO2 G3 b5
    go_wp2_with fail
    refine G4.out.mono ?_
    rintro e w6 ⟨rfl, b6⟩
    have b6' : Below (w5.alloc (.cells #[.string r0, .string r1] 30)).heap.size (w5.alloc (.cells #[.string r0, .string r1] 30)) (w6.alloc (.cells #[.string r0, .string r1] 30)) := b6.alloc b6.size _
    have Hb6 : Hid (Below (w.alloc (.cells #[.int .i64 ep, .slice A n c] 24)).heap.size (w.alloc (.cells #[.int .i64 ep, .slice A n c] 24)) (w6.alloc (.cells #[.string r0, .string r1] 30))) := Lib.hid (Hb5.out.trans (b6'.mono Hb5.out.size))
    have B56 : Hid (Box (w6.alloc (.cells #[.string r0, .string r1] 30)) w5.heap.size 30 #[.string r0, .string r1]) := Lib.hid (B5.out.below b6' B5.out.lt)
    have B6 : Hid (Box (w6.alloc (.cells #[.string r0, .string r1] 30)) w6.heap.size 30 #[.string r0, .string r1]) := Lib.hid (Box.made _ _ _)
    have G5 := Lib.hid (HS1.out (w6.alloc (.cells #[.string r0, .string r1] 30)))
    clear G4 b6 b6' HS1
    go_wp2_with fail
    refine G5.out.mono ?_
    rintro e w7 ⟨v7, rfl, o7, b7⟩
    obtain ⟨A7, c7, rfl, -, -, x7⟩ := o7.slice
    simp only [HN7.out] at x7
    rw [HN7.out]
    have b7' : Below (w6.alloc (.cells #[.string r0, .string r1] 30)).heap.size (w6.alloc (.cells #[.string r0, .string r1] 30)) (w7.alloc (.cells #[.int .i64 sp, .slice A7 N7 c7] 24)) := b7.alloc b7.size _
    have B567 : Hid (Box (w7.alloc (.cells #[.int .i64 sp, .slice A7 N7 c7] 24)) w5.heap.size 30 #[.string r0, .string r1] ∧ Box (w7.alloc (.cells #[.int .i64 sp, .slice A7 N7 c7] 24)) w6.heap.size 30 #[.string r0, .string r1] ∧ Below (w.alloc (.cells #[.int .i64 ep, .slice A n c] 24)).heap.size (w.alloc (.cells #[.int .i64 ep, .slice A n c] 24)) (w7.alloc (.cells #[.int .i64 sp, .slice A7 N7 c7] 24))) := Lib.hid ⟨B56.out.below b7' B56.out.lt, B6.out.below b7' B6.out.lt, Hb6.out.trans (b7'.mono Hb6.out.size)⟩
    have X7 : Hid (HasPts (w7.alloc (.cells #[.int .i64 sp, .slice A7 N7 c7] 24)) w7.heap.size A7 N7 sl ∧ Box (w7.alloc (.cells #[.int .i64 sp, .slice A7 N7 c7] 24)) w7.heap.size 24 #[.int .i64 sp, .slice A7 N7 c7]) := Lib.hid ⟨x7.belowOf (below_box _) (Nat.le_refl _), Box.made _ _ _⟩
    have G6 := Lib.hid (HS2.out (w7.alloc (.cells #[.int .i64 sp, .slice A7 N7 c7] 24)))
    clear G5 b7 b7' HS2 o7 x7
    go_wp2_with fail
    refine G6.out.mono ?_
    rintro e w8 ⟨v8, rfl, o8, b8⟩
    obtain ⟨A8, c8, rfl, -, -, x8⟩ := o8.slice
    simp only [HN7.out] at x8
    rw [HN7.out]
    have b8' : Below (w7.alloc (.cells #[.int .i64 sp, .slice A7 N7 c7] 24)).heap.size (w7.alloc (.cells #[.int .i64 sp, .slice A7 N7 c7] 24)) (w8.alloc (.cells #[.int .i64 sp, .slice A8 N7 c8] 24)) := b8.alloc b8.size _
    have X8 : Hid (HasPts (w8.alloc (.cells #[.int .i64 sp, .slice A8 N7 c8] 24)) w8.heap.size A8 N7 sl ∧ HasPts (w8.alloc (.cells #[.int .i64 sp, .slice A8 N7 c8] 24)) w7.heap.size A7 N7 sl) := Lib.hid ⟨x8.belowOf (below_box _) (Nat.le_refl _), X7.out.1.belowOf b8' (by simp)⟩
    have Hb8 : Hid (Below (w.alloc (.cells #[.int .i64 ep, .slice A n c] 24)).heap.size (w.alloc (.cells #[.int .i64 ep, .slice A n c] 24)) (w8.alloc (.cells #[.int .i64 sp, .slice A8 N7 c8] 24))) := Lib.hid (B567.out.2.2.trans (b8'.mono B567.out.2.2.size))
    have hs8 : w7.heap.size ≤ (w8.alloc (.cells #[.int .i64 sp, .slice A8 N7 c8] 24)).heap.size := by have := b8'.size; simp only [World.size_alloc] at this ⊢; omega
    have K5 := B567.out.1.below b8' B567.out.1.lt
    have K6 := B567.out.2.1.below b8' B567.out.2.1.lt
    have K7 := X7.out.2.below b8' X7.out.2.lt
    have K8 := Box.made w8 24 #[.int .i64 sp, .slice A8 N7 c8]
    have HK : Hid (∀ wx, Below (w8.alloc (.cells #[.int .i64 sp, .slice A8 N7 c8] 24)).heap.size (w8.alloc (.cells #[.int .i64 sp, .slice A8 N7 c8] 24)) wx → ((wx.cell? ⟨w.heap.size, 0, none⟩ = some (.int .i64 ep) ∧ wx.cell? ⟨w.heap.size, 1, none⟩ = some (.slice A n c)) ∧ (wx.cell? ⟨w5.heap.size, 0, none⟩ = some (.string r0) ∧ wx.cell? ⟨w5.heap.size, 1, none⟩ = some (.string r1)) ∧ (wx.cell? ⟨w6.heap.size, 0, none⟩ = some (.string r0) ∧ wx.cell? ⟨w6.heap.size, 1, none⟩ = some (.string r1)) ∧ (wx.cell? ⟨w7.heap.size, 0, none⟩ = some (.int .i64 sp) ∧ wx.cell? ⟨w7.heap.size, 1, none⟩ = some (.slice A7 N7 c7)) ∧ (wx.cell? ⟨w8.heap.size, 0, none⟩ = some (.int .i64 sp) ∧ wx.cell? ⟨w8.heap.size, 1, none⟩ = some (.slice A8 N7 c8))) ∧ Below (w8.alloc (.cells #[.int .i64 sp, .slice A8 N7 c8] 24)).heap.size (w8.alloc (.cells #[.int .i64 sp, .slice A8 N7 c8] 24)) wx) := Lib.hid fun wx hx => by
      have hbm := HM.out wx (Hb8.out.trans (hx.mono Hb8.out.size))
      have k5 := K5.below hx K5.lt
      have k6 := K6.below hx K6.lt
      have k7 := K7.below hx K7.lt
      have k8 := K8.below hx K8.lt
      exact ⟨⟨⟨hbm.1, hbm.2.1⟩, ⟨k5.cell 0, k5.cell 1⟩, ⟨k6.cell 0, k6.cell 1⟩, ⟨k7.cell 0, k7.cell 1⟩, ⟨k8.cell 0, k8.cell 1⟩⟩, hx⟩
    have D1 := Lib.hid (fun wx (hx : Below (w8.alloc (.cells #[.int .i64 sp, .slice A8 N7 c8] 24)).heap.size (w8.alloc (.cells #[.int .i64 sp, .slice A8 N7 c8] 24)) wx) => HC1.out wx (Hb8.out.trans (hx.mono Hb8.out.size)))
    have D2 := Lib.hid (fun wx (hx : Below (w8.alloc (.cells #[.int .i64 sp, .slice A8 N7 c8] 24)).heap.size (w8.alloc (.cells #[.int .i64 sp, .slice A8 N7 c8] 24)) wx) => HC2.out wx (Hb8.out.trans (hx.mono Hb8.out.size)))
    have D3 := Lib.hid (fun wx (hx : Below (w8.alloc (.cells #[.int .i64 sp, .slice A8 N7 c8] 24)).heap.size (w8.alloc (.cells #[.int .i64 sp, .slice A8 N7 c8] 24)) wx) => sameM_any sp A7 A8 N7 c7 c8 w7.heap.size w8.heap.size sl wx (X8.out.2.belowOf hx hs8) (X8.out.1.belowOf hx (by simp)) (Nat.le_trans hs8 hx.size) (by have := hx.size; simp only [World.size_alloc] at this; omega) (by have := HN8.out; unfold maxLen; omega))
    clear G6 b8 b8' o8 x8 K5 K6 K7 K8 q0 q1
    go_wp2
    go_region_held3 (fun wx => ((wx.cell? ⟨w.heap.size, 0, none⟩ = some (.int .i64 ep) ∧ wx.cell? ⟨w.heap.size, 1, none⟩ = some (.slice A n c)) ∧ (wx.cell? ⟨w5.heap.size, 0, none⟩ = some (.string r0) ∧ wx.cell? ⟨w5.heap.size, 1, none⟩ = some (.string r1)) ∧ (wx.cell? ⟨w6.heap.size, 0, none⟩ = some (.string r0) ∧ wx.cell? ⟨w6.heap.size, 1, none⟩ = some (.string r1)) ∧ (wx.cell? ⟨w7.heap.size, 0, none⟩ = some (.int .i64 sp) ∧ wx.cell? ⟨w7.heap.size, 1, none⟩ = some (.slice A7 N7 c7)) ∧ (wx.cell? ⟨w8.heap.size, 0, none⟩ = some (.int .i64 sp) ∧ wx.cell? ⟨w8.heap.size, 1, none⟩ = some (.slice A8 N7 c8))) ∧ Below (w8.alloc (.cells #[.int .i64 sp, .slice A8 N7 c8] 24)).heap.size (w8.alloc (.cells #[.int .i64 sp, .slice A8 N7 c8] 24)) wx)
      (first | exact HK.out _ (Below.refl _ _).drew | exact HK.out _ c1 | exact HK.out _ c2 | exact HK.out _ c3)
      (first
        | (go_at_call 17; refine (D1.out _ (Below.refl _ _).drew).mono ?_; rintro e1 y1 ⟨rfl, b1⟩; have c1 : Below (w8.alloc (.cells #[.int .i64 sp, .slice A8 N7 c8] 24)).heap.size (w8.alloc (.cells #[.int .i64 sp, .slice A8 N7 c8] 24)) y1 := (Below.refl _ _).drew.trans b1)
        | (go_at_call 18; refine (D2.out _ c1).mono ?_; rintro e1 y2 ⟨rfl, b2⟩; have c2 : Below (w8.alloc (.cells #[.int .i64 sp, .slice A8 N7 c8] 24)).heap.size (w8.alloc (.cells #[.int .i64 sp, .slice A8 N7 c8] 24)) y2 := c1.trans (b2.mono c1.size))
        | (go_at_call 19; refine (D3.out _ c2).mono ?_; rintro e1 y3 ⟨rfl, b3⟩; have c3 : Below (w8.alloc (.cells #[.int .i64 sp, .slice A8 N7 c8] 24)).heap.size (w8.alloc (.cells #[.int .i64 sp, .slice A8 N7 c8] 24)) y3 := c2.trans (b3.mono c2.size)))
    all_goals
      have HE := Lib.hid (HM.out _ (Hb8.out.trans (c3.mono Hb8.out.size))).2.2
      go_wp2
      go_ret
      exact ⟨rfl, HE.out⟩

namespace lawAtlasChecks
open Go.ChangeShapes Go.WideShapes Go.ChangeAt

theorem own : ownKnob Try.prog.godebug = none := by kernel_rfl
theorem kids : Kids Try.prog (· < Try.prog.types.size) := kids_rows (by kernel_rfl) (by kernel_rfl)
theorem full : ∀ t e, t < Try.prog.types.size → Try.prog.underlying t = some (.slice e) → 0 < Try.prog.cellsOf e := slices_full_of Try.prog (by kernel_rfl)

set_option maxRecDepth 100000 in
theorem lifted (os : Os) (started : os.Started) (H : Type) (enc : TypeId × Value → H) :
    ReturnsInHanded {} Try.checked os 3 .any (Rows.atlasChecksSpec.pre6 enc Try.prog Try.f3 Rows.atlasChecksRow.domain false) (Rows.atlasChecksSpec.post enc Try.prog Try.f3 false true false false) := by
  refine returnsInHanded_of_change (C := Try.checked) own started (by kernel_rfl) Try.func3
    (ChangeSpec.witness6 (enc := enc) (C := Try.checked) false ⟨#[], #[.agg #[.int .i64 0, .slice none 0 0], .string ⟨#[]⟩, .int .i64 0], []⟩ 8 (by kernel_rfl) (by kernel_rfl) (by kernel_rfl) (by kernel_rfl)) ?_
  intro W base args ds gs before hval0 hW _ _
  have hval : ∀ (j : Nat) t v, Try.f3.params[j]? = some t → args[j]? = some v → Value.okWide Try.prog W .any base t v := hval0
  have hW' := hW
  obtain ⟨p, q, hA0, hV, rfl, _, _⟩ := hW
  obtain ⟨rfl, rfl⟩ := trodVars_none hV
  have hA : DataW.TrodAll enc Try.prog W 0 (fun _ => true) true Try.f3.params.toList args.toList ds p := hA0
  rw [Try.params3] at hA hval
  obtain ⟨v0, vs0, d0, ds0, p0, q0, hargs, rfl, rfl, h0, r0⟩ := trodAll_cons hA
  obtain ⟨v1, vs1, d1, ds1, p1, q1, rfl, rfl, rfl, h1, r1⟩ := trodAll_cons r0
  obtain ⟨v2, vs2, d2, ds2, p2, q2, rfl, rfl, rfl, h2, r2⟩ := trodAll_cons r1
  obtain ⟨rfl, rfl, rfl⟩ := trodAll_nil r2
  obtain rfl : args = #[v0, v1, v2] := by cases args; simp_all
  have hlt := hW'.lt
  obtain ⟨e0, A0, n0, c0, l0, rfl, hnc0, hm0, hb0, hs0⟩ := open_map Try.underlying24 (by kernel_rfl) ⟨rfl, rfl⟩ ⟨by kernel_rfl, by kernel_rfl⟩ ⟨by kernel_rfl, by kernel_rfl⟩ Try.underlying46 (by kernel_rfl) ⟨rfl, rfl⟩ ⟨by kernel_rfl, by kernel_rfl⟩ ⟨by kernel_rfl, by kernel_rfl⟩ (hval 0 24 v0 rfl rfl) h0 (fun x hx => hlt x (by simp [hx]))
  obtain ⟨s1, rfl, _, _, ws1⟩ := Go.ChangeMaps.open_string Try.underlying9 (hval 1 9 v1 rfl rfl) h1
  obtain ⟨k2, rfl, _, _, _⟩ := open_int Try.underlying3 (hval 2 3 v2 rfl rfl) h2
  refine (checks_walk e0 A0 n0 c0 l0 s1 k2 W hb0 hnc0 hm0 hs0 ws1).mono fun e W' ⟨he, hbel⟩ => ?_
  subst he
  exact ⟨_, rfl, law_post kids full (of_decide_eq_true (by kernel_rfl)) Try.underlying4 rfl rfl rfl hW' hbel⟩

theorem proved : Rows.AtlasChecksSaid :=
  OpenClaim.holds_of_wide 3 Try.f3 rfl rfl rfl rfl rfl rfl rfl ⟨rfl, rfl, rfl, rfl, rfl⟩ rfl rfl rfl rfl rfl (by kernel_rfl) Try.func3 (by kernel_rfl)
    (of_decide_eq_true (by kernel_rfl)) (by unfold Func.isWrapper; first | (rw [if_pos (by decide +kernel)]; kernel_rfl) | (rw [if_neg (by decide +kernel)]; exact ⟨rfl, rfl⟩))
    (fun os started H enc _ => lifted os started H enc)
end lawAtlasChecks

end Go.Proofs.Ytnfnjhnfpcbdfaa

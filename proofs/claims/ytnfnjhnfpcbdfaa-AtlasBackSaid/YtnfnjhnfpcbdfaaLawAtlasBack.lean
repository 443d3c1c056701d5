/- AtlasBack: split and merged again a map has the parts that it had; moved there and back too. No condition. -/
import Derived.Test.YtnfnjhnfpcbdfaaAtR
import Derived.Test.YtnfnjhnfpcbdfaaAtE
import Derived.Test.YtnfnjhnfpcbdfaaSpecAtb
import Derived.Test.YtnfnjhnfpcbdfaaOpenMap
import Derived.Test.YtnfnjhnfpcbdfaaRow
namespace Go.Proofs.Ytnfnjhnfpcbdfaa
open Go.RowKit
open Go.Lib (strCells compareBytes)

theorem go_split {ep : Int} {l : List Pt} {s : ByteArray} {e : Int} {m : List Pt} (h : goT ep l (splitP l s) = (e, m, 0)) (hep : ep ≤ 1000000) : RightP l ∧ RightP m ∧ e = ep + 1 ∧ goT e m (mergeP m s) = (ep + 1 + 1, l, 0) := by
  obtain ⟨h1, h2, h3, h4, h5, h6⟩ := go_right (fun hr l' e => split_right hr e) h
  refine ⟨h3, h6, h5, ?_⟩
  unfold goT
  rw [if_neg (fun h9 => h9 (check_zero.2 ⟨by omega, by omega, h6⟩)), back_split h3 h4]
  simp only
  rw [if_neg (by omega), h5]
theorem go_move {ep : Int} {l : List Pt} {s : ByteArray} {n : Int} {e : Int} {m : List Pt} (h : goT ep l (moveP l s n) = (e, m, 0)) (hep : ep ≤ 1000000) : RightP l ∧ RightP m ∧ e = ep + 1 ∧ findT ep l s.data.toList = (holdN l s.data.toList, true) ∧ goT e m (moveP m s (ptAt l (holdN l s.data.toList)).n) = (ep + 1 + 1, l, 0) := by
  obtain ⟨h1, h2, h3, h4, h5, h6⟩ := go_right (fun hr l' e => move_right hr e) h
  refine ⟨h3, h6, h5, ?_, ?_⟩
  · unfold findT
    rw [if_pos (check_zero.2 ⟨h1, by omega, h3⟩)]
  · unfold goT
    rw [if_neg (fun h9 => h9 (check_zero.2 ⟨by omega, by omega, h6⟩)), back_move h3 h4]
    simp only
    rw [if_neg (by omega), h5]
theorem right_small {l : List Pt} (h : RightP l) : l.length ≤ maxLen ∧ ∀ p ∈ l, p.lo.size ≤ maxLen := by
  unfold maxLen
  exact ⟨by have := h.most; omega, fun p hp => by have := small_right h p hp; omega⟩
set_option maxRecDepth 100000 in
set_option maxHeartbeats 6400000 in
theorem back_walk (ep : Int) (A : Option Addr) (n c : Nat) (l : List Pt) (s : ByteArray) (node : Int) (w : World) (h : HasPts w w.heap.size A n l) (hnc : n ≤ c) (hcm : c ≤ maxLen) (hs : ∀ p ∈ l, p.lo.size ≤ maxLen) (hsz : s.size ≤ maxLen) :
    Calls Try.prog 6 #[.agg #[.int .i64 ep, .slice A n c], .string s, .int .i64 node] w fun e w' => e = .returned (.bool true) ∧ Below w.heap.size w w' := by
  have hn : n ≤ maxLen := Nat.le_trans hnc hcm
  have Hl := Lib.hid h.1
  have HM := Lib.hid (fun wx (hx : Below (w.alloc (.cells #[.int .i64 ep, .slice A n c] 24)).heap.size (w.alloc (.cells #[.int .i64 ep, .slice A n c] 24)) wx) => map_box hx)
  have HA : Hid (∀ wx, Below (w.alloc (.cells #[.int .i64 ep, .slice A n c] 24)).heap.size (w.alloc (.cells #[.int .i64 ep, .slice A n c] 24)) wx → HasPts wx w.heap.size A n l ∧ w.heap.size ≤ wx.heap.size) := Lib.hid fun wx hx => ⟨h.belowOf (map_box hx).2.2 (Nat.le_refl _), (map_box hx).2.2.size⟩
  have HLi := Lib.hid (fun wx (hx : Below (w.alloc (.cells #[.int .i64 ep, .slice A n c] 24)).heap.size (w.alloc (.cells #[.int .i64 ep, .slice A n c] 24)) wx) => light12_any ep A n c w.heap.size l wx (HA.out wx hx).1 (HA.out wx hx).2 hn hs)
  have HSp := Lib.hid (fun wx (hx : Below (w.alloc (.cells #[.int .i64 ep, .slice A n c] 24)).heap.size (w.alloc (.cells #[.int .i64 ep, .slice A n c] 24)) wx) => split_any ep A n c w.heap.size l s wx (HA.out wx hx).1 (HA.out wx hx).2 hn hs hsz)
  have HMv := Lib.hid (fun wx (hx : Below (w.alloc (.cells #[.int .i64 ep, .slice A n c] 24)).heap.size (w.alloc (.cells #[.int .i64 ep, .slice A n c] 24)) wx) => move_any ep A n c w.heap.size l s node wx (HA.out wx hx).1 (HA.out wx hx).2 hn hs)
  have HFi := Lib.hid (fun wx (hx : Below (w.alloc (.cells #[.int .i64 ep, .slice A n c] 24)).heap.size (w.alloc (.cells #[.int .i64 ep, .slice A n c] 24)) wx) => find_any ep A n c w.heap.size l s wx (HA.out wx hx).1 (HA.out wx hx).2 hn hs)
  have Hsz := Lib.hid hsz
  have Hn := Lib.hid hn
  unfold maxLen at hsz
  clear h hs hnc hcm hn
  go_enter Try.func6, Try.ntmps6
  go_wp2_with fail
  refine (awake12_any _).mono ?_
  rintro e w1 ⟨rfl, hb1⟩
  have Hb1 := Lib.hid hb1
  obtain ⟨q0, q1, -⟩ := HM.out w1 hb1
  have HL1 := Lib.hid (HLi.out w1 hb1)
  clear hb1 HLi
  go_wp2_with fail
  refine HL1.out.mono ?_
  rintro e w2 ⟨b, rfl, hbl, hb2⟩
  have Hb2 : Hid (Below (w.alloc (.cells #[.int .i64 ep, .slice A n c] 24)).heap.size (w.alloc (.cells #[.int .i64 ep, .slice A n c] 24)) w2) := Lib.hid (Hb1.out.trans (hb2.mono Hb1.out.size))
  obtain ⟨q0, q1, hbw⟩ := HM.out w2 Hb2.out
  have HW2 := Lib.hid hbw
  clear hb2 HL1 hbw
  cases b with
  | false =>
    go_wp2
    go_ret
    exact ⟨rfl, HW2.out⟩
  | true =>
    clear hbl
    by_cases h3 : 300 < s.size
    · have h3' : (300 : Int) < (s.size : Int) := by omega
      go_wp2
      go_ret
      exact ⟨rfl, HW2.out⟩
    have h3' : ¬ (300 : Int) < (s.size : Int) := by omega
    by_cases hep : 1000000 < ep
    · go_wp2
      go_ret
      exact ⟨rfl, HW2.out⟩
    have Hep : Hid (ep ≤ 1000000) := Lib.hid (by omega)
    have Hs2 := Lib.hid (HSp.out w2 Hb2.out)
    obtain ⟨⟨me, ml, mz⟩, hm⟩ : ∃ m, goT ep l (splitP l s) = m := ⟨_, rfl⟩
    rw [hm] at Hs2
    have Hm := Lib.hid hm
    clear hm HSp
    go_wp2_with fail
    refine Hs2.out.mono ?_
    rintro e w3 ⟨v3, rfl, o3, b3⟩
    obtain ⟨A3, c3, rfl, -, -, x3⟩ := o3.slice
    obtain ⟨N3, hN3⟩ : ∃ N3, ml.length = N3 := ⟨_, rfl⟩
    have HN3 := Lib.hid hN3
    rw [hN3] at x3 ⊢
    have Hb3 : Hid (Below (w.alloc (.cells #[.int .i64 ep, .slice A n c] 24)).heap.size (w.alloc (.cells #[.int .i64 ep, .slice A n c] 24)) (w3.alloc (.cells #[.int .i64 me, .slice A3 N3 c3] 24))) := Lib.hid ((Hb2.out.trans (b3.mono Hb2.out.size)).alloc (Nat.le_trans Hb2.out.size b3.size) _)
    have HX3 : Hid (HasPts (w3.alloc (.cells #[.int .i64 me, .slice A3 N3 c3] 24)) w3.heap.size A3 N3 ml) := Lib.hid (x3.belowOf (below_box _) (Nat.le_refl _))
    have HBx3 : Hid (Box (w3.alloc (.cells #[.int .i64 me, .slice A3 N3 c3] 24)) w3.heap.size 24 #[.int .i64 me, .slice A3 N3 c3]) := Lib.hid (Box.made _ _ _)
    clear o3 b3 x3 hN3 Hs2 q0 q1
    by_cases hz : mz = 0
    · subst hz
      obtain ⟨hr, hr3, rfl, hmg⟩ := go_split Hm.out Hep.out
      have HR3 := Lib.hid (right_small hr3)
      have Hmg0 := Lib.hid (merge_any (ep + 1) A3 N3 c3 w3.heap.size ml s (w3.alloc (.cells #[.int .i64 (ep + 1), .slice A3 N3 c3] 24)) HX3.out (by simp) (by rw [← HN3.out]; exact HR3.out.1) HR3.out.2)
      rw [hmg] at Hmg0
      clear hmg hr hr3
      go_wp2_with fail
      refine Hmg0.out.mono ?_
      rintro e w4 ⟨v4, rfl, o4, b4⟩
      obtain ⟨A4, c4, rfl, -, -, x4⟩ := o4.slice
      simp only at o4 x4
      rw [Hl.out] at x4 ⊢
      have Hb4 : Hid (Below (w.alloc (.cells #[.int .i64 ep, .slice A n c] 24)).heap.size (w.alloc (.cells #[.int .i64 ep, .slice A n c] 24)) w4) := Lib.hid (Hb3.out.trans (b4.mono Hb3.out.size))
      have Hb5 : Hid (Below (w.alloc (.cells #[.int .i64 ep, .slice A n c] 24)).heap.size (w.alloc (.cells #[.int .i64 ep, .slice A n c] 24)) (w4.alloc (.cells #[.int .i64 (ep + 1 + 1), .slice A4 n c4] 24))) := Lib.hid (Hb4.out.alloc Hb4.out.size _)
      have Hb6 : Hid (Below (w.alloc (.cells #[.int .i64 ep, .slice A n c] 24)).heap.size (w.alloc (.cells #[.int .i64 ep, .slice A n c] 24)) (w4.alloc (.cells #[.int .i64 ep, .slice A4 n c4] 24))) := Lib.hid (Hb4.out.alloc Hb4.out.size _)
      obtain ⟨q0, q1, -⟩ := HM.out _ Hb5.out
      obtain ⟨q2, q3, -⟩ := HM.out _ Hb6.out
      have Hsm := Lib.hid (sameM_any ep A4 A n c4 c w4.heap.size w.heap.size l (w4.alloc (.cells #[.int .i64 ep, .slice A4 n c4] 24)) (x4.belowOf (below_box _) (Nat.le_refl _)) (HA.out _ Hb6.out).1 (by simp) (HA.out _ Hb6.out).2 Hn.out)
      clear o4 x4 b4 Hmg0
      go_wp2_with fail
      refine Hsm.out.mono ?_
      rintro e w7 ⟨rfl, b7⟩
      have HbT : Hid (Below (w.alloc (.cells #[.int .i64 ep, .slice A n c] 24)).heap.size (w.alloc (.cells #[.int .i64 ep, .slice A n c] 24)) w7) := Lib.hid (Hb6.out.trans (b7.mono Hb6.out.size))
      clear b7 Hsm q0 q1 q2 q3
      obtain ⟨q0, q1, hbw⟩ := HM.out w7 HbT.out
      have HWq := Lib.hid hbw
      have Hm2 := Lib.hid (HMv.out w7 HbT.out)
      obtain ⟨⟨xe, xl, xz⟩, hxm⟩ : ∃ m, goT ep l (moveP l s node) = m := ⟨_, rfl⟩
      rw [hxm] at Hm2
      have HXm := Lib.hid hxm
      clear hxm hbw
      go_wp2_with fail
      refine Hm2.out.mono ?_
      rintro e w8 ⟨v8, rfl, o8, b8⟩
      obtain ⟨A8, c8, rfl, -, -, x8⟩ := o8.slice
      obtain ⟨N8, hN8⟩ : ∃ N8, xl.length = N8 := ⟨_, rfl⟩
      have HN8 := Lib.hid hN8
      rw [hN8] at x8 ⊢
      have Hb8 : Hid (Below (w.alloc (.cells #[.int .i64 ep, .slice A n c] 24)).heap.size (w.alloc (.cells #[.int .i64 ep, .slice A n c] 24)) (w8.alloc (.cells #[.int .i64 xe, .slice A8 N8 c8] 24))) := Lib.hid ((HbT.out.trans (b8.mono HbT.out.size)).alloc (Nat.le_trans HbT.out.size b8.size) _)
      have HX8 : Hid (HasPts (w8.alloc (.cells #[.int .i64 xe, .slice A8 N8 c8] 24)) w8.heap.size A8 N8 xl) := Lib.hid (x8.belowOf (below_box _) (Nat.le_refl _))
      have HBx8 : Hid (Box (w8.alloc (.cells #[.int .i64 xe, .slice A8 N8 c8] 24)) w8.heap.size 24 #[.int .i64 xe, .slice A8 N8 c8]) := Lib.hid (Box.made _ _ _)
      obtain ⟨q0, q1, hbw⟩ := HM.out _ Hb8.out
      have HW8 := Lib.hid hbw
      clear o8 b8 x8 hN8 Hm2 hbw
      by_cases hxz : xz = 0
      · subst hxz
        obtain ⟨hr, hr8, rfl, hfd, hmb⟩ := go_move HXm.out Hep.out
        have HR8 := Lib.hid (right_small hr8)
        have Hf := Lib.hid (HFi.out _ Hb8.out)
        rw [hfd] at Hf
        have Hhl := Lib.hid (hold_lt (hold_is hr s.data.toList))
        obtain ⟨i, hi⟩ : ∃ i, holdN l s.data.toList = i := ⟨_, rfl⟩
        simp only [hi] at Hf Hhl
        rw [hi] at hmb
        have hin : i < n := by have := Hhl.out; rw [Hl.out] at this; exact this
        have Hmb := Lib.hid hmb
        clear hr hr8 hfd hmb hi
        go_wp2_with fail
        refine Hf.out.mono ?_
        rintro e w9 ⟨rfl, b9⟩
        have Hb9 : Hid (Below (w.alloc (.cells #[.int .i64 ep, .slice A n c] 24)).heap.size (w.alloc (.cells #[.int .i64 ep, .slice A n c] 24)) w9) := Lib.hid (Hb8.out.trans (b9.mono Hb8.out.size))
        obtain ⟨q0, q1, -⟩ := HM.out w9 Hb9.out
        have hx9 := HBx8.out.below b9 HBx8.out.lt
        have y0 : w9.cell? ⟨w8.heap.size, 0, none⟩ = some (.int .i64 (ep + 1)) := hx9.cell 0
        have y1 : w9.cell? ⟨w8.heap.size, 1, none⟩ = some (.slice A8 N8 c8) := hx9.cell 1
        obtain ⟨a, p, rfl, hab, hp, -, d1⟩ := (HA.out w9 Hb9.out).1.at_ hin
        have Hp : Hid (ptAt l i = p) := Lib.hid (ptAt_of hp)
        obtain ⟨plo, pn⟩ := p
        simp only at d1
        have Hmv2 := Lib.hid (fun wx (hx : Below w9.heap.size w9 wx) => move_any (ep + 1) A8 N8 c8 w8.heap.size xl s pn wx ((HX8.out.belowOf b9 (by simp)).belowOf hx (by have := b9.size; simp only [World.size_alloc] at this; omega)) (by have h1 := b9.size; have h2 := hx.size; simp only [World.size_alloc] at h1; omega) (by rw [← HN8.out]; exact HR8.out.1) HR8.out.2)
        have hmb2 := Hmb.out
        rw [Hp.out] at hmb2
        simp only at hmb2
        rw [hmb2] at Hmv2
        have hi0 : (0 : Int) ≤ (i : Int) := by omega
        have hi1 : (i : Int) < (n : Int) := by omega
        have hi2 : ¬ (i : Int) < 0 := by omega
        have hi3 : ¬ (n : Int) ≤ (i : Int) := by omega
        obtain ⟨q0b, q1b, -⟩ := HM.out _ (Hb9.out.alloc Hb9.out.size (Obj.cells #[.int .i64 0, .slice none 0 0] 24))
        have hx9b := hx9.alloc (.cells #[.int .i64 0, .slice none 0 0] 24)
        have y0b : (w9.alloc (.cells #[.int .i64 0, .slice none 0 0] 24)).cell? ⟨w8.heap.size, 0, none⟩ = some (.int .i64 (ep + 1)) := hx9b.cell 0
        have y1b : (w9.alloc (.cells #[.int .i64 0, .slice none 0 0] 24)).cell? ⟨w8.heap.size, 1, none⟩ = some (.slice A8 N8 c8) := hx9b.cell 1
        have d1b : (w9.alloc (.cells #[.int .i64 0, .slice none 0 0] 24)).cell? ⟨(a.add (i * 2)).block, (a.add (i * 2)).off + 1, none⟩ = some (.int .i64 pn) := ((below_box (w := w9) _).cell (by show (a.add (i * 2)).block < w9.heap.size; rw [addr_block]; have := (HA.out w9 Hb9.out).2; omega)).trans d1
        have HB9 := Lib.hid b9
        have Hd1 := Lib.hid d1
        have Hab : Hid (a.block < w9.heap.size) := Lib.hid (by have := (HA.out w9 Hb9.out).2; omega)
        have Hal9 := Lib.hid (below_box (w := w9) (Obj.cells #[.int .i64 0, .slice none 0 0] 24)).drew
        have HRb : Hid (Box (w9.alloc (.cells #[.int .i64 0, .slice none 0 0] 24)).drew w9.heap.size 24 #[.int .i64 0, .slice none 0 0]) := Lib.hid ((Box.made w9 _ _).below (below_box_drew _) (by simp))
        clear b9 hx9 hx9b hab hp hmb2 Hf
        go_wp2
        have HK9 : Hid (∀ wx, Below w9.heap.size w9 wx → ((wx.cell? ⟨w.heap.size, 0, none⟩ = some (.int .i64 ep) ∧ wx.cell? ⟨w.heap.size, 1, none⟩ = some (.slice (some a) n c)) ∧ (wx.cell? ⟨w8.heap.size, 0, none⟩ = some (.int .i64 (ep + 1)) ∧ wx.cell? ⟨w8.heap.size, 1, none⟩ = some (.slice A8 N8 c8)) ∧ wx.cell? ⟨(a.add (i * 2)).block, (a.add (i * 2)).off + 1, none⟩ = some (.int .i64 pn)) ∧ Below w9.heap.size w9 wx) := Lib.hid fun wx hx => ⟨⟨⟨(HM.out _ (Hb9.out.trans (hx.mono Hb9.out.size))).1, (HM.out _ (Hb9.out.trans (hx.mono Hb9.out.size))).2.1⟩, ⟨((HBx8.out.below HB9.out HBx8.out.lt).below hx (Nat.lt_of_lt_of_le HBx8.out.lt HB9.out.size)).cell 0, ((HBx8.out.below HB9.out HBx8.out.lt).below hx (Nat.lt_of_lt_of_le HBx8.out.lt HB9.out.size)).cell 1⟩, (hx.cell (by show (a.add (i * 2)).block < w9.heap.size; rw [addr_block]; exact Hab.out)).trans Hd1.out⟩, hx⟩
        have HmvA := Lib.hid (Hmv2.out _ (below_box_drew w9))
        have HmvB := Lib.hid (Hmv2.out _ Hal9.out)
        clear Hmv2
        go_region_held3 (fun wx => ((wx.cell? ⟨w.heap.size, 0, none⟩ = some (.int .i64 ep) ∧ wx.cell? ⟨w.heap.size, 1, none⟩ = some (.slice (some a) n c)) ∧ (wx.cell? ⟨w8.heap.size, 0, none⟩ = some (.int .i64 (ep + 1)) ∧ wx.cell? ⟨w8.heap.size, 1, none⟩ = some (.slice A8 N8 c8)) ∧ wx.cell? ⟨(a.add (i * 2)).block, (a.add (i * 2)).off + 1, none⟩ = some (.int .i64 pn)) ∧ Below w9.heap.size w9 wx)
          (first | exact HK9.out _ (Below.refl _ _).drew | exact HK9.out _ Hal9.out | exact HK9.out _ b11 | exact HK9.out _ (b11.alloc b11.size _) | exact HK9.out _ ((b11.setCell (Nat.le_refl _) _).setCell (Nat.le_refl _) _))
          (first | (go_at_call 24; refine HmvA.out.mono ?_; rintro e' w10 ⟨v10, rfl, o10, b10⟩; obtain ⟨A10, c10, rfl, -, -, x10⟩ := o10.slice; simp only at x10; rw [Hl.out] at x10 ⊢; have H10a : Hid (HasPts w10 w10.heap.size A10 n l ∧ Below w9.heap.size w9 w10) := Lib.hid ⟨x10, (below_box_drew w9).trans b10⟩; have b11 := H10.out.2.1; clear o10 b10 x10) | (go_at_call 24; refine HmvB.out.mono ?_; rintro e' w10 ⟨v10, rfl, o10, b10⟩; obtain ⟨A10, c10, rfl, -, -, x10⟩ := o10.slice; simp only at x10; rw [Hl.out] at x10 ⊢; have HBx10 : Hid (Box w10 w9.heap.size 24 #[.int .i64 0, .slice none 0 0]) := Lib.hid (HRb.out.below b10 HRb.out.lt); have H10 : Hid (HasPts w10 w10.heap.size A10 n l ∧ Below w9.heap.size w9 w10 ∧ OwnPts w10 (w9.heap.size + 1) (.slice A10 n c10) l) := Lib.hid ⟨x10, Hal9.out.trans (b10.mono Hal9.out.size), by have h9 := o10.base (B' := w9.heap.size + 1) (by simp); simp only [Hl.out] at h9; exact h9⟩; have f0 := HBx10.out.frozen 0; have f1 := HBx10.out.frozen 1; have u0 : w10.cell? ⟨w9.heap.size, 0, none⟩ = some (.int .i64 0) := HBx10.out.cell 0; have u1 : w10.cell? ⟨w9.heap.size, 1, none⟩ = some (.slice none 0 0) := HBx10.out.cell 1; have b11 := H10.out.2.1; clear o10 b10 x10) | (go_at_call 24; refine HmvA.out.mono ?_; rintro e' w10 ⟨v10, rfl, o10, b10⟩; obtain ⟨A10, c10, rfl, -, -, x10⟩ := o10.slice; simp only at x10; rw [Hl.out] at x10 ⊢; have H10a : Hid (HasPts w10 w10.heap.size A10 n l ∧ Below w9.heap.size w9 w10) := Lib.hid ⟨x10, (below_box_drew w9).trans b10⟩; have b11 := H10a.out.2; clear o10 b10 x10))
        · clear ‹_ ∧ Below w9.heap.size w9 (World.alloc _ _)›
          have Hb11 : Hid (Below (w.alloc (.cells #[.int .i64 ep, .slice (some a) n c] 24)).heap.size (w.alloc (.cells #[.int .i64 ep, .slice (some a) n c] 24)) (w10.alloc (.cells #[.int .i64 (ep + 1 + 1), .slice A10 n c10] 24))) := Lib.hid ((Hb9.out.trans (H10a.out.2.mono Hb9.out.size)).alloc (Nat.le_trans Hb9.out.size H10a.out.2.size) _)
          have Hb12 : Hid (Below (w.alloc (.cells #[.int .i64 ep, .slice (some a) n c] 24)).heap.size (w.alloc (.cells #[.int .i64 ep, .slice (some a) n c] 24)) (w10.alloc (.cells #[.int .i64 ep, .slice A10 n c10] 24))) := Lib.hid ((Hb9.out.trans (H10a.out.2.mono Hb9.out.size)).alloc (Nat.le_trans Hb9.out.size H10a.out.2.size) _)
          obtain ⟨q2, q3, -⟩ := HM.out _ Hb11.out
          obtain ⟨q4, q5, hbw⟩ := HM.out _ Hb12.out
          have HW12 := Lib.hid hbw
          have Hsm := Lib.hid (sameM_any ep A10 (some a) n c10 c w10.heap.size w.heap.size l (w10.alloc (.cells #[.int .i64 ep, .slice A10 n c10] 24)) (H10a.out.1.belowOf (below_box _) (Nat.le_refl _)) (HA.out _ Hb12.out).1 (by simp) (HA.out _ Hb12.out).2 Hn.out)
          clear hbw
          go_wp2_with fail
          refine Hsm.out.mono ?_
          rintro e' w13 ⟨rfl, b13⟩
          have HE := Lib.hid (HW12.out.trans (b13.mono HW12.out.size))
          clear b13
          go_wp2
          go_ret
          exact ⟨rfl, HE.out⟩
        · clear ‹_ ∧ Below w9.heap.size w9 (World.setCell _ _ _)›
          have hB1 := set2q (.int .i64 (ep + 1 + 1)) (.slice A10 n c10) HBx10.out
          have hno : (Value.slice A10 n c10).ownBlock ≠ some w9.heap.size := fun e => by have := (H10.out.2.2.lt _ e).1; omega
          have ho1 := (H10.out.2.2.far (i := 0) (u := .int .i64 (ep + 1 + 1)) hno).far (i := 1) (u := .slice A10 n c10) hno
          have hb11 : Below (w.alloc (.cells #[.int .i64 ep, .slice (some a) n c] 24)).heap.size (w.alloc (.cells #[.int .i64 ep, .slice (some a) n c] 24)) ((w10.setCell ⟨w9.heap.size, 0, none⟩ (.int .i64 (ep + 1 + 1))).setCell ⟨w9.heap.size, 1, none⟩ (.slice A10 n c10)) := ((Hb9.out.trans (H10.out.2.1.mono Hb9.out.size)).setCell Hb9.out.size _).setCell Hb9.out.size _
          obtain ⟨W3, hW3⟩ : ∃ W3, ((w10.setCell ⟨w9.heap.size, 0, none⟩ (.int .i64 (ep + 1 + 1))).setCell ⟨w9.heap.size, 1, none⟩ (.slice A10 n c10)) = W3 := ⟨_, rfl⟩
          rw [hW3] at hB1 hb11 ho1 ⊢
          obtain ⟨q2, q3, -⟩ := HM.out _ hb11
          have g0 := hB1.frozen 0
          have t0 : W3.cell? ⟨w9.heap.size, 0, none⟩ = some (.int .i64 (ep + 1 + 1)) := hB1.cell 0
          have hB2 : Box (W3.setCell ⟨w9.heap.size, 0, none⟩ (.int .i64 ep)) w9.heap.size 24 #[.int .i64 ep, .slice A10 n c10] := by simpa using hB1.set_ 0 (.int .i64 ep)
          have ho2 := ho1.far (i := 0) (u := .int .i64 ep) hno
          have hb12 : Below (w.alloc (.cells #[.int .i64 ep, .slice (some a) n c] 24)).heap.size (w.alloc (.cells #[.int .i64 ep, .slice (some a) n c] 24)) (W3.setCell ⟨w9.heap.size, 0, none⟩ (.int .i64 ep)) := hb11.setCell Hb9.out.size _
          have s0 : (W3.setCell ⟨w9.heap.size, 0, none⟩ (.int .i64 ep)).cell? ⟨w9.heap.size, 0, none⟩ = some (.int .i64 ep) := hB2.cell 0
          have s1 : (W3.setCell ⟨w9.heap.size, 0, none⟩ (.int .i64 ep)).cell? ⟨w9.heap.size, 1, none⟩ = some (.slice A10 n c10) := hB2.cell 1
          obtain ⟨q4, q5, hbw⟩ := HM.out _ hb12
          obtain ⟨A11, c11, e11, -, -, x11⟩ := ho2.slice
          rw [Hl.out] at e11 x11
          injection e11 with e11 _ e12
          subst e11
          subst e12
          have HW12 := Lib.hid hbw
          have Hsm := Lib.hid (sameM_any ep A10 (some a) n c10 c _ w.heap.size l (W3.setCell ⟨w9.heap.size, 0, none⟩ (.int .i64 ep)) x11 (HA.out _ hb12).1 (Nat.le_refl _) (HA.out _ hb12).2 Hn.out)
          clear hbw hB1 hB2 hno ho1 ho2 hb11 hb12 x11 hW3 u0 u1 f0 f1
          go_wp2_with fail
          refine Hsm.out.mono ?_
          rintro e' w13 ⟨rfl, b13⟩
          have HE := Lib.hid (HW12.out.trans (b13.mono HW12.out.size))
          clear b13
          go_wp2
          go_ret
          exact ⟨rfl, HE.out⟩
      · have hx1 : (xz == 0) = false := by simpa using hxz
        have hx2 : (xz != 0) = true := by simpa using hxz
        clear hxz
        go_wp2
        go_ret
        exact ⟨rfl, HW8.out⟩
    · have hz1 : (mz == 0) = false := by simpa using hz
      have hz2 : (mz != 0) = true := by simpa using hz
      clear hz
      have HbT := Hb3
      obtain ⟨q0, q1, hbw⟩ := HM.out (w3.alloc (.cells #[.int .i64 me, .slice A3 N3 c3] 24)) HbT.out
      have HWq := Lib.hid hbw
      have Hm2 := Lib.hid (HMv.out (w3.alloc (.cells #[.int .i64 me, .slice A3 N3 c3] 24)) HbT.out)
      obtain ⟨⟨xe, xl, xz⟩, hxm⟩ : ∃ m, goT ep l (moveP l s node) = m := ⟨_, rfl⟩
      rw [hxm] at Hm2
      have HXm := Lib.hid hxm
      clear hxm hbw
      go_wp2_with fail
      refine Hm2.out.mono ?_
      rintro e w8 ⟨v8, rfl, o8, b8⟩
      obtain ⟨A8, c8, rfl, -, -, x8⟩ := o8.slice
      obtain ⟨N8, hN8⟩ : ∃ N8, xl.length = N8 := ⟨_, rfl⟩
      have HN8 := Lib.hid hN8
      rw [hN8] at x8 ⊢
      have Hb8 : Hid (Below (w.alloc (.cells #[.int .i64 ep, .slice A n c] 24)).heap.size (w.alloc (.cells #[.int .i64 ep, .slice A n c] 24)) (w8.alloc (.cells #[.int .i64 xe, .slice A8 N8 c8] 24))) := Lib.hid ((HbT.out.trans (b8.mono HbT.out.size)).alloc (Nat.le_trans HbT.out.size b8.size) _)
      have HX8 : Hid (HasPts (w8.alloc (.cells #[.int .i64 xe, .slice A8 N8 c8] 24)) w8.heap.size A8 N8 xl) := Lib.hid (x8.belowOf (below_box _) (Nat.le_refl _))
      have HBx8 : Hid (Box (w8.alloc (.cells #[.int .i64 xe, .slice A8 N8 c8] 24)) w8.heap.size 24 #[.int .i64 xe, .slice A8 N8 c8]) := Lib.hid (Box.made _ _ _)
      obtain ⟨q0, q1, hbw⟩ := HM.out _ Hb8.out
      have HW8 := Lib.hid hbw
      clear o8 b8 x8 hN8 Hm2 hbw
      by_cases hxz : xz = 0
      · subst hxz
        obtain ⟨hr, hr8, rfl, hfd, hmb⟩ := go_move HXm.out Hep.out
        have HR8 := Lib.hid (right_small hr8)
        have Hf := Lib.hid (HFi.out _ Hb8.out)
        rw [hfd] at Hf
        have Hhl := Lib.hid (hold_lt (hold_is hr s.data.toList))
        obtain ⟨i, hi⟩ : ∃ i, holdN l s.data.toList = i := ⟨_, rfl⟩
        simp only [hi] at Hf Hhl
        rw [hi] at hmb
        have hin : i < n := by have := Hhl.out; rw [Hl.out] at this; exact this
        have Hmb := Lib.hid hmb
        clear hr hr8 hfd hmb hi
        go_wp2_with fail
        refine Hf.out.mono ?_
        rintro e w9 ⟨rfl, b9⟩
        have Hb9 : Hid (Below (w.alloc (.cells #[.int .i64 ep, .slice A n c] 24)).heap.size (w.alloc (.cells #[.int .i64 ep, .slice A n c] 24)) w9) := Lib.hid (Hb8.out.trans (b9.mono Hb8.out.size))
        obtain ⟨q0, q1, -⟩ := HM.out w9 Hb9.out
        have hx9 := HBx8.out.below b9 HBx8.out.lt
        have y0 : w9.cell? ⟨w8.heap.size, 0, none⟩ = some (.int .i64 (ep + 1)) := hx9.cell 0
        have y1 : w9.cell? ⟨w8.heap.size, 1, none⟩ = some (.slice A8 N8 c8) := hx9.cell 1
        obtain ⟨a, p, rfl, hab, hp, -, d1⟩ := (HA.out w9 Hb9.out).1.at_ hin
        have Hp : Hid (ptAt l i = p) := Lib.hid (ptAt_of hp)
        obtain ⟨plo, pn⟩ := p
        simp only at d1
        have Hmv2 := Lib.hid (fun wx (hx : Below w9.heap.size w9 wx) => move_any (ep + 1) A8 N8 c8 w8.heap.size xl s pn wx ((HX8.out.belowOf b9 (by simp)).belowOf hx (by have := b9.size; simp only [World.size_alloc] at this; omega)) (by have h1 := b9.size; have h2 := hx.size; simp only [World.size_alloc] at h1; omega) (by rw [← HN8.out]; exact HR8.out.1) HR8.out.2)
        have hmb2 := Hmb.out
        rw [Hp.out] at hmb2
        simp only at hmb2
        rw [hmb2] at Hmv2
        have hi0 : (0 : Int) ≤ (i : Int) := by omega
        have hi1 : (i : Int) < (n : Int) := by omega
        have hi2 : ¬ (i : Int) < 0 := by omega
        have hi3 : ¬ (n : Int) ≤ (i : Int) := by omega
        obtain ⟨q0b, q1b, -⟩ := HM.out _ (Hb9.out.alloc Hb9.out.size (Obj.cells #[.int .i64 0, .slice none 0 0] 24))
        have hx9b := hx9.alloc (.cells #[.int .i64 0, .slice none 0 0] 24)
        have y0b : (w9.alloc (.cells #[.int .i64 0, .slice none 0 0] 24)).cell? ⟨w8.heap.size, 0, none⟩ = some (.int .i64 (ep + 1)) := hx9b.cell 0
        have y1b : (w9.alloc (.cells #[.int .i64 0, .slice none 0 0] 24)).cell? ⟨w8.heap.size, 1, none⟩ = some (.slice A8 N8 c8) := hx9b.cell 1
        have d1b : (w9.alloc (.cells #[.int .i64 0, .slice none 0 0] 24)).cell? ⟨(a.add (i * 2)).block, (a.add (i * 2)).off + 1, none⟩ = some (.int .i64 pn) := ((below_box (w := w9) _).cell (by show (a.add (i * 2)).block < w9.heap.size; rw [addr_block]; have := (HA.out w9 Hb9.out).2; omega)).trans d1
        have HB9 := Lib.hid b9
        have Hd1 := Lib.hid d1
        have Hab : Hid (a.block < w9.heap.size) := Lib.hid (by have := (HA.out w9 Hb9.out).2; omega)
        have Hal9 := Lib.hid (below_box (w := w9) (Obj.cells #[.int .i64 0, .slice none 0 0] 24)).drew
        have HRb : Hid (Box (w9.alloc (.cells #[.int .i64 0, .slice none 0 0] 24)).drew w9.heap.size 24 #[.int .i64 0, .slice none 0 0]) := Lib.hid ((Box.made w9 _ _).below (below_box_drew _) (by simp))
        clear b9 hx9 hx9b hab hp hmb2 Hf
        go_wp2
        have HK9 : Hid (∀ wx, Below w9.heap.size w9 wx → ((wx.cell? ⟨w.heap.size, 0, none⟩ = some (.int .i64 ep) ∧ wx.cell? ⟨w.heap.size, 1, none⟩ = some (.slice (some a) n c)) ∧ (wx.cell? ⟨w8.heap.size, 0, none⟩ = some (.int .i64 (ep + 1)) ∧ wx.cell? ⟨w8.heap.size, 1, none⟩ = some (.slice A8 N8 c8)) ∧ wx.cell? ⟨(a.add (i * 2)).block, (a.add (i * 2)).off + 1, none⟩ = some (.int .i64 pn)) ∧ Below w9.heap.size w9 wx) := Lib.hid fun wx hx => ⟨⟨⟨(HM.out _ (Hb9.out.trans (hx.mono Hb9.out.size))).1, (HM.out _ (Hb9.out.trans (hx.mono Hb9.out.size))).2.1⟩, ⟨((HBx8.out.below HB9.out HBx8.out.lt).below hx (Nat.lt_of_lt_of_le HBx8.out.lt HB9.out.size)).cell 0, ((HBx8.out.below HB9.out HBx8.out.lt).below hx (Nat.lt_of_lt_of_le HBx8.out.lt HB9.out.size)).cell 1⟩, (hx.cell (by show (a.add (i * 2)).block < w9.heap.size; rw [addr_block]; exact Hab.out)).trans Hd1.out⟩, hx⟩
        have HmvA := Lib.hid (Hmv2.out _ (below_box_drew w9))
        have HmvB := Lib.hid (Hmv2.out _ Hal9.out)
        clear Hmv2
        go_region_held3 (fun wx => ((wx.cell? ⟨w.heap.size, 0, none⟩ = some (.int .i64 ep) ∧ wx.cell? ⟨w.heap.size, 1, none⟩ = some (.slice (some a) n c)) ∧ (wx.cell? ⟨w8.heap.size, 0, none⟩ = some (.int .i64 (ep + 1)) ∧ wx.cell? ⟨w8.heap.size, 1, none⟩ = some (.slice A8 N8 c8)) ∧ wx.cell? ⟨(a.add (i * 2)).block, (a.add (i * 2)).off + 1, none⟩ = some (.int .i64 pn)) ∧ Below w9.heap.size w9 wx)
          (first | exact HK9.out _ (Below.refl _ _).drew | exact HK9.out _ Hal9.out | exact HK9.out _ b11 | exact HK9.out _ (b11.alloc b11.size _) | exact HK9.out _ ((b11.setCell (Nat.le_refl _) _).setCell (Nat.le_refl _) _))
          (first | (go_at_call 24; refine HmvA.out.mono ?_; rintro e' w10 ⟨v10, rfl, o10, b10⟩; obtain ⟨A10, c10, rfl, -, -, x10⟩ := o10.slice; simp only at x10; rw [Hl.out] at x10 ⊢; have H10a : Hid (HasPts w10 w10.heap.size A10 n l ∧ Below w9.heap.size w9 w10) := Lib.hid ⟨x10, (below_box_drew w9).trans b10⟩; have b11 := H10.out.2.1; clear o10 b10 x10) | (go_at_call 24; refine HmvB.out.mono ?_; rintro e' w10 ⟨v10, rfl, o10, b10⟩; obtain ⟨A10, c10, rfl, -, -, x10⟩ := o10.slice; simp only at x10; rw [Hl.out] at x10 ⊢; have HBx10 : Hid (Box w10 w9.heap.size 24 #[.int .i64 0, .slice none 0 0]) := Lib.hid (HRb.out.below b10 HRb.out.lt); have H10 : Hid (HasPts w10 w10.heap.size A10 n l ∧ Below w9.heap.size w9 w10 ∧ OwnPts w10 (w9.heap.size + 1) (.slice A10 n c10) l) := Lib.hid ⟨x10, Hal9.out.trans (b10.mono Hal9.out.size), by have h9 := o10.base (B' := w9.heap.size + 1) (by simp); simp only [Hl.out] at h9; exact h9⟩; have f0 := HBx10.out.frozen 0; have f1 := HBx10.out.frozen 1; have u0 : w10.cell? ⟨w9.heap.size, 0, none⟩ = some (.int .i64 0) := HBx10.out.cell 0; have u1 : w10.cell? ⟨w9.heap.size, 1, none⟩ = some (.slice none 0 0) := HBx10.out.cell 1; have b11 := H10.out.2.1; clear o10 b10 x10) | (go_at_call 24; refine HmvA.out.mono ?_; rintro e' w10 ⟨v10, rfl, o10, b10⟩; obtain ⟨A10, c10, rfl, -, -, x10⟩ := o10.slice; simp only at x10; rw [Hl.out] at x10 ⊢; have H10a : Hid (HasPts w10 w10.heap.size A10 n l ∧ Below w9.heap.size w9 w10) := Lib.hid ⟨x10, (below_box_drew w9).trans b10⟩; have b11 := H10a.out.2; clear o10 b10 x10))
        · clear ‹_ ∧ Below w9.heap.size w9 (World.alloc _ _)›
          have Hb11 : Hid (Below (w.alloc (.cells #[.int .i64 ep, .slice (some a) n c] 24)).heap.size (w.alloc (.cells #[.int .i64 ep, .slice (some a) n c] 24)) (w10.alloc (.cells #[.int .i64 (ep + 1 + 1), .slice A10 n c10] 24))) := Lib.hid ((Hb9.out.trans (H10a.out.2.mono Hb9.out.size)).alloc (Nat.le_trans Hb9.out.size H10a.out.2.size) _)
          have Hb12 : Hid (Below (w.alloc (.cells #[.int .i64 ep, .slice (some a) n c] 24)).heap.size (w.alloc (.cells #[.int .i64 ep, .slice (some a) n c] 24)) (w10.alloc (.cells #[.int .i64 ep, .slice A10 n c10] 24))) := Lib.hid ((Hb9.out.trans (H10a.out.2.mono Hb9.out.size)).alloc (Nat.le_trans Hb9.out.size H10a.out.2.size) _)
          obtain ⟨q2, q3, -⟩ := HM.out _ Hb11.out
          obtain ⟨q4, q5, hbw⟩ := HM.out _ Hb12.out
          have HW12 := Lib.hid hbw
          have Hsm := Lib.hid (sameM_any ep A10 (some a) n c10 c w10.heap.size w.heap.size l (w10.alloc (.cells #[.int .i64 ep, .slice A10 n c10] 24)) (H10a.out.1.belowOf (below_box _) (Nat.le_refl _)) (HA.out _ Hb12.out).1 (by simp) (HA.out _ Hb12.out).2 Hn.out)
          clear hbw
          go_wp2_with fail
          refine Hsm.out.mono ?_
          rintro e' w13 ⟨rfl, b13⟩
          have HE := Lib.hid (HW12.out.trans (b13.mono HW12.out.size))
          clear b13
          go_wp2
          go_ret
          exact ⟨rfl, HE.out⟩
        · clear ‹_ ∧ Below w9.heap.size w9 (World.setCell _ _ _)›
          have hB1 := set2q (.int .i64 (ep + 1 + 1)) (.slice A10 n c10) HBx10.out
          have hno : (Value.slice A10 n c10).ownBlock ≠ some w9.heap.size := fun e => by have := (H10.out.2.2.lt _ e).1; omega
          have ho1 := (H10.out.2.2.far (i := 0) (u := .int .i64 (ep + 1 + 1)) hno).far (i := 1) (u := .slice A10 n c10) hno
          have hb11 : Below (w.alloc (.cells #[.int .i64 ep, .slice (some a) n c] 24)).heap.size (w.alloc (.cells #[.int .i64 ep, .slice (some a) n c] 24)) ((w10.setCell ⟨w9.heap.size, 0, none⟩ (.int .i64 (ep + 1 + 1))).setCell ⟨w9.heap.size, 1, none⟩ (.slice A10 n c10)) := ((Hb9.out.trans (H10.out.2.1.mono Hb9.out.size)).setCell Hb9.out.size _).setCell Hb9.out.size _
          obtain ⟨W3, hW3⟩ : ∃ W3, ((w10.setCell ⟨w9.heap.size, 0, none⟩ (.int .i64 (ep + 1 + 1))).setCell ⟨w9.heap.size, 1, none⟩ (.slice A10 n c10)) = W3 := ⟨_, rfl⟩
          rw [hW3] at hB1 hb11 ho1 ⊢
          obtain ⟨q2, q3, -⟩ := HM.out _ hb11
          have g0 := hB1.frozen 0
          have t0 : W3.cell? ⟨w9.heap.size, 0, none⟩ = some (.int .i64 (ep + 1 + 1)) := hB1.cell 0
          have hB2 : Box (W3.setCell ⟨w9.heap.size, 0, none⟩ (.int .i64 ep)) w9.heap.size 24 #[.int .i64 ep, .slice A10 n c10] := by simpa using hB1.set_ 0 (.int .i64 ep)
          have ho2 := ho1.far (i := 0) (u := .int .i64 ep) hno
          have hb12 : Below (w.alloc (.cells #[.int .i64 ep, .slice (some a) n c] 24)).heap.size (w.alloc (.cells #[.int .i64 ep, .slice (some a) n c] 24)) (W3.setCell ⟨w9.heap.size, 0, none⟩ (.int .i64 ep)) := hb11.setCell Hb9.out.size _
          have s0 : (W3.setCell ⟨w9.heap.size, 0, none⟩ (.int .i64 ep)).cell? ⟨w9.heap.size, 0, none⟩ = some (.int .i64 ep) := hB2.cell 0
          have s1 : (W3.setCell ⟨w9.heap.size, 0, none⟩ (.int .i64 ep)).cell? ⟨w9.heap.size, 1, none⟩ = some (.slice A10 n c10) := hB2.cell 1
          obtain ⟨q4, q5, hbw⟩ := HM.out _ hb12
          obtain ⟨A11, c11, e11, -, -, x11⟩ := ho2.slice
          rw [Hl.out] at e11 x11
          injection e11 with e11 _ e12
          subst e11
          subst e12
          have HW12 := Lib.hid hbw
          have Hsm := Lib.hid (sameM_any ep A10 (some a) n c10 c _ w.heap.size l (W3.setCell ⟨w9.heap.size, 0, none⟩ (.int .i64 ep)) x11 (HA.out _ hb12).1 (Nat.le_refl _) (HA.out _ hb12).2 Hn.out)
          clear hbw hB1 hB2 hno ho1 ho2 hb11 hb12 x11 hW3 u0 u1 f0 f1
          go_wp2_with fail
          refine Hsm.out.mono ?_
          rintro e' w13 ⟨rfl, b13⟩
          have HE := Lib.hid (HW12.out.trans (b13.mono HW12.out.size))
          clear b13
          go_wp2
          go_ret
          exact ⟨rfl, HE.out⟩
      · have hx1 : (xz == 0) = false := by simpa using hxz
        have hx2 : (xz != 0) = true := by simpa using hxz
        clear hxz
        go_wp2
        go_ret
        exact ⟨rfl, HW8.out⟩

namespace lawAtlasBack
open Go.ChangeShapes Go.WideShapes Go.ChangeAt

theorem own : ownKnob Try.prog.godebug = none := by kernel_rfl
theorem kids : Kids Try.prog (· < Try.prog.types.size) := kids_rows (by kernel_rfl) (by kernel_rfl)
theorem full : ∀ t e, t < Try.prog.types.size → Try.prog.underlying t = some (.slice e) → 0 < Try.prog.cellsOf e := slices_full_of Try.prog (by kernel_rfl)

set_option maxRecDepth 100000 in
theorem lifted (os : Os) (started : os.Started) (H : Type) (enc : TypeId × Value → H) :
    ReturnsInHanded {} Try.checked os 6 .any (Rows.atlasBackSpec.pre6 enc Try.prog Try.f6 Rows.atlasBackRow.domain false) (Rows.atlasBackSpec.post enc Try.prog Try.f6 false true false false) := by
  refine returnsInHanded_of_change (C := Try.checked) own started (by kernel_rfl) Try.func6
    (ChangeSpec.witness6 (enc := enc) (C := Try.checked) false ⟨#[], #[.agg #[.int .i64 0, .slice none 0 0], .string ⟨#[]⟩, .int .i64 0], []⟩ 8 (by kernel_rfl) (by kernel_rfl) (by kernel_rfl) (by kernel_rfl)) ?_
  intro W base args ds gs before hval0 hW _ _
  have hval : ∀ (j : Nat) t v, Try.f6.params[j]? = some t → args[j]? = some v → Value.okWide Try.prog W .any base t v := hval0
  have hW' := hW
  obtain ⟨p, q, hA0, hV, rfl, _, _⟩ := hW
  obtain ⟨rfl, rfl⟩ := trodVars_none hV
  have hA : DataW.TrodAll enc Try.prog W 0 (fun _ => true) true Try.f6.params.toList args.toList ds p := hA0
  rw [Try.params6] at hA hval
  obtain ⟨v0, vs0, d0, ds0, p0, q0, hargs, rfl, rfl, h0, r0⟩ := trodAll_cons hA
  obtain ⟨v1, vs1, d1, ds1, p1, q1, rfl, rfl, rfl, h1, r1⟩ := trodAll_cons r0
  obtain ⟨v2, vs2, d2, ds2, p2, q2, rfl, rfl, rfl, h2, r2⟩ := trodAll_cons r1
  obtain ⟨rfl, rfl, rfl⟩ := trodAll_nil r2
  obtain rfl : args = #[v0, v1, v2] := by cases args; simp_all
  have hlt := hW'.lt
  obtain ⟨e0, A0, n0, c0, l0, rfl, hnc0, hm0, hb0, hs0⟩ := open_map Try.underlying24 (by kernel_rfl) ⟨rfl, rfl⟩ ⟨by kernel_rfl, by kernel_rfl⟩ ⟨by kernel_rfl, by kernel_rfl⟩ Try.underlying46 (by kernel_rfl) ⟨rfl, rfl⟩ ⟨by kernel_rfl, by kernel_rfl⟩ ⟨by kernel_rfl, by kernel_rfl⟩ (hval 0 24 v0 rfl rfl) h0 (fun x hx => hlt x (by simp [hx]))
  obtain ⟨s1, rfl, _, _, ws1⟩ := Go.ChangeMaps.open_string Try.underlying9 (hval 1 9 v1 rfl rfl) h1
  obtain ⟨k2, rfl, _, _, _⟩ := open_int Try.underlying3 (hval 2 3 v2 rfl rfl) h2
  refine (back_walk e0 A0 n0 c0 l0 s1 k2 W hb0 hnc0 hm0 hs0 ws1).mono fun e W' ⟨he, hbel⟩ => ?_
  subst he
  exact ⟨_, rfl, law_post kids full (of_decide_eq_true (by kernel_rfl)) Try.underlying4 rfl rfl rfl hW' hbel⟩

theorem proved : Rows.AtlasBackSaid :=
  OpenClaim.holds_of_wide 6 Try.f6 rfl rfl rfl rfl rfl rfl rfl ⟨rfl, rfl, rfl, rfl, rfl⟩ rfl rfl rfl rfl rfl (by kernel_rfl) Try.func6 (by kernel_rfl)
    (of_decide_eq_true (by kernel_rfl)) (by unfold Func.isWrapper; first | (rw [if_pos (by decide +kernel)]; kernel_rfl) | (rw [if_neg (by decide +kernel)]; exact ⟨rfl, rfl⟩))
    (fun os started H enc _ => lifted os started H enc)
end lawAtlasBack

end Go.Proofs.Ytnfnjhnfpcbdfaa

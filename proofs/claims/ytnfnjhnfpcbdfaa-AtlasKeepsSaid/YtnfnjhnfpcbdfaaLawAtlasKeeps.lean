/- AtlasKeeps: what is handed in stays, its spare room too; what is answered is new memory. No condition. -/
import Derived.Test.YtnfnjhnfpcbdfaaAtR
import Derived.Test.YtnfnjhnfpcbdfaaActA
import Derived.Test.YtnfnjhnfpcbdfaaAtE
import Derived.Test.YtnfnjhnfpcbdfaaOpenMap
import Derived.Test.YtnfnjhnfpcbdfaaRow
import Derived.Deep.RegionHeld3
namespace Go.Proofs.Ytnfnjhnfpcbdfaa
open Go.RowKit
open Go.Lib (strCells compareBytes)

/-- the call's own copies of a map and of a plan -/
theorem mapact_box {w wx : World} {ep k node : Int} {A : Option Addr} {n c : Nat} {s : ByteArray} (h : Below ((w.alloc (.cells #[.int .i64 ep, .slice A n c] 24)).alloc (.cells #[.int .i64 k, .string s, .int .i64 node] 40)).heap.size ((w.alloc (.cells #[.int .i64 ep, .slice A n c] 24)).alloc (.cells #[.int .i64 k, .string s, .int .i64 node] 40)) wx) :
    (wx.cell? ⟨w.heap.size, 0, none⟩ = some (.int .i64 ep) ∧ wx.cell? ⟨w.heap.size, 1, none⟩ = some (.slice A n c)) ∧ (wx.cell? ⟨w.heap.size + 1, 0, none⟩ = some (.int .i64 k) ∧ wx.cell? ⟨w.heap.size + 1, 1, none⟩ = some (.string s) ∧ wx.cell? ⟨w.heap.size + 1, 2, none⟩ = some (.int .i64 node)) ∧ Below w.heap.size w wx ∧ w.heap.size + 2 ≤ wx.heap.size := by
  have h1 : Box ((w.alloc (.cells #[.int .i64 ep, .slice A n c] 24)).alloc (.cells #[.int .i64 k, .string s, .int .i64 node] 40)) w.heap.size 24 #[.int .i64 ep, .slice A n c] := (Box.made w _ _).alloc _
  have h2 : Box ((w.alloc (.cells #[.int .i64 ep, .slice A n c] 24)).alloc (.cells #[.int .i64 k, .string s, .int .i64 node] 40)) (w.heap.size + 1) 40 #[.int .i64 k, .string s, .int .i64 node] := by
    have := Box.made (w.alloc (.cells #[.int .i64 ep, .slice A n c] 24)) 40 #[.int .i64 k, .string s, .int .i64 node]
    rwa [World.size_alloc] at this
  have hs := h.size
  simp only [World.size_alloc] at hs
  have k1 := h1.below h (by simp; omega)
  have k2 := h2.below h (by simp)
  exact ⟨⟨k1.cell 0, k1.cell 1⟩, ⟨k2.cell 0, k2.cell 1, k2.cell 2⟩, ((below_box _).alloc (by simp) _).trans (h.mono (by simp; omega)), by omega⟩
theorem own_some {w : World} {B m size : Nat} {e : TypeId} {v : Value} {xs : List Value} (h : w.ownsRow B e size v m xs) (hm : 0 < m) : ∃ g c, v = .slice (some ⟨g, 0, none⟩) m c ∧ m ≤ c ∧ c ≤ maxLen := by
  obtain ⟨A, c, rfl, h1, h2, -⟩ := own_sliceN h
  obtain ⟨g, rfl, -⟩ := own_head h hm
  exact ⟨g, c, rfl, h1, h2⟩
theorem goT_len {ep : Int} {l : List Pt} {r : Option (List Pt)} (hr : RightP l → ∀ l', r = some l' → RightP l') : (goT ep l r).2.1.length ≤ 8 := by
  obtain ⟨⟨me, ml, mz⟩, hm⟩ : ∃ m, goT ep l r = m := ⟨_, rfl⟩
  rw [hm]
  show ml.length ≤ 8
  by_cases hz : mz = 0
  · subst hz
    exact (go_right hr hm).2.2.2.2.2.most
  · unfold goT at hm
    split at hm
    · injection hm with _ h9; injection h9 with h9 _; rw [← h9]; simp
    · cases r with
      | none => injection hm with _ h9; injection h9 with h9 _; rw [← h9]; simp
      | some l2 =>
        simp only at hm
        split at hm
        · injection hm with _ h9; injection h9 with h9 _; rw [← h9]; simp
        · injection hm with _ h9; injection h9 with _ h9; exact absurd h9.symm hz
theorem actT_len (k ep : Int) (l : List Pt) (s : ByteArray) (node : Int) : (actT k ep l s node).2.1.length ≤ 8 := by
  unfold actT
  split
  · exact goT_len fun hr l' e => split_right hr e
  · split
    · exact goT_len fun hr l' e => merge_right hr e
    · exact goT_len fun hr l' e => move_right hr e
theorem kind_in {k : Int} (h : k = 1 ∨ k = 2 ∨ k = 3) : 1 ≤ k ∧ k ≤ 3 := by omega
set_option maxRecDepth 100000 in
set_option maxHeartbeats 12800000 in
theorem keeps_walk (ep : Int) (A : Option Addr) (n c : Nat) (l : List Pt) (k : Int) (s : ByteArray) (node : Int) (w : World) (h : HasPts w w.heap.size A n l) (hnc : n ≤ c) (hcm : c ≤ maxLen) (hs : ∀ p ∈ l, p.lo.size ≤ maxLen) (hsz : s.size ≤ maxLen) :
    Calls Try.prog 8 #[.agg #[.int .i64 ep, .slice A n c], .agg #[.int .i64 k, .string s, .int .i64 node]] w fun e w' => e = .returned (.bool true) ∧ Below w.heap.size w w' := by
  have hn : n ≤ maxLen := Nat.le_trans hnc hcm
  have HM := Lib.hid (fun wx (hx : Below ((w.alloc (.cells #[.int .i64 ep, .slice A n c] 24)).alloc (.cells #[.int .i64 k, .string s, .int .i64 node] 40)).heap.size ((w.alloc (.cells #[.int .i64 ep, .slice A n c] 24)).alloc (.cells #[.int .i64 k, .string s, .int .i64 node] 40)) wx) => mapact_box hx)
  have HA : Hid (∀ wx, Below ((w.alloc (.cells #[.int .i64 ep, .slice A n c] 24)).alloc (.cells #[.int .i64 k, .string s, .int .i64 node] 40)).heap.size ((w.alloc (.cells #[.int .i64 ep, .slice A n c] 24)).alloc (.cells #[.int .i64 k, .string s, .int .i64 node] 40)) wx → HasPts wx w.heap.size A n l ∧ w.heap.size ≤ wx.heap.size) := Lib.hid fun wx hx => ⟨h.belowOf (mapact_box hx).2.2.1 (Nat.le_refl _), (mapact_box hx).2.2.1.size⟩
  have HLi := Lib.hid (fun wx (hx : Below ((w.alloc (.cells #[.int .i64 ep, .slice A n c] 24)).alloc (.cells #[.int .i64 k, .string s, .int .i64 node] 40)).heap.size ((w.alloc (.cells #[.int .i64 ep, .slice A n c] 24)).alloc (.cells #[.int .i64 k, .string s, .int .i64 node] 40)) wx) => light12_any ep A n c w.heap.size l wx (HA.out wx hx).1 (HA.out wx hx).2 hn hs)
  have Hl := Lib.hid h.1
  have Hs := Lib.hid hs
  have Hsz := Lib.hid hsz
  unfold maxLen at hsz
  clear h hs hnc hcm hn
  go_enter Try.func8, Try.ntmps8
  go_wp2_with fail
  refine (awake12_any _).mono ?_
  rintro e w1 ⟨rfl, hb1⟩
  have Hb1 := Lib.hid hb1
  obtain ⟨⟨q0, q1⟩, ⟨t0, t1, t2⟩, -⟩ := HM.out w1 hb1
  have HL1 := Lib.hid (HLi.out w1 hb1)
  clear hb1 HLi
  go_wp2_with fail
  refine HL1.out.mono ?_
  rintro e w2 ⟨b, rfl, hbl, hb2⟩
  have Hb2 : Hid (Below ((w.alloc (.cells #[.int .i64 ep, .slice A n c] 24)).alloc (.cells #[.int .i64 k, .string s, .int .i64 node] 40)).heap.size ((w.alloc (.cells #[.int .i64 ep, .slice A n c] 24)).alloc (.cells #[.int .i64 k, .string s, .int .i64 node] 40)) w2) := Lib.hid (Hb1.out.trans (hb2.mono Hb1.out.size))
  obtain ⟨⟨q0, q1⟩, ⟨t0, t1, t2⟩, hbw, hsz2⟩ := HM.out w2 Hb2.out
  have HW2 := Lib.hid hbw
  have Hbl := Lib.hid hbl
  clear hb2 HL1 hbw hbl
  cases b with
  | false =>
    go_wp2
    go_ret
    exact ⟨rfl, HW2.out⟩
  | true =>
    by_cases h3 : 300 < s.size
    · have h3' : (300 : Int) < (s.size : Int) := by omega
      go_wp2
      go_ret
      exact ⟨rfl, HW2.out⟩
    have h3' : ¬ (300 : Int) < (s.size : Int) := by omega
    have HL := Lib.hid (Hbl.out rfl)
    have hn50 : n < 50 := by have := HL.out.1; have := Hl.out; omega
    have HE2 : Hid (Below ((w.alloc (.cells #[.int .i64 ep, .slice A n c] 24)).alloc (.cells #[.int .i64 k, .string s, .int .i64 node] 40)).heap.size ((w.alloc (.cells #[.int .i64 ep, .slice A n c] 24)).alloc (.cells #[.int .i64 k, .string s, .int .i64 node] 40)) (w2.alloc (.cells #[] 46))) := Lib.hid (Hb2.out.alloc Hb2.out.size _)
    obtain ⟨⟨e0, e1⟩, -⟩ := HM.out _ HE2.out
    have HP2 : Hid (Has (w2.alloc (.cells #[] 46)) w.heap.size A (n * 2) (ptCells l)) := Lib.hid (HA.out _ HE2.out).1.2
    clear Hbl
    go_wp2_with (first
      | (at_builtin; refine wpList_append_hasN rfl (.tmp 20) (.tmp 22) _ rfl 46 pt_elem (by omega) Try.underlying22 rfl (own_emptyP w2 w2.heap.size (Nat.le_refl _)) rfl HP2.out (ptCells_one _) (by simp only [maxLen]; omega) (by omega) (by simp) ?_; intro v3 w3 o3 g3 z3; have H3 : Hid (w3.ownsRow w2.heap.size 46 2 v3 n (ptCells l) ∧ Below w2.heap.size w2 w3) := Lib.hid ⟨by simpa using o3, below_ownN (below_box _) (own_emptyP w2 w2.heap.size (Nat.le_refl _)) g3 (by simp)⟩; clear o3 g3 z3; obtain ⟨A3, c3, rfl, -, -, -⟩ := own_sliceN H3.out.1)
      | (at_builtin; refine wpList_append_hasN rfl (.tmp 23) (.tmp 25) _ rfl 46 pt_elem (by omega) Try.underlying22 rfl (own_belowN H3.out.1 (below_box _)) rfl (Has.lit w3 #[.string ⟨#[33]⟩, .int .i64 0] 46) (ptCells_one [⟨⟨#[33]⟩, 0⟩]) (by simp only [maxLen]; omega) (by omega) (by have := H3.out.2.size; simp only [World.size_alloc]; omega) ?_; intro v4 w4 o4 g4 z4; have H4 : Hid (w4.ownsRow w2.heap.size 46 2 v4 (n + 1) (ptCells (l ++ [⟨⟨#[33]⟩, 0⟩])) ∧ Below w2.heap.size w2 w4) := Lib.hid ⟨by rw [ptCells_app]; exact o4, (H3.out.2.alloc H3.out.2.size _).grown g4 (by have := H3.out.2.size; simp only [World.size_alloc]; omega) fun g hg => (H3.out.1.lt g hg).1⟩; clear o4 g4 z4; obtain ⟨g4, c4, hv4, hc4, hcm4⟩ := own_some H4.out.1 (by omega); subst hv4; have Hb4 : Hid (Below ((w.alloc (.cells #[.int .i64 ep, .slice A n c] 24)).alloc (.cells #[.int .i64 k, .string s, .int .i64 node] 40)).heap.size ((w.alloc (.cells #[.int .i64 ep, .slice A n c] 24)).alloc (.cells #[.int .i64 k, .string s, .int .i64 node] 40)) w4) := Lib.hid (Hb2.out.trans (H4.out.2.mono Hb2.out.size)); obtain ⟨⟨r0, r1⟩, ⟨u0, u1, u2⟩, -⟩ := HM.out w4 Hb4.out))
    have HO4 : Hid (OwnPts w4 w2.heap.size (.slice (some ⟨g4, 0, none⟩) n c4) l) := Lib.hid (by
      have h1 := own_shorter H4.out.1 (n' := n) (by omega)
      rw [ptCells_take, List.take_left' Hl.out] at h1
      unfold OwnPts
      rw [Hl.out]
      exact h1)
    have HE4 : Hid (w4.cell? ⟨g4, n * 2, none⟩ = some (.string ⟨#[33]⟩)) := Lib.hid ((H4.out.1.cellAt (n * 2) (by omega)).trans (ptCells_at (l ++ [⟨⟨#[33]⟩, 0⟩]) n ⟨⟨#[33]⟩, 0⟩ (by rw [List.getElem?_append_right (by rw [Hl.out]; omega), Hl.out, Nat.sub_self]; rfl)).1)
    have hg4 : g4 < w4.heap.size := (H4.out.1.lt g4 rfl).2
    have HX4 : Hid (HasPts w4 w4.heap.size (some ⟨g4, 0, none⟩) n l) := Lib.hid (by
      obtain ⟨A9, c9, e9, -, -, x9⟩ := HO4.out.slice
      injection e9 with e9 _ _
      subst e9
      rw [Hl.out] at x9
      exact x9)
    have HAc := Lib.hid (fun wx (hx : Below w4.heap.size w4 wx) => act_any k ep (some ⟨g4, 0, none⟩) n c4 w4.heap.size l s node wx (HX4.out.belowOf hx (Nat.le_refl _)) hx.size (by unfold maxLen; omega) Hs.out Hsz.out)
    have HK4 : Hid (∀ wx, Below w4.heap.size w4 wx → ((wx.cell? ⟨w.heap.size, 0, none⟩ = some (.int .i64 ep) ∧ wx.cell? ⟨w.heap.size, 1, none⟩ = some (.slice A n c)) ∧ (wx.cell? ⟨w.heap.size + 1, 0, none⟩ = some (.int .i64 k) ∧ wx.cell? ⟨w.heap.size + 1, 1, none⟩ = some (.string s) ∧ wx.cell? ⟨w.heap.size + 1, 2, none⟩ = some (.int .i64 node)) ∧ wx.cell? ⟨g4, n * 2, none⟩ = some (.string ⟨#[33]⟩)) ∧ Below w4.heap.size w4 wx) := Lib.hid fun wx hx => by
      have hm := HM.out wx (Hb4.out.trans (hx.mono Hb4.out.size))
      exact ⟨⟨hm.1, hm.2.1, (hx.cell (p := ⟨g4, n * 2, none⟩) hg4).trans HE4.out⟩, hx⟩
    have HSM := Lib.hid (fun wx (hx : Below w4.heap.size w4 wx) => sameM_any ep (some ⟨g4, 0, none⟩) A n c4 c w4.heap.size w.heap.size l wx (HX4.out.belowOf hx (Nat.le_refl _)) (HA.out wx (Hb4.out.trans (hx.mono Hb4.out.size))).1 hx.size (HA.out wx (Hb4.out.trans (hx.mono Hb4.out.size))).2 (by unfold maxLen; omega))
    have HalB := Lib.hid (below_box (w := w4) (Obj.cells #[.int .i64 0, .slice none 0 0] 24)).drew
    have HRb : Hid (Box (w4.alloc (.cells #[.int .i64 0, .slice none 0 0] 24)).drew w4.heap.size 24 #[.int .i64 0, .slice none 0 0]) := Lib.hid ((Box.made w4 _ _).below (below_box_drew _) (by simp))
    have hnc4 : n ≤ c4 := by omega
    have hin0 : (0 : Int) ≤ (n : Int) := by omega
    have hin1 : (n : Int) ≤ (c4 : Int) := by omega
    have hin2 : (n : Int) < ((n + 1 : Nat) : Int) := by omega
    have hin3 : (n : Int) < (n : Int) + 1 := by omega
    by_cases hk : k = 1 ∨ k = 2 ∨ k = 3
    · have hk1 : (1 : Int) ≤ k := (kind_in hk).1
      have hk3 : k ≤ 3 := (kind_in hk).2
      obtain ⟨⟨me, ml, mz⟩, hm⟩ : ∃ m, actT k ep l s node = m := ⟨_, rfl⟩
      have HC : Hid (∀ wx, Below w4.heap.size w4 wx → Calls Try.prog 20 #[.agg #[.int .i64 ep, .slice (some ⟨g4, 0, none⟩) n c4], .agg #[.int .i64 k, .string s, .int .i64 node]] wx (MapPost (me, ml, mz) wx)) := Lib.hid fun wx hx => (HAc.out wx hx).mono fun e w' h9 => by
        rcases h9 with ⟨-, h9⟩ | ⟨h9, -⟩
        · rw [← hm]; exact h9
        · exact absurd hk h9
      have hN8 : ml.length ≤ 8 := by have h9 := actT_len k ep l s node; rw [hm] at h9; exact h9
      obtain ⟨N, hN⟩ : ∃ N, ml.length = N := ⟨_, rfl⟩
      have HN := Lib.hid hN
      have HcA := Lib.hid (HC.out _ (below_box_drew w4))
      have HcB := Lib.hid (HC.out _ HalB.out)
      rw [hN] at hN8
      clear hk hm HAc HC hN
      go_region_held3 (fun wx => ((wx.cell? ⟨w.heap.size, 0, none⟩ = some (.int .i64 ep) ∧ wx.cell? ⟨w.heap.size, 1, none⟩ = some (.slice A n c)) ∧ (wx.cell? ⟨w.heap.size + 1, 0, none⟩ = some (.int .i64 k) ∧ wx.cell? ⟨w.heap.size + 1, 1, none⟩ = some (.string s) ∧ wx.cell? ⟨w.heap.size + 1, 2, none⟩ = some (.int .i64 node)) ∧ wx.cell? ⟨g4, n * 2, none⟩ = some (.string ⟨#[33]⟩)) ∧ Below w4.heap.size w4 wx)
        (first | exact HK4.out _ (Below.refl _ _).drew | exact HK4.out _ HalB.out | exact HK4.out _ b11 | exact HK4.out _ (b11.alloc b11.size _) | exact HK4.out _ ((b11.setCell (Nat.le_refl _) _).setCell (Nat.le_refl _) _))
        (first
          | (go_at_call 20; refine HcB.out.mono ?_; rintro e' w10 ⟨v10, rfl, o10, b10⟩; obtain ⟨A10, c10, rfl, -, -, -⟩ := o10.slice; have hb10 := HRb.out.below b10 HRb.out.lt; have hno10 : (Value.slice A10 ml.length c10).ownBlock ≠ some w4.heap.size := (fun e => by have h1 := (o10.lt _ e).1; have h2 : (w4.alloc (.cells #[.int .i64 0, .slice none 0 0] 24)).heap.size ≤ w4.heap.size := h1; simp only [World.size_alloc] at h2; omega); have b11 : Below w4.heap.size w4 w10 := HalB.out.trans (b10.mono HalB.out.size); have HB10 := Lib.hid (And.intro hb10 (And.intro hno10 (o10.base (B' := w4.heap.size) HalB.out.size))); rw [HN.out] at HB10 ⊢; have f0 := hb10.frozen 0; have f1 := hb10.frozen 1; have u0 : w10.cell? ⟨w4.heap.size, 0, none⟩ = some (.int .i64 0) := hb10.cell 0; have u1 : w10.cell? ⟨w4.heap.size, 1, none⟩ = some (.slice none 0 0) := hb10.cell 1; clear o10 b10 hb10 hno10)
          | (go_at_call 20; refine HcA.out.mono ?_; rintro e' w10 ⟨v10, rfl, o10, b10⟩; obtain ⟨A10, c10, rfl, -, -, -⟩ := o10.slice; have b11 : Below w4.heap.size w4 w10 := (below_box_drew w4).trans b10; have HA10 := Lib.hid o10; rw [HN.out] at HA10 ⊢; clear o10 b10))
      · have hgx : Hid (Box (w10.alloc (.cells #[.int .i64 me, .slice A10 N c10] 24)) w10.heap.size 24 #[.int .i64 me, .slice A10 N c10] ∧ OwnPts (w10.alloc (.cells #[.int .i64 me, .slice A10 N c10] 24)) w4.heap.size (.slice A10 N c10) ml ∧ (Value.slice A10 N c10).ownBlock ≠ some w10.heap.size ∧ Below w4.heap.size w4 (w10.alloc (.cells #[.int .i64 me, .slice A10 N c10] 24)) ∧ w4.heap.size ≤ w10.heap.size) := Lib.hid ⟨Box.made _ _ _, HA10.out.below (below_box _), fun e => by have := (HA10.out.lt _ e).2; omega, b11.alloc b11.size _, b11.size⟩
        clear ‹_ ∧ Below w4.heap.size w4 (World.alloc _ _)› HA10 b11
        generalize hW5 : (w10.alloc (.cells #[.int .i64 me, .slice A10 N c10] 24)) = W5 at *
        generalize hG5 : w10.heap.size = gx at *
        clear hW5 hG5
        have y0 : W5.cell? ⟨gx, 0, none⟩ = some (.int .i64 me) := hgx.out.1.cell 0
        have y1 : W5.cell? ⟨gx, 1, none⟩ = some (.slice A10 N c10) := hgx.out.1.cell 1
        have hk5 := HK4.out W5 hgx.out.2.2.2.1
        obtain ⟨⟨⟨q0, q1⟩, ⟨t0, t1, t2⟩, z0⟩, -⟩ := hk5
        go_wp2
        go_loopw [8] (fun iv wr => ∃ (j : Nat) (L : List Pt), j ≤ N ∧ iv = .int .i64 (j : Int) ∧ L.length = N ∧ OwnPts wr w4.heap.size (.slice A10 N c10) L ∧ Box wr gx 24 #[.int .i64 me, .slice A10 N c10] ∧ Below w4.heap.size w4 wr) (fun iv _ => N - (intOf iv).toNat)
        case atStart => exact ⟨0, ml, by omega, rfl, HN.out, hgx.out.2.1, hgx.out.1, hgx.out.2.2.2.1⟩
        case round =>
          obtain ⟨j, L, hj, rfl, hL, hO, hBx, hb⟩ := hrel
          have HO := Lib.hid hO
          have HBx := Lib.hid hBx
          have Hb := Lib.hid hb
          have HL2 := Lib.hid hL
          have y1 : wr.cell? ⟨gx, 1, none⟩ = some (.slice A10 N c10) := hBx.cell 1
          by_cases hlt : j < N
          · obtain ⟨p, hp⟩ : ∃ p, L[j]? = some p := ⟨_, List.getElem?_eq_getElem (by omega)⟩
            have hO' : wr.ownsRow w4.heap.size 46 2 (.slice A10 N c10) N (ptCells L) := by have h9 := hO; unfold OwnPts at h9; rw [hL] at h9; exact h9
            obtain ⟨g, rfl, hg1⟩ := own_head hO' (by omega)
            have d1 : wr.cell? ⟨g, j * 2 + 1, none⟩ = some (.int .i64 p.n) := (hO'.cellAt (j * 2 + 1) (by omega)).trans (ptCells_at L j p hp).2
            have x1 : wr.frozen? ⟨g, j * 2 + 1, none⟩ = false := hO'.frozenAt _
            have hst := hO'.stored (j * 2 + 1) (.int .i64 9)
            rw [← ptCells_setN L j p 9 hp] at hst
            have hgn : g ≠ gx := fun e => hgx.out.2.2.1 (by rw [← e]; rfl)
            have HE : Hid (OwnPts (wr.setCell ⟨g, j * 2 + 1, none⟩ (.int .i64 9)) w4.heap.size (.slice (some ⟨g, 0, none⟩) N c10) (L.set j ⟨p.lo, 9⟩) ∧ Box (wr.setCell ⟨g, j * 2 + 1, none⟩ (.int .i64 9)) gx 24 #[.int .i64 me, .slice (some ⟨g, 0, none⟩) N c10] ∧ Below w4.heap.size w4 (wr.setCell ⟨g, j * 2 + 1, none⟩ (.int .i64 9))) := Lib.hid ⟨by unfold OwnPts; rw [List.length_set, hL]; exact hst.1, hBx.far (show gx ≠ g from fun e => hgn e.symm) _, hb.setCell hg1 _⟩
            have hj0 : (0 : Int) ≤ (j : Int) := by omega
            have hj1 : (j : Int) < (N : Int) := by omega
            clear hO hO' hBx hb hst hp
            go_wp2
            go_roundw
            case rel => exact ⟨j + 1, _, by omega, by go_num, by rw [List.length_set]; exact HL2.out, HE.out.1, HE.out.2.1, HE.out.2.2⟩
            case measure => simp [intOf]; omega
          · obtain rfl : N = j := by omega
            have HO' : Hid ((wr.alloc (.cells #[.string ⟨#[63]⟩, .int .i64 0] 46)).ownsRow w4.heap.size 46 2 (.slice A10 N c10) N (ptCells L)) := Lib.hid (by have h9 := hO.below (below_box (w := wr) (Obj.cells #[.string ⟨#[63]⟩, .int .i64 0] 46)); unfold OwnPts at h9; rw [hL] at h9; exact h9)
            have HBq := Lib.hid (hBx.alloc (.cells #[.string ⟨#[63]⟩, .int .i64 0] 46))
            have Hbq : Hid (Below w4.heap.size w4 (wr.alloc (.cells #[.string ⟨#[63]⟩, .int .i64 0] 46))) := Lib.hid (hb.alloc hb.size _)
            have y1q : (wr.alloc (.cells #[.string ⟨#[63]⟩, .int .i64 0] 46)).cell? ⟨gx, 1, none⟩ = some (.slice A10 N c10) := HBq.out.cell 1
            have hbs := Hbq.out.size
            clear hO hBx hb
            go_wp2_with (at_builtin; refine wpList_append_hasN rfl (.tmp 61) (.tmp 63) _ rfl 46 pt_elem (by omega) Try.underlying22 rfl HO'.out rfl (Has.lit wr #[.string ⟨#[63]⟩, .int .i64 0] 46) (ptCells_one [⟨⟨#[63]⟩, 0⟩]) (by simp only [maxLen]; omega) (by omega) hbs ?_; intro v7 w7 o7 g7 z7; obtain ⟨A7, c7, rfl, -, -, -⟩ := own_sliceN o7; have hB7 : Box w7 gx 24 #[.int .i64 me, .slice A10 N c10] := HBq.out.grown g7 (fun e => hgx.out.2.2.1 e.symm); have Hb7 : Hid (Below w4.heap.size w4 (w7.setCell ⟨gx, 1, none⟩ (.slice A7 (N + 1) c7))) := Lib.hid ((Hbq.out.grown g7 hbs fun g hg => (HO'.out.lt g hg).1).setCell hgx.out.2.2.2.2 _); have y7 : w7.cell? ⟨gx, 1, none⟩ = some (.slice A10 N c10) := hB7.cell 1; have x7 : w7.frozen? ⟨gx, 1, none⟩ = false := hB7.frozen 1; clear o7 g7 z7 hB7)
            generalize hW8 : (w7.setCell ⟨gx, 1, none⟩ (.slice A7 (N + 1) c7)) = W8 at *
            clear hW8 y7 x7
            have HK8 : Hid (∀ wx, Below W8.heap.size W8 wx → ((wx.cell? ⟨w.heap.size, 0, none⟩ = some (.int .i64 ep) ∧ wx.cell? ⟨w.heap.size, 1, none⟩ = some (.slice A n c)) ∧ wx.cell? ⟨g4, n * 2, none⟩ = some (.string ⟨#[33]⟩)) ∧ Below W8.heap.size W8 wx) := Lib.hid fun wx hx => by
              have h9 := HK4.out wx (Hb7.out.trans (hx.mono Hb7.out.size))
              exact ⟨⟨h9.1.1, h9.1.2.2⟩, hx⟩
            have HS8 := Lib.hid (fun wx (hx : Below W8.heap.size W8 wx) => HSM.out wx (Hb7.out.trans (hx.mono Hb7.out.size)))
            go_region_held3 (fun wx => ((wx.cell? ⟨w.heap.size, 0, none⟩ = some (.int .i64 ep) ∧ wx.cell? ⟨w.heap.size, 1, none⟩ = some (.slice A n c)) ∧ wx.cell? ⟨g4, n * 2, none⟩ = some (.string ⟨#[33]⟩)) ∧ Below W8.heap.size W8 wx)
              (first | exact HK8.out _ (Below.refl _ _).drew | exact HK8.out _ b13)
              (first | (go_at_call 19; refine (HS8.out _ (Below.refl _ _).drew).mono ?_; rintro e' w13 ⟨rfl, b12⟩; have b13 : Below W8.heap.size W8 w13 := (below_box_drew W8).trans b12))
            all_goals
              have HE := Lib.hid (HM.out _ (Hb4.out.trans ((Hb7.out.trans (b13.mono Hb7.out.size)).mono Hb4.out.size))).2.2.1
              go_wp2
              go_ret
              exact ⟨rfl, HE.out⟩
      · have h9 := set2q (.int .i64 me) (.slice A10 N c10) HB10.out.1
        have hgx : Hid (Box ((w10.setCell ⟨w4.heap.size, 0, none⟩ (.int .i64 me)).setCell ⟨w4.heap.size, 1, none⟩ (.slice A10 N c10)) w4.heap.size 24 #[.int .i64 me, .slice A10 N c10] ∧ OwnPts ((w10.setCell ⟨w4.heap.size, 0, none⟩ (.int .i64 me)).setCell ⟨w4.heap.size, 1, none⟩ (.slice A10 N c10)) w4.heap.size (.slice A10 N c10) ml ∧ (Value.slice A10 N c10).ownBlock ≠ some w4.heap.size ∧ Below w4.heap.size w4 ((w10.setCell ⟨w4.heap.size, 0, none⟩ (.int .i64 me)).setCell ⟨w4.heap.size, 1, none⟩ (.slice A10 N c10)) ∧ w4.heap.size ≤ w4.heap.size) :=
          Lib.hid ⟨h9, (HB10.out.2.2.far HB10.out.2.1).far HB10.out.2.1, HB10.out.2.1, (b11.setCell (Nat.le_refl _) _).setCell (Nat.le_refl _) _, Nat.le_refl _⟩
        clear ‹_ ∧ Below w4.heap.size w4 (World.setCell _ _ _)› h9 HB10 b11 f0 f1 u0 u1
        generalize hW5 : ((w10.setCell ⟨w4.heap.size, 0, none⟩ (.int .i64 me)).setCell ⟨w4.heap.size, 1, none⟩ (.slice A10 N c10)) = W5 at *
        clear hW5
        have y0 : W5.cell? ⟨w4.heap.size, 0, none⟩ = some (.int .i64 me) := hgx.out.1.cell 0
        have y1 : W5.cell? ⟨w4.heap.size, 1, none⟩ = some (.slice A10 N c10) := hgx.out.1.cell 1
        have hk5 := HK4.out W5 hgx.out.2.2.2.1
        obtain ⟨⟨⟨q0, q1⟩, ⟨t0, t1, t2⟩, z0⟩, -⟩ := hk5
        go_wp2
        go_loopw [8] (fun iv wr => ∃ (j : Nat) (L : List Pt), j ≤ N ∧ iv = .int .i64 (j : Int) ∧ L.length = N ∧ OwnPts wr w4.heap.size (.slice A10 N c10) L ∧ Box wr w4.heap.size 24 #[.int .i64 me, .slice A10 N c10] ∧ Below w4.heap.size w4 wr) (fun iv _ => N - (intOf iv).toNat)
        case atStart => exact ⟨0, ml, by omega, rfl, HN.out, hgx.out.2.1, hgx.out.1, hgx.out.2.2.2.1⟩
        case round =>
          obtain ⟨j, L, hj, rfl, hL, hO, hBx, hb⟩ := hrel
          have HO := Lib.hid hO
          have HBx := Lib.hid hBx
          have Hb := Lib.hid hb
          have HL2 := Lib.hid hL
          have y1 : wr.cell? ⟨w4.heap.size, 1, none⟩ = some (.slice A10 N c10) := hBx.cell 1
          by_cases hlt : j < N
          · obtain ⟨p, hp⟩ : ∃ p, L[j]? = some p := ⟨_, List.getElem?_eq_getElem (by omega)⟩
            have hO' : wr.ownsRow w4.heap.size 46 2 (.slice A10 N c10) N (ptCells L) := by have h9 := hO; unfold OwnPts at h9; rw [hL] at h9; exact h9
            obtain ⟨g, rfl, hg1⟩ := own_head hO' (by omega)
            have d1 : wr.cell? ⟨g, j * 2 + 1, none⟩ = some (.int .i64 p.n) := (hO'.cellAt (j * 2 + 1) (by omega)).trans (ptCells_at L j p hp).2
            have x1 : wr.frozen? ⟨g, j * 2 + 1, none⟩ = false := hO'.frozenAt _
            have hst := hO'.stored (j * 2 + 1) (.int .i64 9)
            rw [← ptCells_setN L j p 9 hp] at hst
            have hgn : g ≠ w4.heap.size := fun e => hgx.out.2.2.1 (by rw [← e]; rfl)
            have HE : Hid (OwnPts (wr.setCell ⟨g, j * 2 + 1, none⟩ (.int .i64 9)) w4.heap.size (.slice (some ⟨g, 0, none⟩) N c10) (L.set j ⟨p.lo, 9⟩) ∧ Box (wr.setCell ⟨g, j * 2 + 1, none⟩ (.int .i64 9)) w4.heap.size 24 #[.int .i64 me, .slice (some ⟨g, 0, none⟩) N c10] ∧ Below w4.heap.size w4 (wr.setCell ⟨g, j * 2 + 1, none⟩ (.int .i64 9))) := Lib.hid ⟨by unfold OwnPts; rw [List.length_set, hL]; exact hst.1, hBx.far (show w4.heap.size ≠ g from fun e => hgn e.symm) _, hb.setCell hg1 _⟩
            have hj0 : (0 : Int) ≤ (j : Int) := by omega
            have hj1 : (j : Int) < (N : Int) := by omega
            clear hO hO' hBx hb hst hp
            go_wp2
            go_roundw
            case rel => exact ⟨j + 1, _, by omega, by go_num, by rw [List.length_set]; exact HL2.out, HE.out.1, HE.out.2.1, HE.out.2.2⟩
            case measure => simp [intOf]; omega
          · obtain rfl : N = j := by omega
            have HO' : Hid ((wr.alloc (.cells #[.string ⟨#[63]⟩, .int .i64 0] 46)).ownsRow w4.heap.size 46 2 (.slice A10 N c10) N (ptCells L)) := Lib.hid (by have h9 := hO.below (below_box (w := wr) (Obj.cells #[.string ⟨#[63]⟩, .int .i64 0] 46)); unfold OwnPts at h9; rw [hL] at h9; exact h9)
            have HBq := Lib.hid (hBx.alloc (.cells #[.string ⟨#[63]⟩, .int .i64 0] 46))
            have Hbq : Hid (Below w4.heap.size w4 (wr.alloc (.cells #[.string ⟨#[63]⟩, .int .i64 0] 46))) := Lib.hid (hb.alloc hb.size _)
            have y1q : (wr.alloc (.cells #[.string ⟨#[63]⟩, .int .i64 0] 46)).cell? ⟨w4.heap.size, 1, none⟩ = some (.slice A10 N c10) := HBq.out.cell 1
            have hbs := Hbq.out.size
            clear hO hBx hb
            go_wp2_with (at_builtin; refine wpList_append_hasN rfl (.tmp 61) (.tmp 63) _ rfl 46 pt_elem (by omega) Try.underlying22 rfl HO'.out rfl (Has.lit wr #[.string ⟨#[63]⟩, .int .i64 0] 46) (ptCells_one [⟨⟨#[63]⟩, 0⟩]) (by simp only [maxLen]; omega) (by omega) hbs ?_; intro v7 w7 o7 g7 z7; obtain ⟨A7, c7, rfl, -, -, -⟩ := own_sliceN o7; have hB7 : Box w7 w4.heap.size 24 #[.int .i64 me, .slice A10 N c10] := HBq.out.grown g7 (fun e => hgx.out.2.2.1 e.symm); have Hb7 : Hid (Below w4.heap.size w4 (w7.setCell ⟨w4.heap.size, 1, none⟩ (.slice A7 (N + 1) c7))) := Lib.hid ((Hbq.out.grown g7 hbs fun g hg => (HO'.out.lt g hg).1).setCell hgx.out.2.2.2.2 _); have y7 : w7.cell? ⟨w4.heap.size, 1, none⟩ = some (.slice A10 N c10) := hB7.cell 1; have x7 : w7.frozen? ⟨w4.heap.size, 1, none⟩ = false := hB7.frozen 1; clear o7 g7 z7 hB7)
            generalize hW8 : (w7.setCell ⟨w4.heap.size, 1, none⟩ (.slice A7 (N + 1) c7)) = W8 at *
            clear hW8 y7 x7
            have HK8 : Hid (∀ wx, Below W8.heap.size W8 wx → ((wx.cell? ⟨w.heap.size, 0, none⟩ = some (.int .i64 ep) ∧ wx.cell? ⟨w.heap.size, 1, none⟩ = some (.slice A n c)) ∧ wx.cell? ⟨g4, n * 2, none⟩ = some (.string ⟨#[33]⟩)) ∧ Below W8.heap.size W8 wx) := Lib.hid fun wx hx => by
              have h9 := HK4.out wx (Hb7.out.trans (hx.mono Hb7.out.size))
              exact ⟨⟨h9.1.1, h9.1.2.2⟩, hx⟩
            have HS8 := Lib.hid (fun wx (hx : Below W8.heap.size W8 wx) => HSM.out wx (Hb7.out.trans (hx.mono Hb7.out.size)))
            go_region_held3 (fun wx => ((wx.cell? ⟨w.heap.size, 0, none⟩ = some (.int .i64 ep) ∧ wx.cell? ⟨w.heap.size, 1, none⟩ = some (.slice A n c)) ∧ wx.cell? ⟨g4, n * 2, none⟩ = some (.string ⟨#[33]⟩)) ∧ Below W8.heap.size W8 wx)
              (first | exact HK8.out _ (Below.refl _ _).drew | exact HK8.out _ b13)
              (first | (go_at_call 19; refine (HS8.out _ (Below.refl _ _).drew).mono ?_; rintro e' w13 ⟨rfl, b12⟩; have b13 : Below W8.heap.size W8 w13 := (below_box_drew W8).trans b12))
            all_goals
              have HE := Lib.hid (HM.out _ (Hb4.out.trans ((Hb7.out.trans (b13.mono Hb7.out.size)).mono Hb4.out.size))).2.2.1
              go_wp2
              go_ret
              exact ⟨rfl, HE.out⟩
    · have hgc : (decide ((1:Int) ≤ k) = false) ∨ (decide ((1:Int) ≤ k) = true ∧ decide (k ≤ (3:Int)) = false) := by
        by_cases h1 : (1:Int) ≤ k
        · exact Or.inr ⟨decide_eq_true h1, decide_eq_false (by omega)⟩
        · exact Or.inl (decide_eq_false h1)
      have HC : Hid (∀ wx, Below w4.heap.size w4 wx → Calls Try.prog 20 #[.agg #[.int .i64 ep, .slice (some ⟨g4, 0, none⟩) n c4], .agg #[.int .i64 k, .string s, .int .i64 node]] wx (fun e w' => e = .returned (.tuple #[.agg #[.int .i64 ep, .slice (some ⟨g4, 0, none⟩) n c4], .int .i64 0]) ∧ Below wx.heap.size wx w')) := Lib.hid fun wx hx => (HAc.out wx hx).mono fun e w' h9 => by
        rcases h9 with ⟨h9, -⟩ | ⟨-, h9⟩
        · exact absurd h9 hk
        · exact h9
      have HcA := Lib.hid (HC.out _ (below_box_drew w4))
      have HcB := Lib.hid (HC.out _ HalB.out)
      clear hk HAc HC
      go_region_held3 (fun wx => ((wx.cell? ⟨w.heap.size, 0, none⟩ = some (.int .i64 ep) ∧ wx.cell? ⟨w.heap.size, 1, none⟩ = some (.slice A n c)) ∧ (wx.cell? ⟨w.heap.size + 1, 0, none⟩ = some (.int .i64 k) ∧ wx.cell? ⟨w.heap.size + 1, 1, none⟩ = some (.string s) ∧ wx.cell? ⟨w.heap.size + 1, 2, none⟩ = some (.int .i64 node)) ∧ wx.cell? ⟨g4, n * 2, none⟩ = some (.string ⟨#[33]⟩)) ∧ Below w4.heap.size w4 wx)
        (first | exact HK4.out _ (Below.refl _ _).drew | exact HK4.out _ HalB.out | exact HK4.out _ b11 | exact HK4.out _ (b11.alloc b11.size _) | exact HK4.out _ ((b11.setCell (Nat.le_refl _) _).setCell (Nat.le_refl _) _))
        (first
          | (go_at_call 20; refine HcB.out.mono ?_; rintro e' w10 ⟨rfl, b10⟩; have hb10 := HRb.out.below b10 HRb.out.lt; have b11 : Below w4.heap.size w4 w10 := HalB.out.trans (b10.mono HalB.out.size); have f0 := hb10.frozen 0; have f1 := hb10.frozen 1; have u0 : w10.cell? ⟨w4.heap.size, 0, none⟩ = some (.int .i64 0) := hb10.cell 0; have u1 : w10.cell? ⟨w4.heap.size, 1, none⟩ = some (.slice none 0 0) := hb10.cell 1; clear b10 hb10)
          | (go_at_call 20; refine HcA.out.mono ?_; rintro e' w10 ⟨rfl, b10⟩; have b11 : Below w4.heap.size w4 w10 := (below_box_drew w4).trans b10; clear b10))
      · have Hb7 : Hid (Below w4.heap.size w4 (w10.alloc (.cells #[.int .i64 ep, .slice (some ⟨g4, 0, none⟩) n c4] 24))) := Lib.hid (b11.alloc b11.size _)
        clear ‹_ ∧ Below w4.heap.size w4 (World.alloc _ _)› b11
        generalize hW8 : (w10.alloc (.cells #[.int .i64 ep, .slice (some ⟨g4, 0, none⟩) n c4] 24)) = W8 at *
        clear hW8
        obtain ⟨⟨⟨q0, q1⟩, ⟨t0, t1, t2⟩, z0⟩, -⟩ := HK4.out W8 Hb7.out
        rcases hgc with hg1 | ⟨hg1, hg2⟩
        all_goals
          go_wp2
          have HK8 : Hid (∀ wx, Below W8.heap.size W8 wx → ((wx.cell? ⟨w.heap.size, 0, none⟩ = some (.int .i64 ep) ∧ wx.cell? ⟨w.heap.size, 1, none⟩ = some (.slice A n c)) ∧ wx.cell? ⟨g4, n * 2, none⟩ = some (.string ⟨#[33]⟩)) ∧ Below W8.heap.size W8 wx) := Lib.hid fun wx hx => by
            have h9 := HK4.out wx (Hb7.out.trans (hx.mono Hb7.out.size))
            exact ⟨⟨h9.1.1, h9.1.2.2⟩, hx⟩
          have HS8 := Lib.hid (fun wx (hx : Below W8.heap.size W8 wx) => HSM.out wx (Hb7.out.trans (hx.mono Hb7.out.size)))
          go_region_held3 (fun wx => ((wx.cell? ⟨w.heap.size, 0, none⟩ = some (.int .i64 ep) ∧ wx.cell? ⟨w.heap.size, 1, none⟩ = some (.slice A n c)) ∧ wx.cell? ⟨g4, n * 2, none⟩ = some (.string ⟨#[33]⟩)) ∧ Below W8.heap.size W8 wx)
            (first | exact HK8.out _ (Below.refl _ _).drew | exact HK8.out _ b13)
            (first | (go_at_call 19; refine (HS8.out _ (Below.refl _ _).drew).mono ?_; rintro e' w13 ⟨rfl, b12⟩; have b13 : Below W8.heap.size W8 w13 := (below_box_drew W8).trans b12))
          all_goals
            have HE := Lib.hid (HM.out _ (Hb4.out.trans ((Hb7.out.trans (b13.mono Hb7.out.size)).mono Hb4.out.size))).2.2.1
            go_wp2
            go_ret
            exact ⟨rfl, HE.out⟩
      · have Hb7 : Hid (Below w4.heap.size w4 ((w10.setCell ⟨w4.heap.size, 0, none⟩ (.int .i64 ep)).setCell ⟨w4.heap.size, 1, none⟩ (.slice (some ⟨g4, 0, none⟩) n c4))) := Lib.hid ((b11.setCell (Nat.le_refl _) _).setCell (Nat.le_refl _) _)
        clear ‹_ ∧ Below w4.heap.size w4 (World.setCell _ _ _)› b11 f0 f1 u0 u1
        generalize hW8 : ((w10.setCell ⟨w4.heap.size, 0, none⟩ (.int .i64 ep)).setCell ⟨w4.heap.size, 1, none⟩ (.slice (some ⟨g4, 0, none⟩) n c4)) = W8 at *
        clear hW8
        obtain ⟨⟨⟨q0, q1⟩, ⟨t0, t1, t2⟩, z0⟩, -⟩ := HK4.out W8 Hb7.out
        rcases hgc with hg1 | ⟨hg1, hg2⟩
        all_goals
          go_wp2
          have HK8 : Hid (∀ wx, Below W8.heap.size W8 wx → ((wx.cell? ⟨w.heap.size, 0, none⟩ = some (.int .i64 ep) ∧ wx.cell? ⟨w.heap.size, 1, none⟩ = some (.slice A n c)) ∧ wx.cell? ⟨g4, n * 2, none⟩ = some (.string ⟨#[33]⟩)) ∧ Below W8.heap.size W8 wx) := Lib.hid fun wx hx => by
            have h9 := HK4.out wx (Hb7.out.trans (hx.mono Hb7.out.size))
            exact ⟨⟨h9.1.1, h9.1.2.2⟩, hx⟩
          have HS8 := Lib.hid (fun wx (hx : Below W8.heap.size W8 wx) => HSM.out wx (Hb7.out.trans (hx.mono Hb7.out.size)))
          go_region_held3 (fun wx => ((wx.cell? ⟨w.heap.size, 0, none⟩ = some (.int .i64 ep) ∧ wx.cell? ⟨w.heap.size, 1, none⟩ = some (.slice A n c)) ∧ wx.cell? ⟨g4, n * 2, none⟩ = some (.string ⟨#[33]⟩)) ∧ Below W8.heap.size W8 wx)
            (first | exact HK8.out _ (Below.refl _ _).drew | exact HK8.out _ b13)
            (first | (go_at_call 19; refine (HS8.out _ (Below.refl _ _).drew).mono ?_; rintro e' w13 ⟨rfl, b12⟩; have b13 : Below W8.heap.size W8 w13 := (below_box_drew W8).trans b12))
          all_goals
            have HE := Lib.hid (HM.out _ (Hb4.out.trans ((Hb7.out.trans (b13.mono Hb7.out.size)).mono Hb4.out.size))).2.2.1
            go_wp2
            go_ret
            exact ⟨rfl, HE.out⟩

namespace lawAtlasKeeps
open Go.ChangeShapes Go.WideShapes Go.ChangeAt

theorem own : ownKnob Try.prog.godebug = none := by kernel_rfl
theorem kids : Kids Try.prog (· < Try.prog.types.size) := kids_rows (by kernel_rfl) (by kernel_rfl)
theorem full : ∀ t e, t < Try.prog.types.size → Try.prog.underlying t = some (.slice e) → 0 < Try.prog.cellsOf e := slices_full_of Try.prog (by kernel_rfl)

set_option maxRecDepth 100000 in
theorem lifted (os : Os) (started : os.Started) (H : Type) (enc : TypeId × Value → H) :
    ReturnsInHanded {} Try.checked os 8 .any (Rows.atlasKeepsSpec.pre6 enc Try.prog Try.f8 Rows.atlasKeepsRow.domain false) (Rows.atlasKeepsSpec.post enc Try.prog Try.f8 false true false false) := by
  refine returnsInHanded_of_change (C := Try.checked) own started (by kernel_rfl) Try.func8
    (ChangeSpec.witness6 (enc := enc) (C := Try.checked) false ⟨#[], #[.agg #[.int .i64 0, .slice none 0 0], .agg #[.int .i64 0, .string ⟨#[]⟩, .int .i64 0]], []⟩ 8 (by kernel_rfl) (by kernel_rfl) (by kernel_rfl) (by kernel_rfl)) ?_
  intro W base args ds gs before hval0 hW _ _
  have hval : ∀ (j : Nat) t v, Try.f8.params[j]? = some t → args[j]? = some v → Value.okWide Try.prog W .any base t v := hval0
  have hW' := hW
  obtain ⟨p, q, hA0, hV, rfl, _, _⟩ := hW
  obtain ⟨rfl, rfl⟩ := trodVars_none hV
  have hA : DataW.TrodAll enc Try.prog W 0 (fun _ => true) true Try.f8.params.toList args.toList ds p := hA0
  rw [Try.params8] at hA hval
  obtain ⟨v0, vs0, d0, ds0, p0, q0, hargs, rfl, rfl, h0, r0⟩ := trodAll_cons hA
  obtain ⟨v1, vs1, d1, ds1, p1, q1, rfl, rfl, rfl, h1, r1⟩ := trodAll_cons r0
  obtain ⟨rfl, rfl, rfl⟩ := trodAll_nil r1
  obtain rfl : args = #[v0, v1] := by cases args; simp_all
  have hlt := hW'.lt
  obtain ⟨e0, A0, n0, c0, l0, rfl, hnc0, hm0, hb0, hs0⟩ := open_map Try.underlying24 (by kernel_rfl) ⟨rfl, rfl⟩ ⟨by kernel_rfl, by kernel_rfl⟩ ⟨by kernel_rfl, by kernel_rfl⟩ Try.underlying46 (by kernel_rfl) ⟨rfl, rfl⟩ ⟨by kernel_rfl, by kernel_rfl⟩ ⟨by kernel_rfl, by kernel_rfl⟩ (hval 0 24 v0 rfl rfl) h0 (fun x hx => hlt x (by simp [hx]))
  obtain ⟨k1, s1, m1, rfl, ws1⟩ := open_act12 Try.underlying40 (by kernel_rfl) ⟨rfl, rfl, rfl⟩ ⟨by kernel_rfl, by kernel_rfl, by kernel_rfl⟩ ⟨by kernel_rfl, by kernel_rfl, by kernel_rfl⟩ (hval 1 40 v1 rfl rfl) h1
  refine (keeps_walk e0 A0 n0 c0 l0 k1 s1 m1 W hb0 hnc0 hm0 hs0 ws1).mono fun e W' ⟨he, hbel⟩ => ?_
  subst he
  exact ⟨_, rfl, law_post kids full (of_decide_eq_true (by kernel_rfl)) Try.underlying4 rfl rfl rfl hW' hbel⟩

theorem proved : Rows.AtlasKeepsSaid :=
  OpenClaim.holds_of_wide 8 Try.f8 rfl rfl rfl rfl rfl rfl rfl ⟨rfl, rfl, rfl, rfl, rfl⟩ rfl rfl rfl rfl rfl (by kernel_rfl) Try.func8 (by kernel_rfl)
    (of_decide_eq_true (by kernel_rfl)) (by unfold Func.isWrapper; first | (rw [if_pos (by decide +kernel)]; kernel_rfl) | (rw [if_neg (by decide +kernel)]; exact ⟨rfl, rfl⟩))
    (fun os started H enc _ => lifted os started H enc)
end lawAtlasKeeps

end Go.Proofs.Ytnfnjhnfpcbdfaa

/- AtlasTiles: whatever plans are made one behind the other, each text is in just one part at all times; epochs go up one by one; only a move changes who has a text. No condition. -/
import Derived.Test.YtefagaiaflddaaaTilA
import Derived.Test.YtefagaiaflddaaaAtR
import Derived.Test.YtefagaiaflddaaaAtI
import Derived.Test.YtefagaiaflddaaaOpenActsP
import Derived.Test.YtefagaiaflddaaaRow
import Derived.Deep.RegionHeld3
import Derived.Deep.DeepCutAuto
namespace Go.Proofs.Ytefagaiaflddaaa
open Go.RowKit
open Go.Lib (strCells compareBytes)

theorem key_at {w : World} {B n : Nat} {A : Option Addr} {ss : List ByteArray} {k : Nat} (h : Has w B A n (ss.map Value.string)) (hk : k < n) : ∃ a s, A = some a ∧ a.block < B ∧ ss[k]? = some s ∧ w.cell? (a.add k) = some (.string s) := by
  have hl : k < ss.length := by have := h.1; rw [List.length_map] at this; omega
  obtain ⟨a, e, hb, hc⟩ := h.2 k (.string ss[k]) (by simp [hl])
  exact ⟨a, _, e, hb, List.getElem?_eq_getElem hl, hc⟩
theorem plan_in {k : Int} (h : 1 ≤ k ∧ k ≤ 3) : k = 1 ∨ k = 2 ∨ k = 3 := by omega
set_option maxRecDepth 100000 in
set_option maxHeartbeats 12800000 in
theorem tiles_walk (node : Int) (P : Option Addr) (np cp : Nat) (pl : List Plan12) (K : Option Addr) (nk ck : Nat) (ks : List ByteArray) (w : World) (hP : HasPlans w w.heap.size P np pl) (hK : Has w w.heap.size K nk (ks.map Value.string)) (hpn : np ≤ maxLen) (hkn : nk ≤ maxLen) (hps : ∀ u ∈ pl, u.s.size ≤ maxLen) (hks : ∀ s ∈ ks, s.size ≤ maxLen) :
    Calls Try.prog 5 #[.int .i64 node, .slice P np cp, .slice K nk ck] w fun e w' => e = .returned (.bool true) ∧ Below w.heap.size w w' := by
  have HP := Lib.hid (fun wx (hx : Below w.heap.size w wx) => hP.belowOf hx (Nat.le_refl _))
  have HK := Lib.hid (fun wx (hx : Below w.heap.size w wx) => (Has.belowOf hK hx (Nat.le_refl _) : Has wx w.heap.size K nk (ks.map Value.string)))
  have Hps := Lib.hid hps
  have Hks := Lib.hid hks
  have Hst := Lib.hid (fun wx => start_any node wx)
  unfold maxLen at hpn hkn
  clear hP hK hps hks
  go_enter Try.func5, Try.ntmps5
  go_wp2_with fail
  refine (awake12_any _).mono ?_
  rintro e w1 ⟨rfl, hb1⟩
  have Hb1 := Lib.hid hb1
  clear hb1
  by_cases h60 : 60 < np
  · have h60' : (60 : Int) < (np : Int) := by omega
    go_wp2
    go_ret
    exact ⟨rfl, Hb1.out⟩
  have h60' : ¬ (60 : Int) < (np : Int) := by omega
  by_cases h20 : 20 < nk
  · have h20' : (20 : Int) < (nk : Int) := by omega
    go_wp2
    go_ret
    exact ⟨rfl, Hb1.out⟩
  have h20' : ¬ (20 : Int) < (nk : Int) := by omega
  by_cases hnd : ¬ (1 ≤ node ∧ node ≤ 4)
  · have hst : startT node = (0, [], 1) := if_neg hnd
    rw [hst] at Hst
    clear hst
    go_wp2_with fail
    refine (Hst.out _).mono ?_
    rintro e w2 ⟨v2, rfl, o2, b2⟩
    have HE := Lib.hid ((Hb1.out.trans (b2.mono Hb1.out.size)).alloc (Nat.le_trans Hb1.out.size b2.size) (Obj.cells #[.int .i64 0, v2] 24))
    obtain ⟨A2, c2, rfl, -, -, -⟩ := o2.slice
    clear o2 b2
    by_cases hn1 : node < 1
    · clear hnd
      go_wp2
      go_ret
      exact ⟨rfl, HE.out⟩
    · have hn4 : 4 < node := by omega
      clear hnd
      go_wp2
      go_ret
      exact ⟨rfl, HE.out⟩
  have hst : startT node = (1, [⟨⟨#[]⟩, node⟩], 0) := if_pos (Classical.not_not.1 hnd)
  have Hnd := Lib.hid (Classical.not_not.1 hnd)
  rw [hst] at Hst
  clear hst hnd
  go_wp2_with fail
  refine (Hst.out _).mono ?_
  rintro e w2 ⟨v2, rfl, o2, b2⟩
  obtain ⟨A2, c2, rfl, -, -, x2⟩ := o2.slice
  have b02 := Hb1.out.trans (b2.mono Hb1.out.size)
  have HM0 : Hid (TMap w w2.heap.size 1 [⟨⟨#[]⟩, node⟩] A2 1 c2 (w2.alloc (.cells #[.int .i64 1, .slice A2 1 c2] 24))) := Lib.hid
    ⟨Box.made _ _ _, (x2.belowOf (below_box _) (Nat.le_refl _)).more (by simp), b02.alloc b02.size _, b02.size⟩
  have HR0 : Hid (RightP [(⟨⟨#[]⟩, node⟩ : Pt)]) := Lib.hid (one_right Hnd.out.1 Hnd.out.2)
  clear Hst o2 b2 x2 b02
  go_wp2
  generalize hw3 : (w2.alloc (.cells #[.int .i64 1, .slice A2 1 c2] 24)) = w3 at *
  generalize hbm : w2.heap.size = bm at *
  clear hw3 hbm
  go_loopw [9, 10, 11, 12, 13, 14, 15, 16, 17, 18, 19, 20, 21, 22, 23] (fun iv _ _ _ _ _ _ _ _ _ _ _ _ _ _ wr => ∃ (i : Nat) (ep : Int) (l : List Pt) (A : Option Addr) (n c : Nat), i ≤ np ∧ iv = .int .i64 (i : Int) ∧ Hid (TMap w bm ep l A n c wr ∧ RightP l ∧ 1 ≤ ep ∧ ep ≤ 1 + i)) (fun iv _ _ _ _ _ _ _ _ _ _ _ _ _ _ _ => np - (intOf iv).toNat)
  case atStart => exact ⟨0, 1, [⟨⟨#[]⟩, node⟩], A2, 1, c2, by omega, rfl, Lib.hid ⟨HM0.out, HR0.out, by omega, by omega⟩⟩
  case round =>
    obtain ⟨i, ep, l, A, n, c, hi, rfl, HS⟩ := hrel
    generalize wr = wo at *
    clear HM0 HR0 Hb1
    by_cases hlt : i < np
    · obtain ⟨ap, o, rfl, hap, ho, p0, p1, p2⟩ := (HP.out wo HS.out.1.bel).at_ hlt
      have Hos := Lib.hid (Hps.out _ (List.mem_of_getElem? ho))
      obtain ⟨ok, os, on⟩ := o
      simp only at p0 p1 p2 Hos
      clear ho
      have hi0 : (0 : Int) ≤ (i : Int) := by omega
      have hi1 : (i : Int) < (np : Int) := by omega
      by_cases h3 : 300 < os.size
      · have h3' : (300 : Int) < (os.size : Int) := by omega
        have HE := Lib.hid HS.out.1.bel
        have hoz := Hos.out
        unfold maxLen at hoz
        go_wp2
        go_ret
        exact ⟨rfl, HE.out⟩
      have h3' : ¬ (300 : Int) < (os.size : Int) := by omega
      obtain ⟨⟨me, ml, mz⟩, hm⟩ : ∃ m, outM ok ep l os on = m := ⟨_, rfl⟩
      have HOut := Lib.hid (out_ok HS.out.2.1 hm)
      have hln : l.length = n := HS.out.1.pts.1
      have HN5 := Lib.hid (outM_len ok ep l os on (by have := HS.out.2.1.most; omega))
      obtain ⟨N, hN⟩ : ∃ N, ml.length = N := ⟨_, rfl⟩
      have HC : Hid (∀ wx, Below wo.heap.size wo wx → Calls Try.prog 20 #[.agg #[.int .i64 ep, .slice A n c], .agg #[.int .i64 ok, .string os, .int .i64 on]] wx fun e w' => ∃ A3 c3, e = .returned (.tuple #[.agg #[.int .i64 me, .slice A3 N c3], .int .i64 mz]) ∧ HasPts w' w'.heap.size A3 N ml ∧ Below wx.heap.size wx w') := Lib.hid fun wx hx => by
        have hT := HS.out.1.next hx
        have h8 := HS.out.2.1.most
        refine (act_any ok ep A n c wx.heap.size l os on wx hT.pts (Nat.le_refl _) (by unfold maxLen; omega) (fun p hp => Nat.le_trans (small_right HS.out.2.1 p hp) (by unfold maxLen; omega)) Hos.out).mono fun e w' h9 => ?_
        have h7 := act_out h9 hT.pts (Nat.le_refl _)
        rw [hm] at h7
        simp only [hN] at h7
        exact h7
      have Hn := Lib.hid hln
      have HNl := Lib.hid hN
      have hwr : w.heap.size ≤ wo.heap.size := HS.out.1.bel.size
      have HPL : Hid (∀ wx, Below wo.heap.size wo wx → (wx.cell? (ap.add (i * 3)) = some (.int .i64 ok) ∧ wx.cell? ⟨(ap.add (i * 3)).block, (ap.add (i * 3)).off + 1, none⟩ = some (.string os) ∧ wx.cell? ⟨(ap.add (i * 3)).block, (ap.add (i * 3)).off + 2, none⟩ = some (.int .i64 on))) := Lib.hid fun wx hx => by
        have hlt : (ap.add (i * 3)).block < wo.heap.size := by rw [addr_block]; omega
        exact ⟨(hx.cell hlt).trans p0, (hx.cell (p := ⟨(ap.add (i * 3)).block, (ap.add (i * 3)).off + 1, none⟩) hlt).trans p1, (hx.cell (p := ⟨(ap.add (i * 3)).block, (ap.add (i * 3)).off + 2, none⟩) hlt).trans p2⟩
      have HK4 : Hid (∀ wx, Below wo.heap.size wo wx → ((wx.cell? ⟨bm, 0, none⟩ = some (.int .i64 ep) ∧ wx.cell? ⟨bm, 1, none⟩ = some (.slice A n c)) ∧ (wx.cell? (ap.add (i * 3)) = some (.int .i64 ok) ∧ wx.cell? ⟨(ap.add (i * 3)).block, (ap.add (i * 3)).off + 1, none⟩ = some (.string os) ∧ wx.cell? ⟨(ap.add (i * 3)).block, (ap.add (i * 3)).off + 2, none⟩ = some (.int .i64 on))) ∧ Below wo.heap.size wo wx) := Lib.hid fun wx hx => ⟨⟨⟨(HS.out.1.next hx).box.cell 0, (HS.out.1.next hx).box.cell 1⟩, HPL.out wx hx⟩, hx⟩
      have HalB := Lib.hid (below_box (w := wo) (Obj.cells #[.int .i64 0, .slice none 0 0] 24)).drew
      have HRb : Hid (Box (wo.alloc (.cells #[.int .i64 0, .slice none 0 0] 24)).drew wo.heap.size 24 #[.int .i64 0, .slice none 0 0]) := Lib.hid ((Box.made wo _ _).below (below_box_drew _) (by simp))
      have HcA := Lib.hid (HC.out _ (below_box_drew wo))
      have HcB := Lib.hid (HC.out _ HalB.out)
      have hoz := Hos.out
      unfold maxLen at hoz
      clear hm HC p0 p2 hN hln
      go_upto_region 13 with fail
      go_cut [10, 11] (fun nv ev wx => ∃ (gx : Nat) (A10 : Option Addr) (c10 : Nat), nv = .pointer (some ⟨gx, 0, none⟩) ∧ ev = .int .i64 mz ∧ Hid (TMap w gx me ml A10 N c10 wx ∧ Below wo.heap.size wo wx))
      case first =>
        as_aux_lemma =>
          go_region_held3 (fun wx => ((wx.cell? ⟨bm, 0, none⟩ = some (.int .i64 ep) ∧ wx.cell? ⟨bm, 1, none⟩ = some (.slice A n c)) ∧ (wx.cell? (ap.add (i * 3)) = some (.int .i64 ok) ∧ wx.cell? ⟨(ap.add (i * 3)).block, (ap.add (i * 3)).off + 1, none⟩ = some (.string os) ∧ wx.cell? ⟨(ap.add (i * 3)).block, (ap.add (i * 3)).off + 2, none⟩ = some (.int .i64 on))) ∧ Below wo.heap.size wo wx)
            (first | exact HK4.out _ (Below.refl _ _).drew | exact HK4.out _ HalB.out | exact HK4.out _ b11 | exact HK4.out _ (b11.alloc b11.size _) | exact HK4.out _ ((b11.setCell (Nat.le_refl _) _).setCell (Nat.le_refl _) _))
            (first
              | (go_at_call 20; refine HcB.out.mono ?_; rintro e' w10 ⟨A10, c10, rfl, x10, b10⟩; have hb10 := HRb.out.below b10 HRb.out.lt; have b11 : Below wo.heap.size wo w10 := HalB.out.trans (b10.mono HalB.out.size); have HB10 := Lib.hid (And.intro hb10 x10); have f0 := hb10.frozen 0; have f1 := hb10.frozen 1; have u0 : w10.cell? ⟨wo.heap.size, 0, none⟩ = some (.int .i64 0) := hb10.cell 0; have u1 : w10.cell? ⟨wo.heap.size, 1, none⟩ = some (.slice none 0 0) := hb10.cell 1; clear x10 b10 hb10)
              | (go_at_call 20; refine HcA.out.mono ?_; rintro e' w10 ⟨A10, c10, rfl, x10, b10⟩; have b11 : Below wo.heap.size wo w10 := (below_box_drew wo).trans b10; have HA10 := Lib.hid x10; clear x10 b10))
          all_goals go_wp2
          all_goals go_meet
          · exact ⟨w10.heap.size, A10, c10, rfl, rfl, Lib.hid ⟨⟨Box.made _ _ _, (HA10.out.belowOf (below_box _) (Nat.le_refl _)).more (by simp), HS.out.1.bel.trans ((b11.alloc b11.size _).mono hwr), Nat.le_trans hwr b11.size⟩, b11.alloc b11.size _⟩⟩
          · exact ⟨wo.heap.size, A10, c10, rfl, rfl, Lib.hid ⟨⟨set2q (.int .i64 me) (.slice A10 N c10) HB10.out.1, by have h7 := pts_put2 HB10.out.2 HB10.out.1 me A10 N c10; simpa using h7, HS.out.1.bel.trans (((b11.setCell (Nat.le_refl _) _).setCell (Nat.le_refl _) _).mono hwr), hwr⟩, (b11.setCell (Nat.le_refl _) _).setCell (Nat.le_refl _) _⟩⟩
      case rest =>
        as_aux_lemma =>
          obtain ⟨gx, A10, c10, rfl, rfl, hgx⟩ := hcut
          generalize wc = W5 at *
          have Hb5 := Lib.hid hgx.out.2
          have Hb5w := Lib.hid (HS.out.1.bel.trans (hgx.out.2.mono HS.out.1.bel.size))
          have HT5 := Lib.hid hgx.out.1
          have HM5 := Lib.hid (HS.out.1.next hgx.out.2)
          have hm0 : W5.cell? ⟨bm, 0, none⟩ = some (.int .i64 ep) := HM5.out.box.cell 0
          have hm1 : W5.cell? ⟨bm, 1, none⟩ = some (.slice A n c) := HM5.out.box.cell 1
          have hn0 : W5.cell? ⟨gx, 0, none⟩ = some (.int .i64 me) := HT5.out.box.cell 0
          have hn1 : W5.cell? ⟨gx, 1, none⟩ = some (.slice A10 N c10) := HT5.out.box.cell 1
          obtain ⟨hp0, hp1, hp2⟩ := HPL.out W5 hgx.out.2
          have Hep := Lib.hid HS.out.2.2
          have hep1 : 1 ≤ ep := HS.out.2.2.1
          have hep2 : ep ≤ 61 := by have := HS.out.2.2.2; omega
          clear p1
          by_cases hz : mz = 0
          · subst hz
            obtain ⟨hR, hE1, hE2, hW⟩ := HOut.out.2 rfl
            have HR := Lib.hid hR
            have HW := Lib.hid hW
            have HME : Hid (1 ≤ me ∧ me ≤ 2 + (i : Int)) := Lib.hid (by
              have h8 := Hep.out
              by_cases h9 : ok = 1 ∨ ok = 2 ∨ ok = 3
              · have := hE1 h9; omega
              · have := hE2 h9; omega)
            have hcut0 : (1 ≤ ok ∧ ok ≤ 3 ∧ me = ep + 1) ∨ ok < 1 ∨ (1 ≤ ok ∧ 3 < ok) := by
              by_cases h9 : 1 ≤ ok ∧ ok ≤ 3
              · exact .inl ⟨h9.1, h9.2, hE1 (plan_in h9)⟩
              · exact .inr (by omega)
            clear hR hE1 hE2 hW HOut
            have HF1 : Hid (∀ (x : ByteArray), x.size ≤ maxLen → ∀ wx, Below W5.heap.size W5 wx → Calls Try.prog 11 #[.agg #[.int .i64 ep, .slice A n c], .string x] wx fun e w' => e = .returned (.tuple #[.int .i64 (holdN l x.data.toList : Int), .bool true]) ∧ Below wx.heap.size wx w') := Lib.hid fun x hx wx hb => by
              have h9 := find_any ep A n c wx.heap.size l x wx (HM5.out.next hb).pts (Nat.le_refl _) (by have := HS.out.2.1.most; have := Hn.out; unfold maxLen; omega) (fun p hp => Nat.le_trans (small_right HS.out.2.1 p hp) (by unfold maxLen; omega))
              rw [find_right hep1 (by omega) HS.out.2.1] at h9
              exact h9
            have HF2 : Hid (∀ (x : ByteArray), x.size ≤ maxLen → ∀ wx, Below W5.heap.size W5 wx → Calls Try.prog 11 #[.agg #[.int .i64 me, .slice A10 N c10], .string x] wx fun e w' => e = .returned (.tuple #[.int .i64 (holdN ml x.data.toList : Int), .bool true]) ∧ Below wx.heap.size wx w') := Lib.hid fun x hx wx hb => by
              have h9 := find_any me A10 N c10 wx.heap.size ml x wx (HT5.out.next hb).pts (Nat.le_refl _) (by have := HR.out.most; have := HNl.out; unfold maxLen; omega) (fun p hp => Nat.le_trans (small_right HR.out p hp) (by unfold maxLen; omega))
              rw [find_right HME.out.1 (by have := HME.out.2; omega) HR.out] at h9
              exact h9
            have HO2 : Hid (∀ (j : Nat), j < N → ∀ wx, Below W5.heap.size W5 wx → Calls Try.prog 13 #[.agg #[.int .i64 me, .slice A10 N c10], .int .i64 (j : Int)] wx fun e w' => e = .returned (.tuple #[.agg #[.string (ptAt ml j).lo, .string (hiOf ml j)], .bool true]) ∧ Below wx.heap.size wx w') := Lib.hid fun j hj wx hb => by
              have h9 := of_any me A10 N c10 wx.heap.size ml (j : Int) wx (HT5.out.next hb).pts (Nat.le_refl _) (by have := HR.out.most; have := HNl.out; unfold maxLen; omega) (fun p hp => Nat.le_trans (small_right HR.out p hp) (by unfold maxLen; omega))
              unfold OfPost at h9
              rw [of_rightT HME.out.1 (by have := HME.out.2; omega) HR.out (by rw [HNl.out]; exact hj)] at h9
              exact h9
            have HKc : Hid (∀ wx, Below W5.heap.size W5 wx → ((wx.cell? ⟨bm, 0, none⟩ = some (.int .i64 ep) ∧ wx.cell? ⟨bm, 1, none⟩ = some (.slice A n c)) ∧ (wx.cell? ⟨gx, 0, none⟩ = some (.int .i64 me) ∧ wx.cell? ⟨gx, 1, none⟩ = some (.slice A10 N c10)) ∧ (wx.cell? (ap.add (i * 3)) = some (.int .i64 ok) ∧ wx.cell? ⟨(ap.add (i * 3)).block, (ap.add (i * 3)).off + 1, none⟩ = some (.string os) ∧ wx.cell? ⟨(ap.add (i * 3)).block, (ap.add (i * 3)).off + 2, none⟩ = some (.int .i64 on))) ∧ Below W5.heap.size W5 wx) := Lib.hid fun wx hx =>
              ⟨⟨⟨(HM5.out.next hx).box.cell 0, (HM5.out.next hx).box.cell 1⟩, ⟨(HT5.out.next hx).box.cell 0, (HT5.out.next hx).box.cell 1⟩, HPL.out wx (Hb5.out.trans (hx.mono Hb5.out.size))⟩, hx⟩
            have HG1 := Lib.hid (HF1.out os Hos.out _ (below_box_drew W5))
            obtain ⟨pc, hpc⟩ : ∃ pc, holdN l os.data.toList = pc := ⟨_, rfl⟩
            rw [hpc] at HG1
            simp only [hpc] at HW
            clear hpc
            clear HK4 HPL HRb HalB
            go_upto_region 17 with fail
            go_cut [101] (fun t wx => t = .bool false ∧ wx = W5)
            case first =>
              as_aux_lemma =>
                rcases hcut0 with ⟨hk1, hk3, rfl⟩ | hk1 | ⟨hk1, hk3⟩
                all_goals (go_wp2; go_meet; exact ⟨rfl, rfl⟩)
            case rest =>
              as_aux_lemma =>
                obtain ⟨rfl, hw⟩ := hcut
                have hw' := hw.symm
                subst hw'
                go_wp2
                go_region_held3 (fun wx => ((wx.cell? ⟨bm, 0, none⟩ = some (.int .i64 ep) ∧ wx.cell? ⟨bm, 1, none⟩ = some (.slice A n c)) ∧ wx.cell? ⟨(ap.add (i * 3)).block, (ap.add (i * 3)).off + 1, none⟩ = some (.string os)) ∧ Below W5.heap.size W5 wx)
                  (first | exact ⟨⟨(HKc.out _ (Below.refl _ _).drew).1.1, (HKc.out _ (Below.refl _ _).drew).1.2.2.2.1⟩, (Below.refl _ _).drew⟩ | exact ⟨⟨(HKc.out _ b6).1.1, (HKc.out _ b6).1.2.2.2.1⟩, b6⟩)
                  (first | (go_at_call 11; refine HG1.out.mono ?_; rintro e' w6 ⟨rfl, b6'⟩; have b6 : Below W5.heap.size W5 w6 := (below_box_drew W5).trans b6'))
                have Hb6 := Lib.hid b6
                have h56 : W5.heap.size ≤ w6.heap.size := b6.size
                clear ‹_ ∧ Below W5.heap.size W5 w6› HG1 b6 b6' hp0 hp1 hp2 hm0 hm1 hn0 hn1
                go_wp2
                go_loopw [14, 15, 16, 17, 18, 19, 20, 21, 22, 23] (fun kv _ _ _ _ _ _ _ _ _ wq => ∃ q : Nat, q ≤ nk ∧ kv = .int .i64 (q : Int) ∧ Hid (Below w6.heap.size w6 wq)) (fun kv _ _ _ _ _ _ _ _ _ _ => nk - (intOf kv).toNat)
                case atStart => exact ⟨0, by omega, rfl, Lib.hid (Below.refl _ _)⟩
                case round =>
                  as_aux_lemma =>
                    obtain ⟨q, hq, rfl, HQ⟩ := hrel
                    have HQ5 := Lib.hid (Hb6.out.trans (HQ.out.mono h56))
                    by_cases hqlt : q < nk
                    · obtain ⟨ak, x, rfl, hak, hx, kc⟩ := key_at (HK.out wr (Hb5w.out.trans (HQ5.out.mono Hb5w.out.size))) hqlt
                      have hN8 : N ≤ 8 := by have := HR.out.most; have := HNl.out; omega
                      have hNpos : 0 < N := by have := HR.out.one; have := HNl.out; omega
                      have hnpos : 0 < n := by have := HS.out.2.1.one; have := Hn.out; omega
                      obtain ⟨am, _, rfl, -, -, -, -⟩ := HM5.out.pts.at_ hnpos
                      obtain ⟨an, _, rfl, -, -, -, -⟩ := HT5.out.pts.at_ hNpos
                      have hx9 := Hks.out x (List.mem_of_getElem? hx)
                      have hxz := hx9
                      unfold maxLen at hxz
                      have hq0 : (0 : Int) ≤ (q : Int) := by omega
                      have hq1 : (q : Int) < (nk : Int) := by omega
                      by_cases hx3 : 300 < x.size
                      · have hx3' : (300 : Int) < (x.size : Int) := by omega
                        have HE := Lib.hid (Hb5w.out.trans (HQ5.out.mono Hb5w.out.size))
                        go_wp2
                        go_ret
                        exact ⟨rfl, HE.out⟩
                      have hx3' : ¬ (300 : Int) < (x.size : Int) := by omega
                      obtain ⟨⟨⟨hm0, hm1⟩, ⟨hn0, hn1⟩, hp0, hp1, hp2⟩, -⟩ := HKc.out wr HQ5.out
                      have Hxs := Lib.hid hx9
                      have HKq : Hid (∀ wx, Below wr.heap.size wr wx → ((wx.cell? ⟨bm, 0, none⟩ = some (.int .i64 ep) ∧ wx.cell? ⟨bm, 1, none⟩ = some (.slice (some am) n c)) ∧ (wx.cell? ⟨gx, 0, none⟩ = some (.int .i64 me) ∧ wx.cell? ⟨gx, 1, none⟩ = some (.slice (some an) N c10)) ∧ wx.cell? (ak.add q) = some (.string x)) ∧ Below wr.heap.size wr wx) := Lib.hid fun wx hb => by
                        have h9 := HKc.out wx (HQ5.out.trans (hb.mono HQ5.out.size))
                        have h8 := (HQ5.out.size)
                        exact ⟨⟨h9.1.1, h9.1.2.1, (hb.cell (p := ak.add q) (by rw [addr_block]; have := Hb5w.out.size; omega)).trans kc⟩, hb⟩
                      have HA1 := Lib.hid (HF1.out x Hxs.out _ (HQ5.out.trans ((below_box_drew wr).mono HQ5.out.size)))
                      have HA2 := Lib.hid (fun wx (hb : Below wr.heap.size wr wx) => HF2.out x Hxs.out wx (HQ5.out.trans (hb.mono HQ5.out.size)))
                      have ha := hold_lt (hold_is HS.out.2.1 x.data.toList)
                      have hb := hold_lt (hold_is HR.out x.data.toList)
                      have hia := (hold_is HS.out.2.1 x.data.toList)
                      have hib := (hold_is HR.out x.data.toList)
                      have hww := HW.out x.data.toList
                      obtain ⟨a, hae⟩ : ∃ a, holdN l x.data.toList = a := ⟨_, rfl⟩
                      obtain ⟨b, hbe⟩ : ∃ b, holdN ml x.data.toList = b := ⟨_, rfl⟩
                      rw [hae] at HA1 ha hia hww
                      simp only [hbe] at HA2 hb hib
                      rw [Hn.out] at ha
                      rw [HNl.out] at hb
                      obtain ⟨pa, hpa⟩ : ∃ pa, l[a]? = some pa := ⟨_, List.getElem?_eq_getElem (by rw [Hn.out]; exact ha)⟩
                      obtain ⟨pb, hpb⟩ : ∃ pb, ml[b]? = some pb := ⟨_, List.getElem?_eq_getElem (by rw [HNl.out]; exact hb)⟩
                      rw [nodeAt_eq hia hpa, nodeAt_eq hib hpb] at hww
                      have Hww := Lib.hid hww
                      have HNb := Lib.hid hbe
                      have ha0 : (0 : Int) ≤ (a : Int) := by omega
                      have ha1 : (a : Int) < (n : Int) := by omega
                      have hb0 : (0 : Int) ≤ (b : Int) := by omega
                      have hb1 : (b : Int) < (N : Int) := by omega
                      have HPA : Hid (∀ wx, Below W5.heap.size W5 wx → wx.cell? ⟨(am.add (a * 2)).block, (am.add (a * 2)).off + 1, none⟩ = some (.int .i64 pa.n) ∧ wx.cell? ⟨(an.add (b * 2)).block, (an.add (b * 2)).off + 1, none⟩ = some (.int .i64 pb.n)) := Lib.hid fun wx hb9 => by
                        obtain ⟨a1, p1, e1, -, h1, -, d1⟩ := (HM5.out.next hb9).pts.at_ ha
                        obtain ⟨a2, p2, e2, -, h2, -, d2⟩ := (HT5.out.next hb9).pts.at_ hb
                        injection e1 with e1
                        injection e2 with e2
                        rw [hpa] at h1
                        rw [hpb] at h2
                        injection h1 with h1
                        injection h2 with h2
                        subst e1 e2 h1 h2
                        exact ⟨d1, d2⟩
                      obtain ⟨na, hna⟩ : ∃ na, pa.n = na := ⟨_, rfl⟩
                      obtain ⟨nb, hnb⟩ : ∃ nb, pb.n = nb := ⟨_, rfl⟩
                      rw [hna, hnb] at HPA Hww
                      clear hx9 hx ha hb hia hib hww hae hbe hpa hpb hna hnb
                      go_wp2
                      go_region_held3 (fun wx => ((wx.cell? ⟨bm, 0, none⟩ = some (.int .i64 ep) ∧ wx.cell? ⟨bm, 1, none⟩ = some (.slice (some am) n c)) ∧ (wx.cell? ⟨gx, 0, none⟩ = some (.int .i64 me) ∧ wx.cell? ⟨gx, 1, none⟩ = some (.slice (some an) N c10)) ∧ wx.cell? (ak.add q) = some (.string x)) ∧ Below wr.heap.size wr wx)
                        (first | exact HKq.out _ (Below.refl _ _).drew | exact HKq.out _ b7)
                        (first | (go_at_call 11; refine HA1.out.mono ?_; rintro e' w7 ⟨rfl, b7'⟩; have b7 : Below wr.heap.size wr w7 := (below_box_drew wr).trans b7'))
                      have HB7 := Lib.hid b7
                      clear ‹_ ∧ Below wr.heap.size wr w7› b7 b7' HA1
                      have HA3 := Lib.hid (HA2.out _ HB7.out.drew)
                      have HKr : Hid (∀ wx, Below w7.heap.size w7 wx → ((wx.cell? ⟨gx, 0, none⟩ = some (.int .i64 me) ∧ wx.cell? ⟨gx, 1, none⟩ = some (.slice (some an) N c10)) ∧ wx.cell? (ak.add q) = some (.string x)) ∧ Below w7.heap.size w7 wx) := Lib.hid fun wx hb9 => ⟨(HKq.out wx (HB7.out.trans (hb9.mono HB7.out.size))).1.2, hb9⟩
                      clear HA2
                      go_wp2
                      go_region_held3 (fun wx => ((wx.cell? ⟨gx, 0, none⟩ = some (.int .i64 me) ∧ wx.cell? ⟨gx, 1, none⟩ = some (.slice (some an) N c10)) ∧ wx.cell? (ak.add q) = some (.string x)) ∧ Below w7.heap.size w7 wx)
                        (first | exact HKr.out _ (Below.refl _ _).drew | exact HKr.out _ b8)
                        (first | (go_at_call 11; refine HA3.out.mono ?_; rintro e' w8 ⟨rfl, b8'⟩; have b8 : Below w7.heap.size w7 w8 := (below_box_drew w7).trans b8'))
                      have HB8 : Hid (Below wr.heap.size wr w8) := Lib.hid (HB7.out.trans (b8.mono HB7.out.size))
                      have HB85 : Hid (Below W5.heap.size W5 w8) := Lib.hid (HQ5.out.trans (HB8.out.mono HQ5.out.size))
                      clear ‹_ ∧ Below w7.heap.size w7 w8› b8 b8' HA3 HKr HB7
                      obtain ⟨⟨⟨hm0, hm1⟩, ⟨hn0, hn1⟩, hp0, hp1, hp2⟩, -⟩ := HKc.out w8 HB85.out
                      obtain ⟨d1, d2⟩ := HPA.out w8 HB85.out
                      obtain ⟨dd, hdd⟩ : ∃ dd, decide (ok = 3 ∧ a = pc) = dd := ⟨_, rfl⟩
                      have Hdd := Lib.hid hdd
                      clear hdd
                      go_upto_region 30 with fail
                      go_cut [186] (fun t wx => t = .bool dd ∧ wx = w8)
                      case first =>
                        as_aux_lemma =>
                          by_cases h93 : ok = 3
                          · have h93' : (ok == 3) = true := by simpa using h93
                            by_cases h9c : a = pc
                            · have h9c' : ((a : Int) == (pc : Int)) = true := by rw [h9c]; simp
                              have e9 : dd = true := by rw [← Hdd.out]; exact decide_eq_true ⟨h93, h9c⟩
                              clear h93 h9c
                              go_wp2
                              go_meet
                              exact ⟨by rw [e9], rfl⟩
                            · have h9c' : ((a : Int) == (pc : Int)) = false := beq_false_of_ne (by omega)
                              have e9 : dd = false := by rw [← Hdd.out]; exact decide_eq_false (fun h => h9c h.2)
                              clear h93 h9c
                              go_wp2
                              go_meet
                              exact ⟨by rw [e9], rfl⟩
                          · have h93' : (ok == 3) = false := by simpa using h93
                            have e9 : dd = false := by rw [← Hdd.out]; exact decide_eq_false (fun h => h93 h.1)
                            clear h93
                            go_wp2
                            go_meet
                            exact ⟨by rw [e9], rfl⟩
                      case rest =>
                        obtain ⟨rfl, hw⟩ := hcut
                        have hw' := hw.symm
                        subst hw'
                        go_upto_if 186 with fail
                        go_cut [19] (fun v wx => v = .int .i64 nb ∧ wx = w8)
                        case first =>
                          as_aux_lemma =>
                            cases dd with
                            | true =>
                              have e9 : nb = on := by rw [Hww.out]; exact if_pos (of_decide_eq_true Hdd.out)
                              subst e9
                              go_wp2
                              go_meet
                              exact ⟨rfl, rfl⟩
                            | false =>
                              have e9 : nb = na := by rw [Hww.out]; exact if_neg (of_decide_eq_false Hdd.out)
                              subst e9
                              go_wp2
                              go_meet
                              exact ⟨rfl, rfl⟩
                        case rest =>
                          as_aux_lemma =>
                            obtain ⟨rfl, hw⟩ := hcut
                            have hw' := hw.symm
                            subst hw'
                            have hbb : (nb == nb) = true := by simp
                            have hbb' : (nb != nb) = false := by simp
                            generalize wr = wk at *
                            go_wp2
                            go_loopw [20, 21, 22, 23] (fun inv jv _ _ wj => ∃ j : Nat, j ≤ N ∧ jv = .int .i64 (j : Int) ∧ inv = .int .i64 (inN ml x.data.toList j : Int) ∧ Hid (Below w8.heap.size w8 wj)) (fun _ jv _ _ _ => N - (intOf jv).toNat)
                            case atStart => exact ⟨0, by omega, rfl, rfl, Lib.hid (Below.refl _ _)⟩
                            case round =>
                              as_aux_lemma =>
                                obtain ⟨j, hj, rfl, rfl, HJ⟩ := hrel
                                have HJ5 := Lib.hid (HB85.out.trans (HJ.out.mono HB85.out.size))
                                obtain ⟨⟨-, ⟨hn0, hn1⟩, -⟩, -⟩ := HKc.out wr HJ5.out
                                by_cases hjl : j < N
                                ·
                                  as_aux_lemma =>
                                    obtain ⟨pj, hpj⟩ : ∃ pj, ml[j]? = some pj := ⟨_, List.getElem?_eq_getElem (by rw [HNl.out]; exact hjl)⟩
                                    have HOj := Lib.hid (HO2.out j hjl wr HJ5.out)
                                    rw [ptAt_of hpj] at HOj
                                    have Hhas := Lib.hid (of_has HR.out hpj x.data.toList)
                                    have Hst := Lib.hid (inN_step (l := ml) (x := x.data.toList) (j := j))
                                    have hc1 := inN_le ml x.data.toList j
                                    obtain ⟨cc, hcc⟩ : ∃ cc, inN ml x.data.toList j = cc := ⟨_, rfl⟩
                                    rw [hcc] at Hst hc1 ⊢
                                    obtain ⟨hi', hhi⟩ : ∃ h, hiOf ml j = h := ⟨_, rfl⟩
                                    rw [hhi] at HOj Hhas
                                    obtain ⟨lo', ln'⟩ := pj
                                    simp only [Pt.lb] at HOj Hhas
                                    have hj0 : (0 : Int) ≤ (j : Int) := by omega
                                    have hcc0 : (0 : Int) ≤ (cc : Int) := by omega
                                    clear hpj hcc hhi
                                    go_wp2_with fail
                                    refine HOj.out.mono ?_
                                    rintro e' w9 ⟨rfl, b9⟩
                                    have HJ9 : Hid (Below w8.heap.size w8 (w9.alloc (.cells #[.string lo', .string hi'] 30))) := Lib.hid ((HJ.out.trans (b9.mono HJ.out.size)).alloc (Nat.le_trans HJ.out.size b9.size) _)
                                    have hbx := Box.made w9 30 #[.string lo', .string hi']
                                    have r0 : (w9.alloc (.cells #[.string lo', .string hi'] 30)).cell? ⟨w9.heap.size, 0, none⟩ = some (.string lo') := hbx.cell 0
                                    have r1 : (w9.alloc (.cells #[.string lo', .string hi'] 30)).cell? ⟨w9.heap.size, 1, none⟩ = some (.string hi') := hbx.cell 1
                                    have kc9 := (HKq.out _ (HB8.out.trans (HJ9.out.mono HB8.out.size))).1.2.2
                                    have hd1 := text_less x lo'
                                    have hd2 := text_less x hi'
                                    clear b9 hbx HOj
                                    by_cases hlo : x.data.toList < lo'.data.toList
                                    · rw [decide_eq_true hlo] at hd1
                                      have e9 : ¬ j = holdN ml x.data.toList := fun h => (Hhas.out.2 h).1 hlo
                                      have HE : Hid (inN ml x.data.toList (j + 1) = cc) := Lib.hid (by rw [Hst.out, if_neg e9])
                                      clear hlo e9
                                      go_wp2
                                      go_quiet (fail)
                                      go_wp2
                                      go_roundw
                                      case rel => exact ⟨j + 1, by omega, by go_num, by rw [HE.out], Lib.hid (below_dr HJ9.out _)⟩
                                      case measure => simp [intOf]; omega
                                    · rw [decide_eq_false hlo] at hd1
                                      by_cases hhe : hi' = ⟨#[]⟩
                                      · subst hhe
                                        have e9 : j = holdN ml x.data.toList := Hhas.out.1 ⟨hlo, .inl rfl⟩
                                        have HE : Hid (inN ml x.data.toList (j + 1) = cc + 1) := Lib.hid (by rw [Hst.out, if_pos e9])
                                        clear hlo e9 hd2
                                        go_wp2
                                        go_quiet (fail)
                                        go_wp2
                                        go_roundw
                                        case rel => exact ⟨j + 1, by omega, by go_num, by rw [HE.out]; go_num, Lib.hid (below_dr HJ9.out _)⟩
                                        case measure => simp [intOf]; omega
                                      · have hne := text_nil hhe
                                        by_cases hxh : x.data.toList < hi'.data.toList
                                        · rw [decide_eq_true hxh] at hd2
                                          have e9 : j = holdN ml x.data.toList := Hhas.out.1 ⟨hlo, .inr hxh⟩
                                          have HE : Hid (inN ml x.data.toList (j + 1) = cc + 1) := Lib.hid (by rw [Hst.out, if_pos e9])
                                          clear hlo e9 hhe hxh
                                          go_wp2
                                          go_quiet (fail)
                                          go_wp2
                                          go_roundw
                                          case rel => exact ⟨j + 1, by omega, by go_num, by rw [HE.out]; go_num, Lib.hid (below_dr HJ9.out _)⟩
                                          case measure => simp [intOf]; omega
                                        · rw [decide_eq_false hxh] at hd2
                                          have e9 : ¬ j = holdN ml x.data.toList := fun h => ((Hhas.out.2 h).2).elim hhe hxh
                                          have HE : Hid (inN ml x.data.toList (j + 1) = cc) := Lib.hid (by rw [Hst.out, if_neg e9])
                                          clear hlo e9 hhe hxh
                                          go_wp2
                                          go_quiet (fail)
                                          go_wp2
                                          go_roundw
                                          case rel => exact ⟨j + 1, by omega, by go_num, by rw [HE.out], Lib.hid (below_dr HJ9.out _)⟩
                                          case measure => simp [intOf]; omega
                                · obtain rfl : j = N := by omega
                                  have e9 : inN ml x.data.toList j = 1 := by have h9 := inN_end HR.out x.data.toList; rw [HNl.out] at h9; exact h9
                                  rw [e9]
                                  have HE : Hid (Below w6.heap.size w6 wr) := Lib.hid (HQ.out.trans ((HB8.out.trans (HJ.out.mono HB8.out.size)).mono HQ.out.size))
                                  go_wp2
                                  go_roundw
                                  case rel => exact ⟨q + 1, by omega, by go_num, HE⟩
                                  case measure => simp [intOf]; omega
                    ·
                      as_aux_lemma =>
                        obtain rfl : q = nk := by omega
                        obtain ⟨⟨⟨hm0, hm1⟩, ⟨hn0, hn1⟩, -⟩, -⟩ := HKc.out wr HQ5.out
                        have f0 : wr.frozen? ⟨bm, 0, none⟩ = false := (HM5.out.next HQ5.out).box.frozen 0
                        have f1 : wr.frozen? ⟨bm, 1, none⟩ = false := (HM5.out.next HQ5.out).box.frozen 1
                        have HE : Hid (TMap w bm me ml A10 N c10 ((wr.setCell ⟨bm, 0, none⟩ (.int .i64 me)).setCell ⟨bm, 1, none⟩ (.slice A10 N c10)) ∧ RightP ml ∧ 1 ≤ me ∧ me ≤ 1 + ((i + 1 : Nat) : Int)) := Lib.hid ⟨(HM5.out.next HQ5.out).put (HT5.out.next HQ5.out), HR.out, HME.out.1, by have := HME.out.2; omega⟩
                        go_wp2
                        go_roundw
                        case rel => exact ⟨i + 1, me, ml, A10, N, c10, by omega, by go_num, HE⟩
                        case measure => simp [intOf]; omega
          ·
            as_aux_lemma =>
              have hz1 : (mz == 0) = false := by simpa using hz
              have hz2 : (mz != 0) = true := by simpa using hz
              obtain ⟨rfl, rfl⟩ := HOut.out.1 hz
              obtain rfl : N = 0 := HNl.out.symm
              have HE : Hid (TMap w bm ep l A n c W5 ∧ RightP l ∧ 1 ≤ ep ∧ ep ≤ 1 + ((i + 1 : Nat) : Int)) := Lib.hid ⟨HM5.out, HS.out.2.1, hep1, by have := HS.out.2.2.2; omega⟩
              clear hz
              go_wp2
              go_roundw
              case rel => exact ⟨i + 1, ep, l, A, n, c, by omega, by go_num, HE⟩
              case measure => simp [intOf]; omega
    · have HE := Lib.hid HS.out.1.bel
      go_wp2
      go_ret
      exact ⟨rfl, HE.out⟩

namespace lawAtlasTiles
open Go.ChangeShapes Go.WideShapes Go.ChangeAt

theorem own : ownKnob Try.prog.godebug = none := by kernel_rfl
theorem kids : Kids Try.prog (· < Try.prog.types.size) := kids_rows (by kernel_rfl) (by kernel_rfl)
theorem full : ∀ t e, t < Try.prog.types.size → Try.prog.underlying t = some (.slice e) → 0 < Try.prog.cellsOf e := slices_full_of Try.prog (by kernel_rfl)

set_option maxRecDepth 100000 in
theorem lifted (os : Os) (started : os.Started) (H : Type) (enc : TypeId × Value → H) :
    ReturnsInHanded {} Try.checked os 5 .any (Rows.atlasTilesSpec.pre6 enc Try.prog Try.f5 Rows.atlasTilesRow.domain false) (Rows.atlasTilesSpec.post enc Try.prog Try.f5 false true false false) := by
  refine returnsInHanded_of_change (C := Try.checked) own started (by kernel_rfl) Try.func5
    (ChangeSpec.witness6 (enc := enc) (C := Try.checked) false ⟨#[], #[.int .i64 0, .slice none 0 0, .slice none 0 0], []⟩ 8 (by kernel_rfl) (by kernel_rfl) (by kernel_rfl) (by kernel_rfl)) ?_
  intro W base args ds gs before hval0 hW _ _
  have hval : ∀ (j : Nat) t v, Try.f5.params[j]? = some t → args[j]? = some v → Value.okWide Try.prog W .any base t v := hval0
  have hW' := hW
  obtain ⟨p, q, hA0, hV, rfl, _, _⟩ := hW
  obtain ⟨rfl, rfl⟩ := trodVars_none hV
  have hA : DataW.TrodAll enc Try.prog W 0 (fun _ => true) true Try.f5.params.toList args.toList ds p := hA0
  rw [Try.params5] at hA hval
  obtain ⟨v0, vs0, d0, ds0, p0, q0, hargs, rfl, rfl, h0, r0⟩ := trodAll_cons hA
  obtain ⟨v1, vs1, d1, ds1, p1, q1, rfl, rfl, rfl, h1, r1⟩ := trodAll_cons r0
  obtain ⟨v2, vs2, d2, ds2, p2, q2, rfl, rfl, rfl, h2, r2⟩ := trodAll_cons r1
  obtain ⟨rfl, rfl, rfl⟩ := trodAll_nil r2
  obtain rfl : args = #[v0, v1, v2] := by cases args; simp_all
  have hlt := hW'.lt
  obtain ⟨k0, rfl, _, _, _⟩ := open_int Try.underlying3 (hval 0 3 v0 rfl rfl) h0
  obtain ⟨A1, n1, c1, l1, rfl, hn1, hnc1, hb1, hw1, hi1⟩ := open_acts12 Try.underlying43 Try.underlying40 (by kernel_rfl) ⟨rfl, rfl, rfl⟩ ⟨by kernel_rfl, by kernel_rfl, by kernel_rfl⟩ ⟨by kernel_rfl, by kernel_rfl, by kernel_rfl⟩ (hval 1 43 v1 rfl rfl) h1 (fun x hx => hlt x (by simp [hx]))
  obtain ⟨A2, n2, c2, ss2, rfl, hn2, hnc2, hb2, hw2⟩ := open_texts Try.underlying44 Try.underlying9 (by kernel_rfl) (hval 2 44 v2 rfl rfl) h2 (fun x hx => hlt x (by simp [hx]))
  refine (tiles_walk k0 A1 n1 c1 l1 A2 n2 c2 ss2 W hb1 hb2 hn1 hn2 hw1 hw2).mono fun e W' ⟨he, hbel⟩ => ?_
  subst he
  exact ⟨_, rfl, law_post kids full (of_decide_eq_true (by kernel_rfl)) Try.underlying4 rfl rfl rfl hW' hbel⟩

theorem proved : Rows.AtlasTilesSaid :=
  OpenClaim.holds_of_wide 5 Try.f5 rfl rfl rfl rfl rfl rfl rfl ⟨rfl, rfl, rfl, rfl, rfl⟩ rfl rfl rfl rfl rfl (by kernel_rfl) Try.func5 (by kernel_rfl)
    (of_decide_eq_true (by kernel_rfl)) (by unfold Func.isWrapper; first | (rw [if_pos (by decide +kernel)]; kernel_rfl) | (rw [if_neg (by decide +kernel)]; exact ⟨rfl, rfl⟩))
    (fun os started H enc _ => lifted os started H enc)
end lawAtlasTiles

end Go.Proofs.Ytefagaiaflddaaa

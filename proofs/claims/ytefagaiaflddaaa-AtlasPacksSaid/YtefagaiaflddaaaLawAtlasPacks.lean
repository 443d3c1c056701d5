/- AtlasPacks: the text of any map, and what any text is, are as the document says; a map that was packed is unpacked as it was. No condition. -/
import Derived.Test.YtefagaiaflddaaaAtT
import Derived.Test.YtefagaiaflddaaaAtS
import Derived.Test.YtefagaiaflddaaaAtR
import Derived.Test.YtefagaiaflddaaaOpenMap
import Derived.Test.YtefagaiaflddaaaSpecAtb
import Derived.Test.YtefagaiaflddaaaRow
import Derived.Deep.DeepCutAuto
namespace Go.Proofs.Ytefagaiaflddaaa
open Go.RowKit
open Go.Lib (strCells compareBytes)

theorem unpack_bad {l : List UInt8} {ue : Int} {ul : List Pt} {uz : Int} (h : unpackT l = (ue, ul, uz)) (hz : uz ≠ 0) : ue = 0 ∧ ul = [] := by
  unfold unpackT at h
  simp only at h
  split at h
  · injection h with e1 h; injection h with e2 e3; exact ⟨e1.symm, e2.symm⟩
  · split at h
    · injection h with e1 h; injection h with e2 e3; exact ⟨e1.symm, e2.symm⟩
    · split at h
      · injection h with e1 h; injection h with e2 e3; exact ⟨e1.symm, e2.symm⟩
      · split at h
        · injection h with e1 h; injection h with e2 e3; exact ⟨e1.symm, e2.symm⟩
        · split at h
          · injection h with e1 h; injection h with e2 e3; exact ⟨e1.symm, e2.symm⟩
          · split at h
            · injection h with e1 h; injection h with e2 e3; exact ⟨e1.symm, e2.symm⟩
            · injection h with e1 h; injection h with e2 e3; exact absurd e3.symm hz
set_option maxRecDepth 100000 in
set_option maxHeartbeats 12800000 in
theorem packs_walk (ep : Int) (A : Option Addr) (n c : Nat) (l : List Pt) (s : ByteArray) (w : World) (h : HasPts w w.heap.size A n l) (hnc : n ≤ c) (hcm : c ≤ maxLen) (hs : ∀ p ∈ l, p.lo.size ≤ maxLen) (hsz : s.size ≤ maxLen) :
    Calls Try.prog 7 #[.agg #[.int .i64 ep, .slice A n c], .string s] w fun e w' => e = .returned (.bool true) ∧ Below w.heap.size w w' := by
  have hn : n ≤ maxLen := Nat.le_trans hnc hcm
  have HM := Lib.hid (fun wx (hx : Below (w.alloc (.cells #[.int .i64 ep, .slice A n c] 24)).heap.size (w.alloc (.cells #[.int .i64 ep, .slice A n c] 24)) wx) => map_box hx)
  have HA : Hid (∀ wx, Below (w.alloc (.cells #[.int .i64 ep, .slice A n c] 24)).heap.size (w.alloc (.cells #[.int .i64 ep, .slice A n c] 24)) wx → HasPts wx w.heap.size A n l ∧ w.heap.size ≤ wx.heap.size) := Lib.hid fun wx hx => ⟨h.belowOf (map_box hx).2.2 (Nat.le_refl _), (map_box hx).2.2.size⟩
  have HLi := Lib.hid (fun wx (hx : Below (w.alloc (.cells #[.int .i64 ep, .slice A n c] 24)).heap.size (w.alloc (.cells #[.int .i64 ep, .slice A n c] 24)) wx) => light12_any ep A n c w.heap.size l wx (HA.out wx hx).1 (HA.out wx hx).2 hn hs)
  have HP1 := Lib.hid (fun wx (hx : Below (w.alloc (.cells #[.int .i64 ep, .slice A n c] 24)).heap.size (w.alloc (.cells #[.int .i64 ep, .slice A n c] 24)) wx) => packM_any ep A n c w.heap.size l wx (HA.out wx hx).1 (HA.out wx hx).2 hn hs)
  have HP2 := Lib.hid (fun wx (hx : Below (w.alloc (.cells #[.int .i64 ep, .slice A n c] 24)).heap.size (w.alloc (.cells #[.int .i64 ep, .slice A n c] 24)) wx) => refPackM_any ep A n c w.heap.size l wx (HA.out wx hx).1 (HA.out wx hx).2 hn hs)
  have Hl := Lib.hid h.1
  obtain ⟨⟨Z, zz⟩, hz⟩ : ∃ z, packT ep l = z := ⟨_, rfl⟩
  unfold PackPostM at HP1 HP2
  rw [hz] at HP1 HP2
  have HZ := Lib.hid hz
  obtain ⟨b, hb⟩ : ∃ b, s.data.toList = b := ⟨_, rfl⟩
  obtain ⟨⟨ue, ul, uz⟩, hu⟩ : ∃ u, unpackT b = u := ⟨_, rfl⟩
  have HB := Lib.hid hb
  have HU := Lib.hid hu
  unfold maxLen at hsz
  clear h hs hnc hcm hn hz hb hu
  go_enter Try.func7, Try.ntmps7
  go_wp2_with fail
  refine (awake12_any _).mono ?_
  rintro e w1 ⟨rfl, hb1⟩
  have Hb1 := Lib.hid hb1
  obtain ⟨q0, q1, -⟩ := HM.out w1 hb1
  have HL1 := Lib.hid (HLi.out w1 hb1)
  clear hb1 HLi
  go_wp2_with fail
  refine HL1.out.mono ?_
  rintro e w2 ⟨bl, rfl, hbl, hb2⟩
  have Hb2 : Hid (Below (w.alloc (.cells #[.int .i64 ep, .slice A n c] 24)).heap.size (w.alloc (.cells #[.int .i64 ep, .slice A n c] 24)) w2) := Lib.hid (Hb1.out.trans (hb2.mono Hb1.out.size))
  obtain ⟨q0, q1, hbw⟩ := HM.out w2 Hb2.out
  have HW2 := Lib.hid hbw
  have Hbl := Lib.hid hbl
  clear hb2 HL1 hbw hbl
  cases bl with
  | false =>
    go_wp2
    go_ret
    exact ⟨rfl, HW2.out⟩
  | true =>
    by_cases h3 : 3000 < s.size
    · have h3' : (3000 : Int) < (s.size : Int) := by omega
      go_wp2
      go_ret
      exact ⟨rfl, HW2.out⟩
    have h3' : ¬ (3000 : Int) < (s.size : Int) := by omega
    have HL := Lib.hid (Hbl.out rfl)
    have hn50 : n < 50 := by have := HL.out.1; have := Hl.out; omega
    have HUl : Hid (uz = 0 → ul.length ≤ 8 ∧ ∀ p ∈ ul, p.lo.size ≤ maxLen) := Lib.hid fun hz => by
      have h9 := HU.out
      rw [hz] at h9
      obtain ⟨-, -, hr⟩ := check_zero.1 (by
        have h8 := pack_unpack h9
        unfold packT at h8
        by_cases h7 : checkT ue ul = 0
        · exact h7
        · rw [if_neg h7] at h8; exact absurd (show checkT ue ul = 0 from congrArg Prod.snd h8) h7)
      exact ⟨hr.most, fun p hp => Nat.le_trans (small_right hr p hp) (by unfold maxLen; omega)⟩
    have HU1 := Lib.hid (fun wx => unpack_any s wx (by omega))
    have HU2 := Lib.hid (fun wx => refUnpackM_any s wx (by omega))
    rw [HB.out, HU.out] at HU1 HU2
    have HUz : Hid (uz ≠ 0 → ue = 0 ∧ ul = []) := Lib.hid fun hz => unpack_bad HU.out hz
    obtain ⟨N, hN⟩ : ∃ N, ul.length = N := ⟨_, rfl⟩
    have HN := Lib.hid hN
    have hN8 : N ≤ 8 := by
      rw [← hN]
      by_cases hz : uz = 0
      · exact (HUl.out hz).1
      · rw [(HUz.out hz).2]; simp
    have hzz : (zz == zz) = true := by simp
    have huu : (uz == uz) = true := by simp
    have hZZ : ((⟨Z.toArray⟩ : ByteArray).toList == (⟨Z.toArray⟩ : ByteArray).toList) = true := by rw [text_eq]; exact decide_eq_true rfl
    have G1 := Lib.hid (HP1.out w2 Hb2.out)
    clear Hbl hN
    go_wp2_with fail
    refine G1.out.mono ?_
    rintro e w3 ⟨rfl, b3⟩
    have Hb3 : Hid (Below (w.alloc (.cells #[.int .i64 ep, .slice A n c] 24)).heap.size (w.alloc (.cells #[.int .i64 ep, .slice A n c] 24)) w3) := Lib.hid (Hb2.out.trans (b3.mono Hb2.out.size))
    obtain ⟨q0, q1, -⟩ := HM.out w3 Hb3.out
    have G2 := Lib.hid (HP2.out w3 Hb3.out)
    clear G1 b3 HP1 HP2
    go_wp2_with fail
    refine G2.out.mono ?_
    rintro e w4 ⟨rfl, b4⟩
    have Hb4 : Hid (Below (w.alloc (.cells #[.int .i64 ep, .slice A n c] 24)).heap.size (w.alloc (.cells #[.int .i64 ep, .slice A n c] 24)) w4) := Lib.hid (Hb3.out.trans (b4.mono Hb3.out.size))
    clear G2 b4 q0 q1
    go_wp2_with fail
    refine (HU1.out w4).mono ?_
    rintro e w5 ⟨v5, rfl, o5, b5⟩
    obtain ⟨A5, c5, rfl, -, -, x5⟩ := o5.slice
    simp only [HN.out] at x5
    rw [HN.out]
    have X5 := Lib.hid x5
    have Hb5 : Hid (Below (w.alloc (.cells #[.int .i64 ep, .slice A n c] 24)).heap.size (w.alloc (.cells #[.int .i64 ep, .slice A n c] 24)) (w5.alloc (.cells #[.int .i64 ue, .slice A5 N c5] 24))) := Lib.hid ((Hb4.out.trans (b5.mono Hb4.out.size)).alloc (Nat.le_trans Hb4.out.size b5.size) _)
    have B5 := Lib.hid (Box.made w5 24 #[.int .i64 ue, .slice A5 N c5])
    have hal5 := below_box (w := w5) (Obj.cells #[.int .i64 ue, .slice A5 N c5] 24)
    have X5' : Hid (HasPts (w5.alloc (.cells #[.int .i64 ue, .slice A5 N c5] 24)) w5.heap.size A5 N ul) := Lib.hid (X5.out.belowOf hal5 (Nat.le_refl _))
    clear o5 b5 x5 HU1 X5 hal5
    go_wp2_with fail
    refine (HU2.out _).mono ?_
    rintro e w6 ⟨v6, rfl, o6, b6⟩
    obtain ⟨A6, c6, rfl, -, -, x6⟩ := o6.slice
    simp only [HN.out] at x6
    rw [HN.out]
    have b6' := b6.alloc b6.size (.cells #[.int .i64 ue, .slice A6 N c6] 24)
    have Hb6 : Hid (Below (w.alloc (.cells #[.int .i64 ep, .slice A n c] 24)).heap.size (w.alloc (.cells #[.int .i64 ep, .slice A n c] 24)) (w6.alloc (.cells #[.int .i64 ue, .slice A6 N c6] 24))) := Lib.hid (Hb5.out.trans (b6'.mono Hb5.out.size))
    have K6 : Hid (Box (w6.alloc (.cells #[.int .i64 ue, .slice A6 N c6] 24)) w6.heap.size 24 #[.int .i64 ue, .slice A6 N c6] ∧ HasPts (w6.alloc (.cells #[.int .i64 ue, .slice A6 N c6] 24)) w6.heap.size A6 N ul ∧ Box (w6.alloc (.cells #[.int .i64 ue, .slice A6 N c6] 24)) w5.heap.size 24 #[.int .i64 ue, .slice A5 N c5] ∧ HasPts (w6.alloc (.cells #[.int .i64 ue, .slice A6 N c6] 24)) w5.heap.size A5 N ul ∧ w6.heap.size ≤ (w6.alloc (.cells #[.int .i64 ue, .slice A6 N c6] 24)).heap.size ∧ w5.heap.size ≤ (w6.alloc (.cells #[.int .i64 ue, .slice A6 N c6] 24)).heap.size) := Lib.hid
      ⟨Box.made _ _ _, x6.belowOf (below_box _) (Nat.le_refl _), B5.out.below b6' B5.out.lt, X5'.out.belowOf b6' (by simp), by simp, by have := b6'.size; simp only [World.size_alloc] at this ⊢; omega⟩
    clear o6 b6 x6 b6' HU2 B5 X5'
    go_upto_region 9 with fail
    generalize hW6 : (w6.alloc (.cells #[.int .i64 ue, .slice A6 N c6] 24)) = W6 at *
    generalize hg6 : w6.heap.size = gy at *
    generalize hg5 : w5.heap.size = gx at *
    clear hW6 hg6 hg5
    have HK : Hid (∀ wx, Below W6.heap.size W6 wx → (Below (w.alloc (.cells #[.int .i64 ep, .slice A n c] 24)).heap.size (w.alloc (.cells #[.int .i64 ep, .slice A n c] 24)) wx ∧ (wx.cell? ⟨gx, 0, none⟩ = some (.int .i64 ue) ∧ wx.cell? ⟨gx, 1, none⟩ = some (.slice A5 N c5)) ∧ (wx.cell? ⟨gy, 0, none⟩ = some (.int .i64 ue) ∧ wx.cell? ⟨gy, 1, none⟩ = some (.slice A6 N c6)) ∧ HasPts wx gx A5 N ul ∧ HasPts wx gy A6 N ul ∧ gx ≤ wx.heap.size ∧ gy ≤ wx.heap.size)) := Lib.hid fun wx hx => by
      have kx := K6.out.2.2.1.below hx K6.out.2.2.1.lt
      have ky := K6.out.1.below hx K6.out.1.lt
      exact ⟨Hb6.out.trans (hx.mono Hb6.out.size), ⟨kx.cell 0, kx.cell 1⟩, ⟨ky.cell 0, ky.cell 1⟩, K6.out.2.2.2.1.belowOf hx K6.out.2.2.2.2.2, K6.out.2.1.belowOf hx K6.out.2.2.2.2.1, Nat.le_trans K6.out.2.2.2.2.2 hx.size, Nat.le_trans K6.out.2.2.2.2.1 hx.size⟩
    have HSxy := Lib.hid (fun wx (hx : Below W6.heap.size W6 wx) => sameM_any ue A5 A6 N c5 c6 gx gy ul wx (HK.out wx hx).2.2.2.1 (HK.out wx hx).2.2.2.2.1 (HK.out wx hx).2.2.2.2.2.1 (HK.out wx hx).2.2.2.2.2.2 (by unfold maxLen; omega))
    by_cases hz0 : zz = 0
    · subst hz0
      have hck : checkT ep l = 0 ∧ Z = packM ep.toNat l := by
        have h9 := HZ.out
        unfold packT at h9
        by_cases h7 : checkT ep l = 0
        · rw [if_pos h7] at h9; injection h9 with h9 _; exact ⟨h7, h9.symm⟩
        · rw [if_neg h7] at h9; exact absurd (show checkT ep l = 0 from congrArg Prod.snd h9) h7
      have hback : unpackT Z = (ep, l, 0) := by rw [hck.2]; exact unpack_pack hck.1
      have hZl : Z.length ≤ 1000000 := by rw [hck.2]; exact packM_len (by have := (check_zero.1 hck.1).2.1; omega) (check_zero.1 hck.1).2.2
      have HU3 := Lib.hid (unpack_any ⟨Z.toArray⟩ W6 (by show Z.toArray.size ≤ 1000000; simpa using hZl))
      rw [show (⟨Z.toArray⟩ : ByteArray).data.toList = Z from rfl, hback] at HU3
      clear hck hback hZl
      go_wp2_with fail
      refine HU3.out.mono ?_
      rintro e w7 ⟨v7, rfl, o7, b7⟩
      obtain ⟨A7, c7, rfl, -, -, x7⟩ := o7.slice
      simp only [Hl.out] at x7
      simp only [Hl.out]
      have b7' := b7.alloc b7.size (.cells #[.int .i64 ep, .slice A7 n c7] 24)
      have HZ7 := Lib.hid b7'
      have K7 : Hid (Box (w7.alloc (.cells #[.int .i64 ep, .slice A7 n c7] 24)) w7.heap.size 24 #[.int .i64 ep, .slice A7 n c7] ∧ HasPts (w7.alloc (.cells #[.int .i64 ep, .slice A7 n c7] 24)) w7.heap.size A7 n l) := Lib.hid ⟨Box.made _ _ _, x7.belowOf (below_box _) (Nat.le_refl _)⟩
      obtain ⟨q0, q1, -⟩ := HM.out _ (HK.out _ b7').1
      have z0 := K7.out.1.cell 0
      have z1 := K7.out.1.cell 1
      simp at z0 z1
      have HS7 := Lib.hid (sameM_any ep A7 A n c7 c w7.heap.size w.heap.size l _ K7.out.2 (HA.out _ (HK.out _ b7').1).1 (by simp) (HA.out _ (HK.out _ b7').1).2 (by unfold maxLen; omega))
      clear o7 b7 b7' x7 HU3
      go_wp2_with fail
      refine HS7.out.mono ?_
      rintro e w8 ⟨rfl, b8⟩
      have HZ8 := Lib.hid (HZ7.out.trans (b8.mono HZ7.out.size))
      clear b8 HS7 K7 HZ7 q0 q1 z0 z1
      by_cases hu0 : uz = 0
      · subst hu0
        have hpt := pack_unpack HU.out
        have HP3 := Lib.hid (packM_any ue A5 N c5 gx ul w8 (HK.out w8 HZ8.out).2.2.2.1 (HK.out w8 HZ8.out).2.2.2.2.2.1 (by unfold maxLen; omega) (HUl.out rfl).2)
        unfold PackPostM at HP3
        rw [hpt] at HP3
        have hsb : (⟨b.toArray⟩ : ByteArray) = s := bytes_ext (by rw [HB.out])
        simp only [hsb] at HP3
        have hss : (s.toList == s.toList) = true := by rw [text_eq]; exact decide_eq_true rfl
        have hss' : (s.toList != s.toList) = false := by rw [bne, hss]; rfl
        obtain ⟨-, ⟨x0, x1⟩, -⟩ := HK.out w8 HZ8.out
        clear hpt hsb
        go_wp2_with fail
        refine HP3.out.mono ?_
        rintro e wy ⟨rfl, by'⟩
        have HY := Lib.hid ((HZ8.out).trans (by'.mono (HZ8.out).size))
        clear by' HP3
        obtain ⟨-, ⟨x0, x1⟩, ⟨y0, y1⟩, -⟩ := HK.out wy HY.out
        have D9 := Lib.hid (HSxy.out wy HY.out)
        go_wp2_with fail
        refine D9.out.mono ?_
        rintro e w9 ⟨rfl, b9⟩
        have HE := Lib.hid (HM.out w9 ((HK.out wy HY.out).1.trans (b9.mono (HK.out wy HY.out).1.size))).2.2
        clear b9 D9
        go_wp2
        go_ret
        exact ⟨rfl, HE.out⟩
      · have hu1 : (uz == 0) = false := by simpa using hu0
        have hu2 : (uz != 0) = true := by simpa using hu0
        clear hu0
        obtain ⟨-, ⟨x0, x1⟩, ⟨y0, y1⟩, -⟩ := HK.out w8 HZ8.out
        have D9 := Lib.hid (HSxy.out w8 HZ8.out)
        go_wp2_with fail
        refine D9.out.mono ?_
        rintro e w9 ⟨rfl, b9⟩
        have HE := Lib.hid (HM.out w9 ((HK.out w8 HZ8.out).1.trans (b9.mono (HK.out w8 HZ8.out).1.size))).2.2
        clear b9 D9
        go_wp2
        go_ret
        exact ⟨rfl, HE.out⟩
    · have hz1 : (zz == 0) = false := by simpa using hz0
      have hz2 : (zz != 0) = true := by simpa using hz0
      clear hz0
      by_cases hu0 : uz = 0
      · subst hu0
        have hpt := pack_unpack HU.out
        have HP3 := Lib.hid (packM_any ue A5 N c5 gx ul W6 (HK.out W6 (Below.refl W6.heap.size W6)).2.2.2.1 (HK.out W6 (Below.refl W6.heap.size W6)).2.2.2.2.2.1 (by unfold maxLen; omega) (HUl.out rfl).2)
        unfold PackPostM at HP3
        rw [hpt] at HP3
        have hsb : (⟨b.toArray⟩ : ByteArray) = s := bytes_ext (by rw [HB.out])
        simp only [hsb] at HP3
        have hss : (s.toList == s.toList) = true := by rw [text_eq]; exact decide_eq_true rfl
        have hss' : (s.toList != s.toList) = false := by rw [bne, hss]; rfl
        obtain ⟨-, ⟨x0, x1⟩, -⟩ := HK.out W6 (Below.refl W6.heap.size W6)
        clear hpt hsb
        go_wp2_with fail
        refine HP3.out.mono ?_
        rintro e wy ⟨rfl, by'⟩
        have HY := Lib.hid (((Below.refl W6.heap.size W6)).trans (by'.mono ((Below.refl W6.heap.size W6)).size))
        clear by' HP3
        obtain ⟨-, ⟨x0, x1⟩, ⟨y0, y1⟩, -⟩ := HK.out wy HY.out
        have D9 := Lib.hid (HSxy.out wy HY.out)
        go_wp2_with fail
        refine D9.out.mono ?_
        rintro e w9 ⟨rfl, b9⟩
        have HE := Lib.hid (HM.out w9 ((HK.out wy HY.out).1.trans (b9.mono (HK.out wy HY.out).1.size))).2.2
        clear b9 D9
        go_wp2
        go_ret
        exact ⟨rfl, HE.out⟩
      · have hu1 : (uz == 0) = false := by simpa using hu0
        have hu2 : (uz != 0) = true := by simpa using hu0
        clear hu0
        obtain ⟨-, ⟨x0, x1⟩, ⟨y0, y1⟩, -⟩ := HK.out W6 (Below.refl W6.heap.size W6)
        have D9 := Lib.hid (HSxy.out W6 (Below.refl W6.heap.size W6))
        go_wp2_with fail
        refine D9.out.mono ?_
        rintro e w9 ⟨rfl, b9⟩
        have HE := Lib.hid (HM.out w9 ((HK.out W6 (Below.refl W6.heap.size W6)).1.trans (b9.mono (HK.out W6 (Below.refl W6.heap.size W6)).1.size))).2.2
        clear b9 D9
        go_wp2
        go_ret
        exact ⟨rfl, HE.out⟩

namespace lawAtlasPacks
open Go.ChangeShapes Go.WideShapes Go.ChangeAt

theorem own : ownKnob Try.prog.godebug = none := by kernel_rfl
theorem kids : Kids Try.prog (· < Try.prog.types.size) := kids_rows (by kernel_rfl) (by kernel_rfl)
theorem full : ∀ t e, t < Try.prog.types.size → Try.prog.underlying t = some (.slice e) → 0 < Try.prog.cellsOf e := slices_full_of Try.prog (by kernel_rfl)

set_option maxRecDepth 100000 in
theorem lifted (os : Os) (started : os.Started) (H : Type) (enc : TypeId × Value → H) :
    ReturnsInHanded {} Try.checked os 7 .any (Rows.atlasPacksSpec.pre6 enc Try.prog Try.f7 Rows.atlasPacksRow.domain false) (Rows.atlasPacksSpec.post enc Try.prog Try.f7 false true false false) := by
  refine returnsInHanded_of_change (C := Try.checked) own started (by kernel_rfl) Try.func7
    (ChangeSpec.witness6 (enc := enc) (C := Try.checked) false ⟨#[], #[.agg #[.int .i64 0, .slice none 0 0], .string ⟨#[]⟩], []⟩ 8 (by kernel_rfl) (by kernel_rfl) (by kernel_rfl) (by kernel_rfl)) ?_
  intro W base args ds gs before hval0 hW _ _
  have hval : ∀ (j : Nat) t v, Try.f7.params[j]? = some t → args[j]? = some v → Value.okWide Try.prog W .any base t v := hval0
  have hW' := hW
  obtain ⟨p, q, hA0, hV, rfl, _, _⟩ := hW
  obtain ⟨rfl, rfl⟩ := trodVars_none hV
  have hA : DataW.TrodAll enc Try.prog W 0 (fun _ => true) true Try.f7.params.toList args.toList ds p := hA0
  rw [Try.params7] at hA hval
  obtain ⟨v0, vs0, d0, ds0, p0, q0, hargs, rfl, rfl, h0, r0⟩ := trodAll_cons hA
  obtain ⟨v1, vs1, d1, ds1, p1, q1, rfl, rfl, rfl, h1, r1⟩ := trodAll_cons r0
  obtain ⟨rfl, rfl, rfl⟩ := trodAll_nil r1
  obtain rfl : args = #[v0, v1] := by cases args; simp_all
  have hlt := hW'.lt
  obtain ⟨e0, A0, n0, c0, l0, rfl, hnc0, hm0, hb0, hs0⟩ := open_map Try.underlying24 (by kernel_rfl) ⟨rfl, rfl⟩ ⟨by kernel_rfl, by kernel_rfl⟩ ⟨by kernel_rfl, by kernel_rfl⟩ Try.underlying46 (by kernel_rfl) ⟨rfl, rfl⟩ ⟨by kernel_rfl, by kernel_rfl⟩ ⟨by kernel_rfl, by kernel_rfl⟩ (hval 0 24 v0 rfl rfl) h0 (fun x hx => hlt x (by simp [hx]))
  obtain ⟨s1, rfl, _, _, ws1⟩ := Go.ChangeMaps.open_string Try.underlying9 (hval 1 9 v1 rfl rfl) h1
  refine (packs_walk e0 A0 n0 c0 l0 s1 W hb0 hnc0 hm0 hs0 ws1).mono fun e W' ⟨he, hbel⟩ => ?_
  subst he
  exact ⟨_, rfl, law_post kids full (of_decide_eq_true (by kernel_rfl)) Try.underlying4 rfl rfl rfl hW' hbel⟩

theorem proved : Rows.AtlasPacksSaid :=
  OpenClaim.holds_of_wide 7 Try.f7 rfl rfl rfl rfl rfl rfl rfl ⟨rfl, rfl, rfl, rfl, rfl⟩ rfl rfl rfl rfl rfl (by kernel_rfl) Try.func7 (by kernel_rfl)
    (of_decide_eq_true (by kernel_rfl)) (by unfold Func.isWrapper; first | (rw [if_pos (by decide +kernel)]; kernel_rfl) | (rw [if_neg (by decide +kernel)]; exact ⟨rfl, rfl⟩))
    (fun os started H enc _ => lifted os started H enc)
end lawAtlasPacks

end Go.Proofs.Ytefagaiaflddaaa

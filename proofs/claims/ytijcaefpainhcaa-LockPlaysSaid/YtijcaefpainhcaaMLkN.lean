/- The walk of LockPlays: acts on both tables, each with its answers. No condition but the arguments' bounds. -/
import Derived.Test.YtijcaefpainhcaaMLkM
import Derived.Test.YtijcaefpainhcaaOpenRng
import Derived.Test.YtijcaefpainhcaaRow
import Derived.Deep.RegionHeld3
namespace Go.Proofs.Ytijcaefpainhcaa
open Go.RowKit Go.Maps

set_option maxRecDepth 100000 in
set_option maxHeartbeats 12800000 in
theorem plays_walk16 (x : Int) (hx : x ≤ 9223372036854775807) (A : Option Addr) (n c : Nat) (l : List LA) (r : Rg) (s : ByteArray) (w : World) (h : HasLas w w.heap.size A n l) (hn : n ≤ maxLen) (hs : ∀ u ∈ l, LaOk u) (hr : r.lo.size ≤ maxLen ∧ r.hi.size ≤ maxLen) (hss : s.size ≤ maxLen) :
    Calls Try.prog 7 #[.int .i64 x, .slice A n c, ragg r, .string s] w fun e w' => e = .returned (.bool true) ∧ Below w.heap.size w w' := by
  obtain ⟨wa, hwa⟩ : ∃ wa, w.alloc (.cells #[.string r.lo, .string r.hi] 23) = wa := ⟨_, rfl⟩
  have ba : Below w.heap.size w wa := hwa ▸ below_box _
  have xa : Box wa w.heap.size 23 #[.string r.lo, .string r.hi] := hwa ▸ Box.made _ _ _
  have Ha := Lib.hid (And.intro ba xa)
  have H := Lib.hid h
  have Hs := Lib.hid (And.intro hs (And.intro hr hss))
  have hl := h.1
  have HX : Hid (∀ wx, Below wa.heap.size wa wx → (wx.cell? ⟨w.heap.size, 0, none⟩ = some (.string r.lo) ∧ wx.cell? ⟨w.heap.size, 1, none⟩ = some (.string r.hi)) ∧ Below w.heap.size w wx) := Lib.hid fun wx hb => by
    have y := Ha.out.2.below hb Ha.out.2.lt
    exact ⟨⟨y.cell 0, y.cell 1⟩, Ha.out.1.trans (hb.mono Ha.out.1.size)⟩
  have HLi := Lib.hid (fun wx (hb : Below w.heap.size w wx) => light16_any A n c w.heap.size l wx (h.belowOf hb (Nat.le_refl _)) hb.size hn hs)
  have HLr : Hid (∀ wx : World, Calls Try.prog 11 #[.slice (some ⟨wx.heap.size, 0, none⟩) 1 1, .int .i64 1] (wx.alloc (.cells #[.string r.lo, .string r.hi] 23)) (LightPost [r] 1 (wx.alloc (.cells #[.string r.lo, .string r.hi] 23)))) := Lib.hid (fun wx => lightR_any (some ⟨wx.heap.size, 0, none⟩) 1 1 (wx.heap.size + 1) 1 [r] _ (one_lit wx r) (by simp [maxLen]) (fun u hu => by simp at hu; subst hu; exact hr))
  clear h hs hr hss ba xa
  unfold ragg
  go_enter Try.func7, Try.ntmps7
  go_wp2_with fail
  refine (awake16_any _).mono ?_
  rintro e w1 ⟨rfl, b1⟩
  have B1 := Lib.hid b1
  clear b1
  go_wp2_with fail
  refine (HLi.out w1 (HX.out w1 B1.out).2).mono ?_
  rintro e w2 ⟨t, rfl, ht, b2⟩
  have B2 := Lib.hid (B1.out.trans (b2.mono B1.out.size))
  obtain ⟨⟨p0, p1⟩, -⟩ := HX.out w2 B2.out
  have Ht := Lib.hid ht
  clear ht b2
  cases t with
  | false =>
    go_wp2
    go_ret
    exact ⟨rfl, (HX.out w2 B2.out).2⟩
  | true =>
    have HtA := Lib.hid (Ht.out rfl)
    clear Ht
    go_wp2_with fail
    refine (HLr.out w2).mono ?_
    rintro e w3 ⟨t2, rfl, ht2, rfl⟩
    have B3 := Lib.hid (B2.out.alloc B2.out.size (.cells #[.string r.lo, .string r.hi] 23))
    have Ht2 := Lib.hid ht2
    clear ht2
    obtain ⟨w3, hw3⟩ : ∃ w3, w2.alloc (.cells #[.string r.lo, .string r.hi] 23) = w3 := ⟨_, rfl⟩
    rw [hw3] at B3 ⊢
    cases t2 with
    | false =>
      go_wp2
      go_ret
      exact ⟨rfl, (HX.out w3 B3.out).2⟩
    | true =>
      have HtB := Lib.hid (Ht2.out rfl)
      clear Ht2
      by_cases hsz : 200 < s.size
      · have hsz2 : decide ((200 : Int) < (s.size : Int)) = true := decide_eq_true (by omega)
        go_wp2
        go_ret
        exact ⟨rfl, (HX.out w3 B3.out).2⟩
      · have hsz2 : decide ((200 : Int) < (s.size : Int)) = false := decide_eq_false (by omega)
        have HA := Lib.hid (And.intro HtA.out (HtB.out.2 r (by simp)))
        clear HtA HtB
        go_wp2_with fail
        refine (lockNew_any x w3).mono ?_
        obtain ⟨y, hy⟩ : ∃ y, (if x < 1 then 1 else x) = y := ⟨_, rfl⟩
        rw [hy]
        have HY : Hid (1 ≤ y ∧ y ≤ 9223372036854775807) := Lib.hid (by rw [← hy]; split <;> omega)
        have Hy := Lib.hid hy
        rintro e w4 ⟨sb, mb, rfl, h4, b4⟩
        have H4 := Lib.hid (And.intro h4 b4)
        clear h4 b4 hy
        go_wp2_with fail
        refine (refNew16_any x w4).mono ?_
        rw [Hy.out]
        rintro e w5 ⟨rb, rfl, h5, b5⟩
        have hw3 : w.heap.size ≤ w3.heap.size := (HX.out w3 B3.out).2.size
        have H5 : Hid (PL w w3 w5 w3.heap.size sb mb rb y 0 []) := Lib.hid (pl_new H4.out.1 H4.out.2 h5 b5 (HX.out w3 B3.out).2)
        clear h5 b5 H4
        go_wp2
        go_loopw [11] (fun iv wr => ∃ k : Nat, k ≤ n ∧ iv = .int .i64 (k : Int) ∧ ∃ E, Hid (PL w w3 wr w3.heap.size sb mb rb y k E)) (fun iv _ => n - (intOf iv).toNat)
        case atStart => exact ⟨0, by omega, rfl, _, H5⟩
        case round =>
          obtain ⟨k, hk, rfl, E, HL⟩ := hrel
          by_cases hlt : k < n
          · obtain ⟨a, u, rfl, hab, hy, c0, c1, c2, c3⟩ := (H.out.belowOf HL.out.low.1 (Nat.le_refl _)).at_ hlt
            have hu := List.mem_of_getElem? hy
            have Hu := Lib.hid (And.intro (Hs.out.1 u hu) (HA.out.1.2 u hu))
            have hk0 : (0 : Int) ≤ (k : Int) := by omega
            have hk1 : (k : Int) < (n : Int) := by omega
            have hkN : k ≤ 9000 := by have := HA.out.1.1; omega
            have hk1N : k + 1 ≤ 9000 := by have := HA.out.1.1; omega
            have Hlt := Lib.hid hlt
            have hwf := wf_of Hu.out.1.1
            have HS : Hid (∀ wx, Below w3.heap.size w3 wx → (wx.cell? ⟨w.heap.size, 0, none⟩ = some (.string r.lo) ∧ wx.cell? ⟨w.heap.size, 1, none⟩ = some (.string r.hi)) ∧ wx.cell? (a.add (k * 4)) = some (.int .i64 u.kind) ∧ wx.cell? ⟨(a.add (k * 4)).block, (a.add (k * 4)).off + 1, none⟩ = some (.int .i64 u.id) ∧ wx.cell? ⟨(a.add (k * 4)).block, (a.add (k * 4)).off + 2, none⟩ = some (.string u.r.lo) ∧ wx.cell? ⟨(a.add (k * 4)).block, (a.add (k * 4)).off + 3, none⟩ = some (.string u.r.hi)) := Lib.hid fun wx hx => by
              have hb : (a.add (k * 4)).block < w.heap.size := by rw [addr_block]; exact hab
              have hcell : ∀ p : Addr, p.block < w.heap.size → wx.cell? p = wr.cell? p := fun p hp => (((HX.out w3 B3.out).2.trans (hx.mono hw3)).cell hp).trans (HL.out.low.1.cell hp).symm
              exact ⟨(HX.out wx (B3.out.trans (hx.mono B3.out.size))).1, (hcell (a.add (k * 4)) hb).trans c0, (hcell ⟨(a.add (k * 4)).block, (a.add (k * 4)).off + 1, none⟩ hb).trans c1, (hcell ⟨(a.add (k * 4)).block, (a.add (k * 4)).off + 2, none⟩ hb).trans c2, (hcell ⟨(a.add (k * 4)).block, (a.add (k * 4)).off + 3, none⟩ hb).trans c3⟩
            have HDo := Lib.hid (fun wx (hb : Below wr.heap.size wr wx) => pl_do (HL.out.below (Nat.le_refl _) hw3 hb) (Nat.le_refl _) hw3 HY.out hkN u Hu.out.1 Hu.out.2)
            obtain ⟨E2, hE2⟩ : ∃ E2, stepT y u E = E2 := ⟨_, rfl⟩
            rw [hE2] at HDo
            obtain ⟨bl, hbl⟩ : ∃ b, blocksB s.data.toList E2 = b := ⟨_, rfl⟩
            obtain ⟨hd, hhd⟩ : ∃ b, holdsB u.id r E2 = b := ⟨_, rfl⟩
            obtain ⟨RG, hRG⟩ : ∃ L, rangesT u.id E2 = L := ⟨_, rfl⟩
            have HB1 := Lib.hid (fun wx (hx : PL w w3 wx w3.heap.size sb mb rb y (k + 1) E2) => pl_blocks hx hk1N s)
            have HB2 := Lib.hid (fun wx (hx : PL w w3 wx w3.heap.size sb mb rb y (k + 1) E2) => pl_rblocks hx hk1N s)
            have HH1 := Lib.hid (fun wx (hx : PL w w3 wx w3.heap.size sb mb rb y (k + 1) E2) => pl_holds hx hk1N u.id hwf r HA.out.2)
            have HH2 := Lib.hid (fun wx (hx : PL w w3 wx w3.heap.size sb mb rb y (k + 1) E2) => pl_rholds hx hk1N u.id r)
            have HR1 := Lib.hid (fun wx (hx : PL w w3 wx w3.heap.size sb mb rb y (k + 1) E2) => pl_ranges hx hk1N u.id hwf)
            have HR2 := Lib.hid (fun wx (hx : PL w w3 wx w3.heap.size sb mb rb y (k + 1) E2) => pl_rranges hx hk1N u.id)
            have HFw : Hid (∀ wx, PL w w3 wx w3.heap.size sb mb rb y (k + 1) E2 → E2.length ≤ k + 1 ∧ RG.length ≤ k + 1) := Lib.hid fun wx hx => by
              have := pl_few hx u.id
              rwa [hRG] at this
            have HLe : Hid ((E2.map (·.n)).length = E2.length) := Lib.hid (by simp)
            rw [hbl] at HB1 HB2
            rw [hhd] at HH1 HH2
            rw [hRG] at HR1 HR2
            obtain ⟨q0, q1⟩ := (HS.out wr HL.out.low.2).1
            unfold ragg at HH1 HH2
            clear hu hy hab hE2 hbl hhd hRG H5
            cases bl <;> cases hd
            all_goals
              go_wp2
              go_region_held3 (fun wx => (wx.cell? ⟨w.heap.size, 0, none⟩ = some (.string r.lo) ∧ wx.cell? ⟨w.heap.size, 1, none⟩ = some (.string r.hi)) ∧ wx.cell? (a.add (k * 4)) = some (.int .i64 u.kind) ∧ wx.cell? ⟨(a.add (k * 4)).block, (a.add (k * 4)).off + 1, none⟩ = some (.int .i64 u.id) ∧ wx.cell? ⟨(a.add (k * 4)).block, (a.add (k * 4)).off + 2, none⟩ = some (.string u.r.lo) ∧ wx.cell? ⟨(a.add (k * 4)).block, (a.add (k * 4)).off + 3, none⟩ = some (.string u.r.hi))
                (first | exact ⟨⟨q0, q1⟩, c0, c1, c2, c3⟩ | exact S18.out | exact S16.out | exact S15.out | exact S14.out | exact S12.out | exact S11.out | exact S10.out | exact S9.out | exact S8.out | exact S7.out | exact S6.out | exact HS.out _ (HL.out.below (Nat.le_refl _) hw3 (Below.refl _ wr).drew).low.2)
                (first
                  | (go_at_call 29; refine (HDo.out _ (Below.refl _ wr).drew).mono ?_; rintro e6 w6 ⟨rfl, p6⟩; have P6 := Lib.hid p6; have S6 := Lib.hid (HS.out _ p6.low.2))
                  | (go_at_call 30; refine (HB1.out _ P6.out).mono ?_; rintro e7 w7 ⟨rfl, b7⟩; have P7 := Lib.hid (P6.out.below (Nat.le_refl _) hw3 b7); have S7 := Lib.hid (HS.out _ P7.out.low.2))
                  | (go_at_call 31; refine (HB2.out _ P7.out).mono ?_; rintro e8 w8 ⟨rfl, b8⟩; have P8 := Lib.hid (P7.out.below (Nat.le_refl _) hw3 b8); have S8 := Lib.hid (HS.out _ P8.out.low.2))
                  | (go_at_call 32; refine (HH1.out _ P8.out).mono ?_; rintro e9 w9 ⟨rfl, b9⟩; have P9 := Lib.hid (P8.out.below (Nat.le_refl _) hw3 b9); have S9 := Lib.hid (HS.out _ P9.out.low.2))
                  | (go_at_call 33; refine (HH2.out _ P9.out).mono ?_; rintro e10 w10 ⟨rfl, b10⟩; have P10 := Lib.hid (P9.out.below (Nat.le_refl _) hw3 b10); have S10 := Lib.hid (HS.out _ P10.out.low.2))
                  | (go_at_call 35; refine (pl_ids P10.out hk1N).mono ?_; rintro e11 w11 ⟨v11, rfl, o11, b11⟩; have P11 := Lib.hid (P10.out.below (Nat.le_refl _) hw3 b11); have S11 := Lib.hid (HS.out _ P11.out.low.2); obtain ⟨A11, c11, rfl, -⟩ := own_sliceN o11)
                  | (go_at_call 36; refine (pl_rids P11.out hk1N).mono ?_; rintro e12 w12 ⟨v12, rfl, o12, b12⟩; have P12 := Lib.hid (P11.out.below (Nat.le_refl _) hw3 b12); have S12 := Lib.hid (HS.out _ P12.out.low.2); obtain ⟨A12, c12, rfl, -⟩ := own_sliceN o12; have o13 := own_belowN o11 b12)
                  | (go_at_call 34; refine (same_ints o13 o12 HLe.out (by have := (HFw.out _ P12.out).1; omega)).mono ?_; rintro e14 w14 ⟨rfl, b14⟩; have P14 := Lib.hid (P12.out.below (Nat.le_refl _) hw3 b14); have S14 := Lib.hid (HS.out _ P14.out.low.2))
                  | (go_at_call 37; refine (HR1.out _ P14.out).mono ?_; rintro e15 w15 ⟨A15, c15, rfl, o15, b15⟩; have P15 := Lib.hid (P14.out.below (Nat.le_refl _) hw3 b15); have S15 := Lib.hid (HS.out _ P15.out.low.2))
                  | (go_at_call 38; refine (HR2.out _ P15.out).mono ?_; rintro e16 w16 ⟨A16, c16, rfl, o16, b16⟩; have P16 := Lib.hid (P15.out.below (Nat.le_refl _) hw3 b16); have S16 := Lib.hid (HS.out _ P16.out.low.2); have o17 := (o15.belowOf b16 (Nat.le_refl _)).more b16.size)
                  | (go_at_call 18; refine (same_true o17 o16 (by have := (HFw.out _ P16.out).2; omega) (by have := (HFw.out _ P16.out).2; omega)).mono ?_; rintro e18 w18 ⟨rfl, b18⟩; have P18 := Lib.hid (P16.out.below (Nat.le_refl _) hw3 b18); have S18 := Lib.hid (HS.out _ P18.out.low.2)))
              have HE := P18
              clear S6 S7 S8 S9 S10 S11 S12 S14 S15 S16 S18 P6 P7 P8 P9 P10 P11 P12 P14 P15 P16 P18 p6 b7 b8 b9 b10 o11 b11 o12 o13 b12 b14 o15 b15 o16 o17 b16 b18 c0 c1 c2 c3
              go_wp2
              go_roundw
              case rel => exact ⟨k + 1, by have := Hlt.out; omega, by go_num, _, HE⟩
              case measure => simp [intOf]; have := Hlt.out; omega
          · obtain rfl : k = n := by omega
            go_wp2
            go_ret
            exact ⟨rfl, HL.out.low.1⟩
end Go.Proofs.Ytijcaefpainhcaa

/- The law RecordOrder: for every input it returns true and leaves what it was given. No condition. -/
import Derived.Test.YtojponcnilahiaaRecJ
import Derived.Test.YtojponcnilahiaaTupJ
import Derived.Test.YtojponcnilahiaaOpenRec
namespace Go.Proofs.Ytojponcnilahiaa
open Go.RowKit
open Go.Lib (strCells compareBytes)

theorem less_of_cmp {a b : ByteArray} {z : Int} (h : compareBytes a.data.toList b.data.toList = z) : Op.bytesLess a.toList b.toList = decide (z = -1) ∧ (a.toList == b.toList) = decide (z = 0) := by
  constructor
  · rw [Lib.toList_data, Lib.toList_data, bytesLess_cmp, h]
  · rw [eq_toList]
    by_cases hz : z = 0
    · rw [decide_eq_true hz]
      exact decide_eq_true (cmpB_zero (h.trans hz))
    · rw [decide_eq_false hz]
      refine decide_eq_false fun e => hz ?_
      rw [← h, e, cmpB_self]

set_option maxHeartbeats 3200000 in
theorem recordOrder_walk (i j : Int) (A0 A1 : Option Addr) (n0 n1 c0 c1 : Nat) (a b : List TVal) (k0 k1 : ByteArray) (w : World) (h0 : HasVals w w.heap.size A0 n0 a) (h1 : HasVals w w.heap.size A1 n1 b)
    (hn0 : n0 ≤ maxLen) (hn1 : n1 ≤ maxLen) (hi0 : ∀ u ∈ a, InI64 u.n) (hi1 : ∀ u ∈ b, InI64 u.n)
    (hs0 : ∀ u ∈ a, u.s.size ≤ maxLen) (hs1 : ∀ u ∈ b, u.s.size ≤ maxLen) :
    Calls Try.prog 6 #[.agg #[.int .i64 i, .int .i64 j], .slice A0 n0 c0, .slice A1 n1 c1, .agg #[.string k0, .string k1]] w fun e w' => e = .returned (.bool true) ∧ Below w.heap.size w w' := by
  have H0 := Lib.hid h0
  have H1 := Lib.hid h1
  have L01 := Lib.hid (fun wx (hb : Below w.heap.size w wx) => lights_any A0 A1 n0 n1 c0 c1 _ a b wx (H0.out.below hb) (H1.out.below hb) hn0 hn1 hs0 hs1)
  have Ke := Lib.hid (fun wx (hb : Below w.heap.size w wx) => entry_any i A0 n0 c0 _ a k0 wx (H0.out.below hb) hn0 hb.size hi0)
  have Kf := Lib.hid (fun wx (hb : Below w.heap.size w wx) => entry_any j A1 n1 c1 _ b k1 wx (H1.out.below hb) hn1 hb.size hi1)
  have Kc := Lib.hid (fun wx (hb : Below w.heap.size w wx) => refCompare_any A0 A1 n0 n1 c0 c1 _ a b wx (H0.out.below hb) (H1.out.below hb) hn0 hn1 hb.size)
  have Hcmp : Hid (entryErr i a k0.data.toList = 0 → entryErr j b k1.data.toList = 0 → compareBytes (entryT i a k0.data.toList) (entryT j b k1.data.toList) = if i < j then -1 else if j < i then 1 else if cmpRow a b = 0 then compareBytes k0.data.toList k1.data.toList else cmpRow a b) := Lib.hid fun he hf => entry_cmp he hf hi0 hi1
  clear h0 h1 hi0 hi1 hs0 hs1
  obtain ⟨st, hst⟩ : ∃ st : ByteArray, ⟨(entryT i a k0.data.toList).toArray⟩ = st := ⟨_, rfl⟩
  obtain ⟨tt, htt⟩ : ∃ tt : ByteArray, ⟨(entryT j b k1.data.toList).toArray⟩ = tt := ⟨_, rfl⟩
  have Hst : Hid (st.data.toList = entryT i a k0.data.toList) := Lib.hid (by rw [← hst])
  have Htt : Hid (tt.data.toList = entryT j b k1.data.toList) := Lib.hid (by rw [← htt])
  simp only [textErr] at Ke Kf
  rw [hst] at Ke
  rw [htt] at Kf
  clear hst htt
  obtain ⟨g, hg⟩ : ∃ g, w.heap.size = g := ⟨_, rfl⟩
  obtain ⟨w0, hw0⟩ : ∃ w0, (w.alloc (.cells #[.int .i64 i, .int .i64 j] 44)).alloc (.cells #[.string k0, .string k1] 45) = w0 := ⟨_, rfl⟩
  have Hb0 : Hid (Below w.heap.size w w0) := Lib.hid (by rw [← hw0]; exact (below_box _).alloc (by simp) _)
  have Hbx : Hid (∀ wx, Below w0.heap.size w0 wx → wx.cell? ⟨w.heap.size, 0, none⟩ = some (.int .i64 i) ∧ wx.cell? ⟨w.heap.size, 1, none⟩ = some (.int .i64 j) ∧ wx.cell? ⟨w.heap.size + 1, 0, none⟩ = some (.string k0) ∧ wx.cell? ⟨w.heap.size + 1, 1, none⟩ = some (.string k1)) := Lib.hid fun wx hb => by
    subst hw0
    have e1 := Box.below ((Box.made w 44 #[.int .i64 i, .int .i64 j]).alloc (.cells #[.string k0, .string k1] 45)) hb (by simp; omega)
    have e2 := Box.below (Box.made (w.alloc (.cells #[.int .i64 i, .int .i64 j] 44)) 45 #[.string k0, .string k1]) hb (by simp)
    have hz : (w.alloc (.cells #[.int .i64 i, .int .i64 j] 44)).heap.size = w.heap.size + 1 := by simp
    rw [hz] at e2
    exact ⟨e1.cell 0, e1.cell 1, e2.cell 0, e2.cell 1⟩
  clear hg g
  obtain ⟨q0, q1, q2, q3⟩ := Hbx.out w0 (Below.refl _ _)
  by_cases he : entryErr i a k0.data.toList = 0
  · by_cases hf : entryErr j b k1.data.toList = 0
    · have hc := Hcmp.out he hf
      rw [← Hst.out, ← Htt.out] at hc
      have hcr := cmpT_row (entryErr_ok he).2 (entryErr_ok hf).2
      rw [hcr] at Kc
      rw [he] at Ke
      rw [hf] at Kf
      clear he hf hcr Hcmp
      rcases Int.lt_trichotomy i j with hij | hij | hij
      · rw [if_pos hij] at hc
        obtain ⟨hl, hq⟩ := less_of_cmp hc
        have hl' : Op.bytesLess st.toList tt.toList = true := hl
        have hq' : (st.toList == tt.toList) = false := hq
        have hne : (i == j) = false := by simp; omega
        clear hc hl hq
        go_enter Try.func6, Try.ntmps6
        go_wp2_with fail
        refine (awake4_any _).mono ?_
        rintro e w1 ⟨rfl, hb1⟩
        have Hb01 := Lib.hid hb1
        have Hb1 := Lib.hid (Hb0.out.trans (hb1.mono Hb0.out.size))
        obtain ⟨p0, p1, p2, p3⟩ := Hbx.out w1 hb1
        clear hb1 hw0
        go_wp2_with fail
        refine (L01.out w1 Hb1.out).mono ?_
        rintro e w2 ⟨b, rfl, -, rfl⟩
        cases b with
        | false =>
          go_wp2
          go_ret
          exact ⟨rfl, Hb1.out⟩
        | true =>
          by_cases hk0 : 1000 < k0.size
          · have hkd : decide (1000 < k0.size) = true := decide_eq_true hk0
            go_wp2
            go_ret
            exact ⟨rfl, Hb1.out⟩
          · by_cases hk1 : 1000 < k1.size
            · have hkd : decide (1000 < k1.size) = true := decide_eq_true hk1
              go_wp2
              go_ret
              exact ⟨rfl, Hb1.out⟩
            · go_wp2_with fail
              refine (Ke.out w1 Hb1.out).mono ?_
              rintro e w2 ⟨rfl, hb2⟩
              have Hb02 := Lib.hid (Hb01.out.trans (hb2.mono Hb01.out.size))
              have Hb2 := Lib.hid (Hb1.out.trans (hb2.mono Hb1.out.size))
              clear hb2 p0 p1 p2 p3
              obtain ⟨p0, p1, p2, p3⟩ := Hbx.out w2 Hb02.out
              go_wp2_with fail
              refine (Kf.out w2 Hb2.out).mono ?_
              rintro e w3 ⟨rfl, hb3⟩
              have Hb03 := Lib.hid (Hb02.out.trans (hb3.mono Hb02.out.size))
              have Hb3 := Lib.hid (Hb2.out.trans (hb3.mono Hb2.out.size))
              clear hb3 p0 p1 p2 p3
              go_wp2_with fail
              refine (Kc.out w3 Hb3.out).mono ?_
              rintro e w4 ⟨rfl, hb4⟩
              have Hb04 := Lib.hid (Hb03.out.trans (hb4.mono Hb03.out.size))
              have Hb4 := Lib.hid (Hb3.out.trans (hb4.mono Hb3.out.size))
              clear hb4
              obtain ⟨p0, p1, p2, p3⟩ := Hbx.out w4 Hb04.out
              go_wp2
              go_ret
              exact ⟨by simp, Hb4.out⟩
      · subst hij
        rw [if_neg (by omega), if_neg (by omega)] at hc
        have hll : decide (i < i) = false := decide_eq_false (by omega)
        rcases cmpRow_cases a b with hr | hr | hr
        · rw [hr] at Kc
          rw [if_neg (by omega), hr] at hc
          obtain ⟨hl, hq⟩ := less_of_cmp hc
          have hl' : Op.bytesLess st.toList tt.toList = true := hl
          have hq' : (st.toList == tt.toList) = false := hq
          clear hc hl hq hr
          go_enter Try.func6, Try.ntmps6
          go_wp2_with fail
          refine (awake4_any _).mono ?_
          rintro e w1 ⟨rfl, hb1⟩
          have Hb01 := Lib.hid hb1
          have Hb1 := Lib.hid (Hb0.out.trans (hb1.mono Hb0.out.size))
          obtain ⟨p0, p1, p2, p3⟩ := Hbx.out w1 hb1
          clear hb1 hw0
          go_wp2_with fail
          refine (L01.out w1 Hb1.out).mono ?_
          rintro e w2 ⟨b, rfl, -, rfl⟩
          cases b with
          | false =>
            go_wp2
            go_ret
            exact ⟨rfl, Hb1.out⟩
          | true =>
            by_cases hk0 : 1000 < k0.size
            · have hkd : decide (1000 < k0.size) = true := decide_eq_true hk0
              go_wp2
              go_ret
              exact ⟨rfl, Hb1.out⟩
            · by_cases hk1 : 1000 < k1.size
              · have hkd : decide (1000 < k1.size) = true := decide_eq_true hk1
                go_wp2
                go_ret
                exact ⟨rfl, Hb1.out⟩
              · go_wp2_with fail
                refine (Ke.out w1 Hb1.out).mono ?_
                rintro e w2 ⟨rfl, hb2⟩
                have Hb02 := Lib.hid (Hb01.out.trans (hb2.mono Hb01.out.size))
                have Hb2 := Lib.hid (Hb1.out.trans (hb2.mono Hb1.out.size))
                clear hb2 p0 p1 p2 p3
                obtain ⟨p0, p1, p2, p3⟩ := Hbx.out w2 Hb02.out
                go_wp2_with fail
                refine (Kf.out w2 Hb2.out).mono ?_
                rintro e w3 ⟨rfl, hb3⟩
                have Hb03 := Lib.hid (Hb02.out.trans (hb3.mono Hb02.out.size))
                have Hb3 := Lib.hid (Hb2.out.trans (hb3.mono Hb2.out.size))
                clear hb3 p0 p1 p2 p3
                go_wp2_with fail
                refine (Kc.out w3 Hb3.out).mono ?_
                rintro e w4 ⟨rfl, hb4⟩
                have Hb04 := Lib.hid (Hb03.out.trans (hb4.mono Hb03.out.size))
                have Hb4 := Lib.hid (Hb3.out.trans (hb4.mono Hb3.out.size))
                clear hb4
                obtain ⟨p0, p1, p2, p3⟩ := Hbx.out w4 Hb04.out
                go_wp2
                go_ret
                exact ⟨by simp, Hb4.out⟩
        · rw [hr] at Kc
          rw [if_pos hr] at hc
          obtain ⟨z, hz⟩ : ∃ z, compareBytes k0.data.toList k1.data.toList = z := ⟨_, rfl⟩
          have hzc := cmpB_cases k0.data.toList k1.data.toList
          rw [hz] at hc hzc
          obtain ⟨hl, hq⟩ := less_of_cmp hc
          obtain ⟨ml, mq⟩ := less_of_cmp hz
          clear hc hz hr
          rcases hzc with rfl | rfl | rfl
          · have hl' : Op.bytesLess st.toList tt.toList = true := hl
            have hq' : (st.toList == tt.toList) = false := hq
            have ml' : Op.bytesLess k0.toList k1.toList = true := ml
            have mq' : (k0.toList == k1.toList) = false := mq
            clear hl hq ml mq
            go_enter Try.func6, Try.ntmps6
            go_wp2_with fail
            refine (awake4_any _).mono ?_
            rintro e w1 ⟨rfl, hb1⟩
            have Hb01 := Lib.hid hb1
            have Hb1 := Lib.hid (Hb0.out.trans (hb1.mono Hb0.out.size))
            obtain ⟨p0, p1, p2, p3⟩ := Hbx.out w1 hb1
            clear hb1 hw0
            go_wp2_with fail
            refine (L01.out w1 Hb1.out).mono ?_
            rintro e w2 ⟨b, rfl, -, rfl⟩
            cases b with
            | false =>
              go_wp2
              go_ret
              exact ⟨rfl, Hb1.out⟩
            | true =>
              by_cases hk0 : 1000 < k0.size
              · have hkd : decide (1000 < k0.size) = true := decide_eq_true hk0
                go_wp2
                go_ret
                exact ⟨rfl, Hb1.out⟩
              · by_cases hk1 : 1000 < k1.size
                · have hkd : decide (1000 < k1.size) = true := decide_eq_true hk1
                  go_wp2
                  go_ret
                  exact ⟨rfl, Hb1.out⟩
                · go_wp2_with fail
                  refine (Ke.out w1 Hb1.out).mono ?_
                  rintro e w2 ⟨rfl, hb2⟩
                  have Hb02 := Lib.hid (Hb01.out.trans (hb2.mono Hb01.out.size))
                  have Hb2 := Lib.hid (Hb1.out.trans (hb2.mono Hb1.out.size))
                  clear hb2 p0 p1 p2 p3
                  obtain ⟨p0, p1, p2, p3⟩ := Hbx.out w2 Hb02.out
                  go_wp2_with fail
                  refine (Kf.out w2 Hb2.out).mono ?_
                  rintro e w3 ⟨rfl, hb3⟩
                  have Hb03 := Lib.hid (Hb02.out.trans (hb3.mono Hb02.out.size))
                  have Hb3 := Lib.hid (Hb2.out.trans (hb3.mono Hb2.out.size))
                  clear hb3 p0 p1 p2 p3
                  go_wp2_with fail
                  refine (Kc.out w3 Hb3.out).mono ?_
                  rintro e w4 ⟨rfl, hb4⟩
                  have Hb04 := Lib.hid (Hb03.out.trans (hb4.mono Hb03.out.size))
                  have Hb4 := Lib.hid (Hb3.out.trans (hb4.mono Hb3.out.size))
                  clear hb4
                  obtain ⟨p0, p1, p2, p3⟩ := Hbx.out w4 Hb04.out
                  go_wp2
                  go_ret
                  exact ⟨by simp, Hb4.out⟩
          · have hl' : Op.bytesLess st.toList tt.toList = false := hl
            have hq' : (st.toList == tt.toList) = true := hq
            have ml' : Op.bytesLess k0.toList k1.toList = false := ml
            have mq' : (k0.toList == k1.toList) = true := mq
            clear hl hq ml mq
            go_enter Try.func6, Try.ntmps6
            go_wp2_with fail
            refine (awake4_any _).mono ?_
            rintro e w1 ⟨rfl, hb1⟩
            have Hb01 := Lib.hid hb1
            have Hb1 := Lib.hid (Hb0.out.trans (hb1.mono Hb0.out.size))
            obtain ⟨p0, p1, p2, p3⟩ := Hbx.out w1 hb1
            clear hb1 hw0
            go_wp2_with fail
            refine (L01.out w1 Hb1.out).mono ?_
            rintro e w2 ⟨b, rfl, -, rfl⟩
            cases b with
            | false =>
              go_wp2
              go_ret
              exact ⟨rfl, Hb1.out⟩
            | true =>
              by_cases hk0 : 1000 < k0.size
              · have hkd : decide (1000 < k0.size) = true := decide_eq_true hk0
                go_wp2
                go_ret
                exact ⟨rfl, Hb1.out⟩
              · by_cases hk1 : 1000 < k1.size
                · have hkd : decide (1000 < k1.size) = true := decide_eq_true hk1
                  go_wp2
                  go_ret
                  exact ⟨rfl, Hb1.out⟩
                · go_wp2_with fail
                  refine (Ke.out w1 Hb1.out).mono ?_
                  rintro e w2 ⟨rfl, hb2⟩
                  have Hb02 := Lib.hid (Hb01.out.trans (hb2.mono Hb01.out.size))
                  have Hb2 := Lib.hid (Hb1.out.trans (hb2.mono Hb1.out.size))
                  clear hb2 p0 p1 p2 p3
                  obtain ⟨p0, p1, p2, p3⟩ := Hbx.out w2 Hb02.out
                  go_wp2_with fail
                  refine (Kf.out w2 Hb2.out).mono ?_
                  rintro e w3 ⟨rfl, hb3⟩
                  have Hb03 := Lib.hid (Hb02.out.trans (hb3.mono Hb02.out.size))
                  have Hb3 := Lib.hid (Hb2.out.trans (hb3.mono Hb2.out.size))
                  clear hb3 p0 p1 p2 p3
                  go_wp2_with fail
                  refine (Kc.out w3 Hb3.out).mono ?_
                  rintro e w4 ⟨rfl, hb4⟩
                  have Hb04 := Lib.hid (Hb03.out.trans (hb4.mono Hb03.out.size))
                  have Hb4 := Lib.hid (Hb3.out.trans (hb4.mono Hb3.out.size))
                  clear hb4
                  obtain ⟨p0, p1, p2, p3⟩ := Hbx.out w4 Hb04.out
                  go_wp2
                  go_ret
                  exact ⟨by simp, Hb4.out⟩
          · have hl' : Op.bytesLess st.toList tt.toList = false := hl
            have hq' : (st.toList == tt.toList) = false := hq
            have ml' : Op.bytesLess k0.toList k1.toList = false := ml
            have mq' : (k0.toList == k1.toList) = false := mq
            clear hl hq ml mq
            go_enter Try.func6, Try.ntmps6
            go_wp2_with fail
            refine (awake4_any _).mono ?_
            rintro e w1 ⟨rfl, hb1⟩
            have Hb01 := Lib.hid hb1
            have Hb1 := Lib.hid (Hb0.out.trans (hb1.mono Hb0.out.size))
            obtain ⟨p0, p1, p2, p3⟩ := Hbx.out w1 hb1
            clear hb1 hw0
            go_wp2_with fail
            refine (L01.out w1 Hb1.out).mono ?_
            rintro e w2 ⟨b, rfl, -, rfl⟩
            cases b with
            | false =>
              go_wp2
              go_ret
              exact ⟨rfl, Hb1.out⟩
            | true =>
              by_cases hk0 : 1000 < k0.size
              · have hkd : decide (1000 < k0.size) = true := decide_eq_true hk0
                go_wp2
                go_ret
                exact ⟨rfl, Hb1.out⟩
              · by_cases hk1 : 1000 < k1.size
                · have hkd : decide (1000 < k1.size) = true := decide_eq_true hk1
                  go_wp2
                  go_ret
                  exact ⟨rfl, Hb1.out⟩
                · go_wp2_with fail
                  refine (Ke.out w1 Hb1.out).mono ?_
                  rintro e w2 ⟨rfl, hb2⟩
                  have Hb02 := Lib.hid (Hb01.out.trans (hb2.mono Hb01.out.size))
                  have Hb2 := Lib.hid (Hb1.out.trans (hb2.mono Hb1.out.size))
                  clear hb2 p0 p1 p2 p3
                  obtain ⟨p0, p1, p2, p3⟩ := Hbx.out w2 Hb02.out
                  go_wp2_with fail
                  refine (Kf.out w2 Hb2.out).mono ?_
                  rintro e w3 ⟨rfl, hb3⟩
                  have Hb03 := Lib.hid (Hb02.out.trans (hb3.mono Hb02.out.size))
                  have Hb3 := Lib.hid (Hb2.out.trans (hb3.mono Hb2.out.size))
                  clear hb3 p0 p1 p2 p3
                  go_wp2_with fail
                  refine (Kc.out w3 Hb3.out).mono ?_
                  rintro e w4 ⟨rfl, hb4⟩
                  have Hb04 := Lib.hid (Hb03.out.trans (hb4.mono Hb03.out.size))
                  have Hb4 := Lib.hid (Hb3.out.trans (hb4.mono Hb3.out.size))
                  clear hb4
                  obtain ⟨p0, p1, p2, p3⟩ := Hbx.out w4 Hb04.out
                  go_wp2
                  go_ret
                  exact ⟨by simp, Hb4.out⟩
        · rw [hr] at Kc
          rw [if_neg (by omega), hr] at hc
          obtain ⟨hl, hq⟩ := less_of_cmp hc
          have hl' : Op.bytesLess st.toList tt.toList = false := hl
          have hq' : (st.toList == tt.toList) = false := hq
          clear hc hl hq hr
          go_enter Try.func6, Try.ntmps6
          go_wp2_with fail
          refine (awake4_any _).mono ?_
          rintro e w1 ⟨rfl, hb1⟩
          have Hb01 := Lib.hid hb1
          have Hb1 := Lib.hid (Hb0.out.trans (hb1.mono Hb0.out.size))
          obtain ⟨p0, p1, p2, p3⟩ := Hbx.out w1 hb1
          clear hb1 hw0
          go_wp2_with fail
          refine (L01.out w1 Hb1.out).mono ?_
          rintro e w2 ⟨b, rfl, -, rfl⟩
          cases b with
          | false =>
            go_wp2
            go_ret
            exact ⟨rfl, Hb1.out⟩
          | true =>
            by_cases hk0 : 1000 < k0.size
            · have hkd : decide (1000 < k0.size) = true := decide_eq_true hk0
              go_wp2
              go_ret
              exact ⟨rfl, Hb1.out⟩
            · by_cases hk1 : 1000 < k1.size
              · have hkd : decide (1000 < k1.size) = true := decide_eq_true hk1
                go_wp2
                go_ret
                exact ⟨rfl, Hb1.out⟩
              · go_wp2_with fail
                refine (Ke.out w1 Hb1.out).mono ?_
                rintro e w2 ⟨rfl, hb2⟩
                have Hb02 := Lib.hid (Hb01.out.trans (hb2.mono Hb01.out.size))
                have Hb2 := Lib.hid (Hb1.out.trans (hb2.mono Hb1.out.size))
                clear hb2 p0 p1 p2 p3
                obtain ⟨p0, p1, p2, p3⟩ := Hbx.out w2 Hb02.out
                go_wp2_with fail
                refine (Kf.out w2 Hb2.out).mono ?_
                rintro e w3 ⟨rfl, hb3⟩
                have Hb03 := Lib.hid (Hb02.out.trans (hb3.mono Hb02.out.size))
                have Hb3 := Lib.hid (Hb2.out.trans (hb3.mono Hb2.out.size))
                clear hb3 p0 p1 p2 p3
                go_wp2_with fail
                refine (Kc.out w3 Hb3.out).mono ?_
                rintro e w4 ⟨rfl, hb4⟩
                have Hb04 := Lib.hid (Hb03.out.trans (hb4.mono Hb03.out.size))
                have Hb4 := Lib.hid (Hb3.out.trans (hb4.mono Hb3.out.size))
                clear hb4
                obtain ⟨p0, p1, p2, p3⟩ := Hbx.out w4 Hb04.out
                go_wp2
                go_ret
                exact ⟨by simp, Hb4.out⟩
      · rw [if_neg (by omega), if_pos hij] at hc
        obtain ⟨hl, hq⟩ := less_of_cmp hc
        have hl' : Op.bytesLess st.toList tt.toList = false := hl
        have hq' : (st.toList == tt.toList) = false := hq
        have hne : (i == j) = false := by simp; omega
        have hnl : decide (i < j) = false := decide_eq_false (by omega)
        clear hc hl hq
        go_enter Try.func6, Try.ntmps6
        go_wp2_with fail
        refine (awake4_any _).mono ?_
        rintro e w1 ⟨rfl, hb1⟩
        have Hb01 := Lib.hid hb1
        have Hb1 := Lib.hid (Hb0.out.trans (hb1.mono Hb0.out.size))
        obtain ⟨p0, p1, p2, p3⟩ := Hbx.out w1 hb1
        clear hb1 hw0
        go_wp2_with fail
        refine (L01.out w1 Hb1.out).mono ?_
        rintro e w2 ⟨b, rfl, -, rfl⟩
        cases b with
        | false =>
          go_wp2
          go_ret
          exact ⟨rfl, Hb1.out⟩
        | true =>
          by_cases hk0 : 1000 < k0.size
          · have hkd : decide (1000 < k0.size) = true := decide_eq_true hk0
            go_wp2
            go_ret
            exact ⟨rfl, Hb1.out⟩
          · by_cases hk1 : 1000 < k1.size
            · have hkd : decide (1000 < k1.size) = true := decide_eq_true hk1
              go_wp2
              go_ret
              exact ⟨rfl, Hb1.out⟩
            · go_wp2_with fail
              refine (Ke.out w1 Hb1.out).mono ?_
              rintro e w2 ⟨rfl, hb2⟩
              have Hb02 := Lib.hid (Hb01.out.trans (hb2.mono Hb01.out.size))
              have Hb2 := Lib.hid (Hb1.out.trans (hb2.mono Hb1.out.size))
              clear hb2 p0 p1 p2 p3
              obtain ⟨p0, p1, p2, p3⟩ := Hbx.out w2 Hb02.out
              go_wp2_with fail
              refine (Kf.out w2 Hb2.out).mono ?_
              rintro e w3 ⟨rfl, hb3⟩
              have Hb03 := Lib.hid (Hb02.out.trans (hb3.mono Hb02.out.size))
              have Hb3 := Lib.hid (Hb2.out.trans (hb3.mono Hb2.out.size))
              clear hb3 p0 p1 p2 p3
              go_wp2_with fail
              refine (Kc.out w3 Hb3.out).mono ?_
              rintro e w4 ⟨rfl, hb4⟩
              have Hb04 := Lib.hid (Hb03.out.trans (hb4.mono Hb03.out.size))
              have Hb4 := Lib.hid (Hb3.out.trans (hb4.mono Hb3.out.size))
              clear hb4
              obtain ⟨p0, p1, p2, p3⟩ := Hbx.out w4 Hb04.out
              go_wp2
              go_ret
              exact ⟨by simp, Hb4.out⟩
    · obtain ⟨hz1, hz2⟩ := num_ne hf
      rw [he] at Ke
      clear he hf Hcmp
      go_enter Try.func6, Try.ntmps6
      go_wp2_with fail
      refine (awake4_any _).mono ?_
      rintro e w1 ⟨rfl, hb1⟩
      have Hb01 := Lib.hid hb1
      have Hb1 := Lib.hid (Hb0.out.trans (hb1.mono Hb0.out.size))
      obtain ⟨p0, p1, p2, p3⟩ := Hbx.out w1 hb1
      clear hb1 hw0
      go_wp2_with fail
      refine (L01.out w1 Hb1.out).mono ?_
      rintro e w2 ⟨b, rfl, -, rfl⟩
      cases b with
      | false =>
        go_wp2
        go_ret
        exact ⟨rfl, Hb1.out⟩
      | true =>
        by_cases hk0 : 1000 < k0.size
        · have hkd : decide (1000 < k0.size) = true := decide_eq_true hk0
          go_wp2
          go_ret
          exact ⟨rfl, Hb1.out⟩
        · by_cases hk1 : 1000 < k1.size
          · have hkd : decide (1000 < k1.size) = true := decide_eq_true hk1
            go_wp2
            go_ret
            exact ⟨rfl, Hb1.out⟩
          · go_wp2_with fail
            refine (Ke.out w1 Hb1.out).mono ?_
            rintro e w2 ⟨rfl, hb2⟩
            have Hb02 := Lib.hid (Hb01.out.trans (hb2.mono Hb01.out.size))
            have Hb2 := Lib.hid (Hb1.out.trans (hb2.mono Hb1.out.size))
            clear hb2 p0 p1 p2 p3
            obtain ⟨p0, p1, p2, p3⟩ := Hbx.out w2 Hb02.out
            go_wp2_with fail
            refine (Kf.out w2 Hb2.out).mono ?_
            rintro e w3 ⟨rfl, hb3⟩
            have Hb03 := Lib.hid (Hb02.out.trans (hb3.mono Hb02.out.size))
            have Hb3 := Lib.hid (Hb2.out.trans (hb3.mono Hb2.out.size))
            clear hb3 p0 p1 p2 p3
            go_wp2
            go_ret
            exact ⟨rfl, Hb3.out⟩
  · obtain ⟨hz1, hz2⟩ := num_ne he
    clear he Hcmp
    go_enter Try.func6, Try.ntmps6
    go_wp2_with fail
    refine (awake4_any _).mono ?_
    rintro e w1 ⟨rfl, hb1⟩
    have Hb01 := Lib.hid hb1
    have Hb1 := Lib.hid (Hb0.out.trans (hb1.mono Hb0.out.size))
    obtain ⟨p0, p1, p2, p3⟩ := Hbx.out w1 hb1
    clear hb1 hw0
    go_wp2_with fail
    refine (L01.out w1 Hb1.out).mono ?_
    rintro e w2 ⟨b, rfl, -, rfl⟩
    cases b with
    | false =>
      go_wp2
      go_ret
      exact ⟨rfl, Hb1.out⟩
    | true =>
      by_cases hk0 : 1000 < k0.size
      · have hkd : decide (1000 < k0.size) = true := decide_eq_true hk0
        go_wp2
        go_ret
        exact ⟨rfl, Hb1.out⟩
      · by_cases hk1 : 1000 < k1.size
        · have hkd : decide (1000 < k1.size) = true := decide_eq_true hk1
          go_wp2
          go_ret
          exact ⟨rfl, Hb1.out⟩
        · go_wp2_with fail
          refine (Ke.out w1 Hb1.out).mono ?_
          rintro e w2 ⟨rfl, hb2⟩
          have Hb02 := Lib.hid (Hb01.out.trans (hb2.mono Hb01.out.size))
          have Hb2 := Lib.hid (Hb1.out.trans (hb2.mono Hb1.out.size))
          clear hb2 p0 p1 p2 p3
          obtain ⟨p0, p1, p2, p3⟩ := Hbx.out w2 Hb02.out
          go_wp2_with fail
          refine (Kf.out w2 Hb2.out).mono ?_
          rintro e w3 ⟨rfl, hb3⟩
          have Hb03 := Lib.hid (Hb02.out.trans (hb3.mono Hb02.out.size))
          have Hb3 := Lib.hid (Hb2.out.trans (hb3.mono Hb2.out.size))
          clear hb3 p0 p1 p2 p3
          go_wp2
          go_ret
          exact ⟨rfl, Hb3.out⟩

namespace lawRecordOrder
open Go.ChangeShapes Go.WideShapes Go.ChangeAt

theorem own : ownKnob Try.prog.godebug = none := by kernel_rfl
theorem kids : Kids Try.prog (· < Try.prog.types.size) := kids_rows (by kernel_rfl) (by kernel_rfl)
theorem full : ∀ t e, t < Try.prog.types.size → Try.prog.underlying t = some (.slice e) → 0 < Try.prog.cellsOf e := slices_full_of Try.prog (by kernel_rfl)

set_option maxRecDepth 100000 in
theorem lifted (os : Os) (started : os.Started) (H : Type) (enc : TypeId × Value → H) :
    ReturnsInHanded {} Try.checked os 6 .any (Rows.recordOrderSpec.pre6 enc Try.prog Try.f6 Rows.recordOrderRow.domain false) (Rows.recordOrderSpec.post enc Try.prog Try.f6 false true false false) := by
  refine returnsInHanded_of_change (C := Try.checked) own started (by kernel_rfl) Try.func6
    (ChangeSpec.witness6 (enc := enc) (C := Try.checked) false ⟨#[], #[.agg #[.int .i64 0, .int .i64 0], .slice none 0 0, .slice none 0 0, .agg #[.string ⟨#[]⟩, .string ⟨#[]⟩]], []⟩ 8 (by kernel_rfl) (by kernel_rfl) (by kernel_rfl) (by kernel_rfl)) ?_
  intro W base args ds gs before hval0 hW _ _
  have hval : ∀ (j : Nat) t v, Try.f6.params[j]? = some t → args[j]? = some v → Value.okWide Try.prog W .any base t v := hval0
  have hW' := hW
  obtain ⟨p, q, hA0, hV, rfl, _, _⟩ := hW
  obtain ⟨rfl, rfl⟩ := trodVars_none hV
  have hA : DataW.TrodAll enc Try.prog W 0 (fun _ => true) true Try.f6.params.toList args.toList ds p := hA0
  rw [Try.params6] at hA hval
  obtain ⟨v0, vs0, d0, ds0, p0, q0, hargs, rfl, rfl, h0, r0⟩ := trodAll_cons hA
  obtain ⟨v1, vs1, d1, ds1, p1, q1, rfl, rfl, rfl, h1, r1⟩ := trodAll_cons r0
  obtain ⟨v2, vs2, d2, ds2, p2, q2, rfl, rfl, rfl, h2, r2⟩ := trodAll_cons r1
  obtain ⟨v3, vs3, d3, ds3, p3, q3, rfl, rfl, rfl, h3, r3⟩ := trodAll_cons r2
  obtain ⟨rfl, rfl, rfl⟩ := trodAll_nil r3
  obtain rfl : args = #[v0, v1, v2, v3] := by cases args; simp_all
  have hlt := hW'.lt
  obtain ⟨x0, y0, rfl⟩ := open_int2 Try.underlying44 (by kernel_rfl) Try.underlying3 (by kernel_rfl) (hval 0 44 v0 rfl rfl) h0
  obtain ⟨A1, n1, c1, l1, rfl, hn1, hnc1, hb1, hi1, hw1⟩ := open_vals Try.underlying25 Try.underlying49 (by kernel_rfl) ⟨rfl, rfl, rfl⟩ ⟨by kernel_rfl, by kernel_rfl, by kernel_rfl⟩ ⟨by kernel_rfl, by kernel_rfl, by kernel_rfl⟩ (hval 1 25 v1 rfl rfl) h1 (fun x hx => hlt x (by simp [hx]))
  obtain ⟨A2, n2, c2, l2, rfl, hn2, hnc2, hb2, hi2, hw2⟩ := open_vals Try.underlying25 Try.underlying49 (by kernel_rfl) ⟨rfl, rfl, rfl⟩ ⟨by kernel_rfl, by kernel_rfl, by kernel_rfl⟩ ⟨by kernel_rfl, by kernel_rfl, by kernel_rfl⟩ (hval 2 25 v2 rfl rfl) h2 (fun x hx => hlt x (by simp [hx]))
  obtain ⟨x3, y3, rfl⟩ := open_text2 Try.underlying45 (by kernel_rfl) Try.underlying9 (by kernel_rfl) (hval 3 45 v3 rfl rfl) h3
  refine (recordOrder_walk x0 y0 A1 A2 n1 n2 c1 c2 l1 l2 x3 y3 W hb1 hb2 hn1 hn2 hi1 hi2 hw1 hw2).mono fun e W' ⟨he, hbel⟩ => ?_
  subst he
  exact ⟨_, rfl, law_post kids full (of_decide_eq_true (by kernel_rfl)) Try.underlying4 rfl rfl rfl hW' hbel⟩

theorem proved : Rows.RecordOrderSaid :=
  OpenClaim.holds_of_wide 6 Try.f6 rfl rfl rfl rfl rfl rfl rfl ⟨rfl, rfl, rfl, rfl, rfl⟩ rfl rfl rfl rfl rfl (by kernel_rfl) Try.func6 (by kernel_rfl)
    (of_decide_eq_true (by kernel_rfl)) (by unfold Func.isWrapper; first | (rw [if_pos (by decide +kernel)]; kernel_rfl) | (rw [if_neg (by decide +kernel)]; exact ⟨rfl, rfl⟩))
    (fun os started H enc _ => lifted os started H enc)
end lawRecordOrder

end Go.Proofs.Ytojponcnilahiaa

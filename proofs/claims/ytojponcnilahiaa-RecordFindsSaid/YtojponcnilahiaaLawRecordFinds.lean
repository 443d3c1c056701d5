/- The law RecordFinds: for every input it returns true and leaves what it was given. No condition. -/
import Derived.Test.YtojponcnilahiaaRecJ
import Derived.Test.YtojponcnilahiaaRecI
import Derived.Test.YtojponcnilahiaaOpenVals
namespace Go.Proofs.Ytojponcnilahiaa
open Go.RowKit
open Go.Lib (strCells compareBytes)

theorem isEmpty_of {s : ByteArray} {l : List UInt8} (h : s.data.toList = l) (hl : l ≠ []) : s.toList.isEmpty = false := by
  rw [Lib.toList_data, h]
  cases l with
  | nil => exact absurd rfl hl
  | cons _ _ => rfl
theorem entry_some {id : Int} {l : List TVal} {key : List UInt8} (h : entryErr id l key = 0) : entryT id l key ≠ [] := by
  unfold entryT
  rw [if_pos h]
  simp [idT]

set_option maxHeartbeats 1600000 in
theorem recordFinds_walk (id other : Int) (A0 A1 A2 : Option Addr) (n0 n1 n2 c0 c1 c2 : Nat) (l low high : List TVal) (key : ByteArray) (w : World) (h0 : HasVals w w.heap.size A0 n0 l) (h1 : HasVals w w.heap.size A1 n1 low) (h2 : HasVals w w.heap.size A2 n2 high)
    (hn0 : n0 ≤ maxLen) (hn1 : n1 ≤ maxLen) (hn2 : n2 ≤ maxLen) (hc0 : n0 ≤ c0) (hi0 : ∀ u ∈ l, InI64 u.n) (hi1 : ∀ u ∈ low, InI64 u.n) (hi2 : ∀ u ∈ high, InI64 u.n)
    (hs0 : ∀ u ∈ l, u.s.size ≤ maxLen) (hs1 : ∀ u ∈ low, u.s.size ≤ maxLen) (hs2 : ∀ u ∈ high, u.s.size ≤ maxLen) :
    Calls Try.prog 5 #[.int .i64 id, .int .i64 other, .slice A0 n0 c0, .slice A1 n1 c1, .slice A2 n2 c2, .string key] w fun e w' => e = .returned (.bool true) ∧ Below w.heap.size w w' := by
  have H0 := Lib.hid h0
  have H1 := Lib.hid h1
  have H2 := Lib.hid h2
  have L01 := Lib.hid (fun wx (hb : Below w.heap.size w wx) => lights_any A0 A1 n0 n1 c0 c1 _ l low wx (H0.out.below hb) (H1.out.below hb) hn0 hn1 hs0 hs1)
  have L2 := Lib.hid (fun wx (hb : Below w.heap.size w wx) => lights_any A2 none n2 0 c2 0 _ high [] wx (H2.out.below hb) (HasVals.nil _ _ _) hn2 (by simp [maxLen]) hs2 (by simp))
  have Ke := Lib.hid (fun wx (hb : Below w.heap.size w wx) => entry_any other A0 n0 c0 _ l key wx (H0.out.below hb) hn0 hb.size hi0)
  have Ka := Lib.hid (fun wx (hb : Below w.heap.size w wx) => area_any id A1 A2 n1 n2 c1 c2 _ low high wx (H1.out.below hb) (H2.out.below hb) hn1 hn2 hb.size hi1 hi2)
  have Kl := Lib.hid (fun wx (hb : Below w.heap.size w wx) => lies_any A0 A1 A2 n0 n1 n2 c0 c1 c2 _ l low high wx (H0.out.below hb) (H1.out.below hb) (H2.out.below hb) hn0 hn1 hn2 hc0 hb.size hi0 hi1 hi2)
  have Hwith : Hid (entryErr other l key.data.toList = 0 → areaErr id low high = 0 → withinB (entryT other l key.data.toList) (areaLo id low high) (areaHi id low high) = (decide (id = other) && liesB l low high)) := Lib.hid fun he hf => entry_within he hf hi0 hi1 hi2
  clear h0 h1 h2 hi0 hi1 hi2 hs0 hs1 hs2
  obtain ⟨st, hst⟩ : ∃ st : ByteArray, ⟨(entryT other l key.data.toList).toArray⟩ = st := ⟨_, rfl⟩
  obtain ⟨lo, hlo⟩ : ∃ lo : ByteArray, ⟨(areaLo id low high).toArray⟩ = lo := ⟨_, rfl⟩
  obtain ⟨hi, hhi⟩ : ∃ hi : ByteArray, ⟨(areaHi id low high).toArray⟩ = hi := ⟨_, rfl⟩
  have Hst : Hid (st.data.toList = entryT other l key.data.toList) := Lib.hid (by rw [← hst])
  have Hlo : Hid (lo.data.toList = areaLo id low high) := Lib.hid (by rw [← hlo])
  have Hhi : Hid (hi.data.toList = areaHi id low high) := Lib.hid (by rw [← hhi])
  simp only [areaVal, textErr] at Ka Ke
  rw [hst] at Ke
  rw [hlo, hhi] at Ka
  obtain ⟨bl, hbl⟩ : ∃ bl : Bool, liesB l low high = bl := ⟨_, rfl⟩
  rw [hbl] at Kl Hwith
  clear hlo hhi hst hbl
  by_cases he : entryErr other l key.data.toList = 0
  · have hse : st.toList.isEmpty = false := isEmpty_of Hst.out (entry_some he)
    by_cases hf : areaErr id low high = 0
    · have hw := Hwith.out he hf
      rw [← Hst.out, ← Hlo.out, ← Hhi.out] at hw
      rw [he] at Ke
      rw [hf] at Ka
      have Kw := Lib.hid (fun wx => within_any st lo hi wx)
      rw [hw] at Kw
      clear hw hse he hf Hwith
      by_cases hid : id = other
      · subst hid
        have hdd : decide (id = id) = true := decide_eq_true rfl
        rw [hdd, Bool.true_and] at Kw
        clear hdd
        go_enter Try.func5, Try.ntmps5
        go_wp2_with fail
        refine (awake4_any _).mono ?_
        rintro e w1 ⟨rfl, hb1⟩
        have Hb1 := Lib.hid hb1
        clear hb1
        go_wp2_with fail
        refine (L01.out w1 Hb1.out).mono ?_
        rintro e w2 ⟨b, rfl, -, rfl⟩
        cases b with
        | false =>
          go_wp2
          go_ret
          exact ⟨rfl, Hb1.out⟩
        | true =>
          go_wp2_with fail
          refine (L2.out w1 Hb1.out).mono ?_
          rintro e w2 ⟨b, rfl, -, rfl⟩
          cases b with
          | false =>
            go_wp2
            go_ret
            exact ⟨rfl, Hb1.out⟩
          | true =>
            by_cases hkl : 1000 < key.size
            · have hkd : decide (1000 < key.size) = true := decide_eq_true hkl
              go_wp2
              go_ret
              exact ⟨rfl, Hb1.out⟩
            · go_wp2_with fail
              refine (Ke.out w1 Hb1.out).mono ?_
              rintro e w2 ⟨rfl, hb2⟩
              have Hb2 := Lib.hid (Hb1.out.trans (hb2.mono Hb1.out.size))
              clear hb2
              go_wp2_with fail
              refine (Ka.out w2 Hb2.out).mono ?_
              rintro e w3 ⟨rfl, hb3⟩
              have Hb3 := Lib.hid (Hb2.out.trans (hb3.mono Hb2.out.size))
              clear hb3
              obtain ⟨w4, hw4⟩ : ∃ w4, w3.alloc (.cells #[.string lo, .string hi] 35) = w4 := ⟨_, rfl⟩
              have Hb4 : Hid (Below w.heap.size w w4) := Lib.hid (by rw [← hw4]; exact Hb3.out.alloc Hb3.out.size _)
              obtain ⟨r0, r1⟩ : w4.cell? ⟨w3.heap.size, 0, none⟩ = some (.string lo) ∧ w4.cell? ⟨w3.heap.size, 1, none⟩ = some (.string hi) := by
                subst hw4
                exact box2 (Below.refl _ _)
              go_wp2_with fail
              refine (Kw.out w4).mono ?_
              rintro e w5 ⟨rfl, hb5⟩
              have Hb5 := Lib.hid (Hb4.out.trans (hb5.mono Hb4.out.size))
              clear hb5 hw4 r0 r1
              go_wp2_with fail
              refine (Kl.out w5 Hb5.out).mono ?_
              rintro e w6 ⟨rfl, hb6⟩
              have Hb6 := Lib.hid (Hb5.out.trans (hb6.mono Hb5.out.size))
              clear hb6
              go_wp2
              go_ret
              exact ⟨by simp, Hb6.out⟩
      · have hdd : decide (id = other) = false := decide_eq_false hid
        rw [hdd, Bool.false_and] at Kw
        have hbb : (id == other) = false := by simpa using hid
        clear hdd hid
        go_enter Try.func5, Try.ntmps5
        go_wp2_with fail
        refine (awake4_any _).mono ?_
        rintro e w1 ⟨rfl, hb1⟩
        have Hb1 := Lib.hid hb1
        clear hb1
        go_wp2_with fail
        refine (L01.out w1 Hb1.out).mono ?_
        rintro e w2 ⟨b, rfl, -, rfl⟩
        cases b with
        | false =>
          go_wp2
          go_ret
          exact ⟨rfl, Hb1.out⟩
        | true =>
          go_wp2_with fail
          refine (L2.out w1 Hb1.out).mono ?_
          rintro e w2 ⟨b, rfl, -, rfl⟩
          cases b with
          | false =>
            go_wp2
            go_ret
            exact ⟨rfl, Hb1.out⟩
          | true =>
            by_cases hkl : 1000 < key.size
            · have hkd : decide (1000 < key.size) = true := decide_eq_true hkl
              go_wp2
              go_ret
              exact ⟨rfl, Hb1.out⟩
            · go_wp2_with fail
              refine (Ke.out w1 Hb1.out).mono ?_
              rintro e w2 ⟨rfl, hb2⟩
              have Hb2 := Lib.hid (Hb1.out.trans (hb2.mono Hb1.out.size))
              clear hb2
              go_wp2_with fail
              refine (Ka.out w2 Hb2.out).mono ?_
              rintro e w3 ⟨rfl, hb3⟩
              have Hb3 := Lib.hid (Hb2.out.trans (hb3.mono Hb2.out.size))
              clear hb3
              obtain ⟨w4, hw4⟩ : ∃ w4, w3.alloc (.cells #[.string lo, .string hi] 35) = w4 := ⟨_, rfl⟩
              have Hb4 : Hid (Below w.heap.size w w4) := Lib.hid (by rw [← hw4]; exact Hb3.out.alloc Hb3.out.size _)
              obtain ⟨r0, r1⟩ : w4.cell? ⟨w3.heap.size, 0, none⟩ = some (.string lo) ∧ w4.cell? ⟨w3.heap.size, 1, none⟩ = some (.string hi) := by
                subst hw4
                exact box2 (Below.refl _ _)
              go_wp2_with fail
              refine (Kw.out w4).mono ?_
              rintro e w5 ⟨rfl, hb5⟩
              have Hb5 := Lib.hid (Hb4.out.trans (hb5.mono Hb4.out.size))
              clear hb5 hw4 r0 r1
              go_wp2
              go_ret
              exact ⟨by simp, Hb5.out⟩
    · obtain ⟨hz1, hz2⟩ := num_ne hf
      have hlo0 : lo = ⟨#[]⟩ := bytes_ext (by rw [Hlo.out, (area_bad hf).1])
      have hhi0 : hi = ⟨#[]⟩ := bytes_ext (by rw [Hhi.out, (area_bad hf).2])
      subst hlo0 hhi0
      rw [he] at Ke
      clear he hf Hwith
      go_enter Try.func5, Try.ntmps5
      go_wp2_with fail
      refine (awake4_any _).mono ?_
      rintro e w1 ⟨rfl, hb1⟩
      have Hb1 := Lib.hid hb1
      clear hb1
      go_wp2_with fail
      refine (L01.out w1 Hb1.out).mono ?_
      rintro e w2 ⟨b, rfl, -, rfl⟩
      cases b with
      | false =>
        go_wp2
        go_ret
        exact ⟨rfl, Hb1.out⟩
      | true =>
        go_wp2_with fail
        refine (L2.out w1 Hb1.out).mono ?_
        rintro e w2 ⟨b, rfl, -, rfl⟩
        cases b with
        | false =>
          go_wp2
          go_ret
          exact ⟨rfl, Hb1.out⟩
        | true =>
          by_cases hkl : 1000 < key.size
          · have hkd : decide (1000 < key.size) = true := decide_eq_true hkl
            go_wp2
            go_ret
            exact ⟨rfl, Hb1.out⟩
          · go_wp2_with fail
            refine (Ke.out w1 Hb1.out).mono ?_
            rintro e w2 ⟨rfl, hb2⟩
            have Hb2 := Lib.hid (Hb1.out.trans (hb2.mono Hb1.out.size))
            clear hb2
            go_wp2_with fail
            refine (Ka.out w2 Hb2.out).mono ?_
            rintro e w3 ⟨rfl, hb3⟩
            have Hb3 := Lib.hid (Hb2.out.trans (hb3.mono Hb2.out.size))
            clear hb3
            go_wp2
            go_ret
            exact ⟨by simp, Hb3.out.alloc Hb3.out.size _⟩
  · obtain ⟨hz1, hz2⟩ := num_ne he
    have hst0 : st = ⟨#[]⟩ := bytes_ext (by rw [Hst.out, entry_bad he])
    subst hst0
    clear he Hwith
    go_enter Try.func5, Try.ntmps5
    go_wp2_with fail
    refine (awake4_any _).mono ?_
    rintro e w1 ⟨rfl, hb1⟩
    have Hb1 := Lib.hid hb1
    clear hb1
    go_wp2_with fail
    refine (L01.out w1 Hb1.out).mono ?_
    rintro e w2 ⟨b, rfl, -, rfl⟩
    cases b with
    | false =>
      go_wp2
      go_ret
      exact ⟨rfl, Hb1.out⟩
    | true =>
      go_wp2_with fail
      refine (L2.out w1 Hb1.out).mono ?_
      rintro e w2 ⟨b, rfl, -, rfl⟩
      cases b with
      | false =>
        go_wp2
        go_ret
        exact ⟨rfl, Hb1.out⟩
      | true =>
        by_cases hkl : 1000 < key.size
        · have hkd : decide (1000 < key.size) = true := decide_eq_true hkl
          go_wp2
          go_ret
          exact ⟨rfl, Hb1.out⟩
        · go_wp2_with fail
          refine (Ke.out w1 Hb1.out).mono ?_
          rintro e w2 ⟨rfl, hb2⟩
          have Hb2 := Lib.hid (Hb1.out.trans (hb2.mono Hb1.out.size))
          clear hb2
          go_wp2_with fail
          refine (Ka.out w2 Hb2.out).mono ?_
          rintro e w3 ⟨rfl, hb3⟩
          have Hb3 := Lib.hid (Hb2.out.trans (hb3.mono Hb2.out.size))
          clear hb3
          obtain ⟨w4, hw4⟩ : ∃ w4, w3.alloc (.cells #[.string lo, .string hi] 35) = w4 := ⟨_, rfl⟩
          have Hb4 : Hid (Below w.heap.size w w4) := Lib.hid (by rw [← hw4]; exact Hb3.out.alloc Hb3.out.size _)
          obtain ⟨r0, r1⟩ : w4.cell? ⟨w3.heap.size, 0, none⟩ = some (.string lo) ∧ w4.cell? ⟨w3.heap.size, 1, none⟩ = some (.string hi) := by
            subst hw4
            exact box2 (Below.refl _ _)
          go_wp2
          go_ret
          exact ⟨by simp, Hb4.out⟩

namespace lawRecordFinds
open Go.ChangeShapes Go.WideShapes Go.ChangeAt

theorem own : ownKnob Try.prog.godebug = none := by kernel_rfl
theorem kids : Kids Try.prog (· < Try.prog.types.size) := kids_rows (by kernel_rfl) (by kernel_rfl)
theorem full : ∀ t e, t < Try.prog.types.size → Try.prog.underlying t = some (.slice e) → 0 < Try.prog.cellsOf e := slices_full_of Try.prog (by kernel_rfl)

set_option maxRecDepth 100000 in
theorem lifted (os : Os) (started : os.Started) (H : Type) (enc : TypeId × Value → H) :
    ReturnsInHanded {} Try.checked os 5 .any (Rows.recordFindsSpec.pre6 enc Try.prog Try.f5 Rows.recordFindsRow.domain false) (Rows.recordFindsSpec.post enc Try.prog Try.f5 false true false false) := by
  refine returnsInHanded_of_change (C := Try.checked) own started (by kernel_rfl) Try.func5
    (ChangeSpec.witness6 (enc := enc) (C := Try.checked) false ⟨#[], #[.int .i64 0, .int .i64 0, .slice none 0 0, .slice none 0 0, .slice none 0 0, .string ⟨#[]⟩], []⟩ 8 (by kernel_rfl) (by kernel_rfl) (by kernel_rfl) (by kernel_rfl)) ?_
  intro W base args ds gs before hval0 hW _ _
  have hval : ∀ (j : Nat) t v, Try.f5.params[j]? = some t → args[j]? = some v → Value.okWide Try.prog W .any base t v := hval0
  have hW' := hW
  obtain ⟨p, q, hA0, hV, rfl, _, _⟩ := hW
  obtain ⟨rfl, rfl⟩ := trodVars_none hV
  have hA : DataW.TrodAll enc Try.prog W 0 (fun _ => true) true Try.f5.params.toList args.toList ds p := hA0
  rw [Try.params5] at hA hval
  obtain ⟨v0, vs0, d0, ds0, p0, q0, hargs, rfl, rfl, h0, r0⟩ := trodAll_cons hA
  obtain ⟨v1, vs1, d1, ds1, p1, q1, rfl, rfl, rfl, h1, r1⟩ := trodAll_cons r0
  obtain ⟨v2, vs2, d2, ds2, p2, q2, rfl, rfl, rfl, h2, r2⟩ := trodAll_cons r1
  obtain ⟨v3, vs3, d3, ds3, p3, q3, rfl, rfl, rfl, h3, r3⟩ := trodAll_cons r2
  obtain ⟨v4, vs4, d4, ds4, p4, q4, rfl, rfl, rfl, h4, r4⟩ := trodAll_cons r3
  obtain ⟨v5, vs5, d5, ds5, p5, q5, rfl, rfl, rfl, h5, r5⟩ := trodAll_cons r4
  obtain ⟨rfl, rfl, rfl⟩ := trodAll_nil r5
  obtain rfl : args = #[v0, v1, v2, v3, v4, v5] := by cases args; simp_all
  have hlt := hW'.lt
  obtain ⟨k0, rfl, _, _, _⟩ := open_int Try.underlying3 (hval 0 3 v0 rfl rfl) h0
  obtain ⟨k1, rfl, _, _, _⟩ := open_int Try.underlying3 (hval 1 3 v1 rfl rfl) h1
  obtain ⟨A2, n2, c2, l2, rfl, hn2, hnc2, hb2, hi2, hw2⟩ := open_vals Try.underlying25 Try.underlying49 (by kernel_rfl) ⟨rfl, rfl, rfl⟩ ⟨by kernel_rfl, by kernel_rfl, by kernel_rfl⟩ ⟨by kernel_rfl, by kernel_rfl, by kernel_rfl⟩ (hval 2 25 v2 rfl rfl) h2 (fun x hx => hlt x (by simp [hx]))
  obtain ⟨A3, n3, c3, l3, rfl, hn3, hnc3, hb3, hi3, hw3⟩ := open_vals Try.underlying25 Try.underlying49 (by kernel_rfl) ⟨rfl, rfl, rfl⟩ ⟨by kernel_rfl, by kernel_rfl, by kernel_rfl⟩ ⟨by kernel_rfl, by kernel_rfl, by kernel_rfl⟩ (hval 3 25 v3 rfl rfl) h3 (fun x hx => hlt x (by simp [hx]))
  obtain ⟨A4, n4, c4, l4, rfl, hn4, hnc4, hb4, hi4, hw4⟩ := open_vals Try.underlying25 Try.underlying49 (by kernel_rfl) ⟨rfl, rfl, rfl⟩ ⟨by kernel_rfl, by kernel_rfl, by kernel_rfl⟩ ⟨by kernel_rfl, by kernel_rfl, by kernel_rfl⟩ (hval 4 25 v4 rfl rfl) h4 (fun x hx => hlt x (by simp [hx]))
  obtain ⟨s5, rfl, _, _, ws5⟩ := Go.ChangeMaps.open_string Try.underlying9 (hval 5 9 v5 rfl rfl) h5
  refine (recordFinds_walk k0 k1 A2 A3 A4 n2 n3 n4 c2 c3 c4 l2 l3 l4 s5 W hb2 hb3 hb4 hn2 hn3 hn4 hnc2 hi2 hi3 hi4 hw2 hw3 hw4).mono fun e W' ⟨he, hbel⟩ => ?_
  subst he
  exact ⟨_, rfl, law_post kids full (of_decide_eq_true (by kernel_rfl)) Try.underlying4 rfl rfl rfl hW' hbel⟩

theorem proved : Rows.RecordFindsSaid :=
  OpenClaim.holds_of_wide 5 Try.f5 rfl rfl rfl rfl rfl rfl rfl ⟨rfl, rfl, rfl, rfl, rfl⟩ rfl rfl rfl rfl rfl (by kernel_rfl) Try.func5 (by kernel_rfl)
    (of_decide_eq_true (by kernel_rfl)) (by unfold Func.isWrapper; first | (rw [if_pos (by decide +kernel)]; kernel_rfl) | (rw [if_neg (by decide +kernel)]; exact ⟨rfl, rfl⟩))
    (fun os started H enc _ => lifted os started H enc)
end lawRecordFinds

end Go.Proofs.Ytojponcnilahiaa

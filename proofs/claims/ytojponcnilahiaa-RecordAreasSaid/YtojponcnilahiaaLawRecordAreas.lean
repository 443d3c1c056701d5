/- The law RecordAreas: for every input it returns true and leaves what it was given. No condition. -/
import Derived.Test.YtojponcnilahiaaRecJ
import Derived.Test.YtojponcnilahiaaRecI
import Derived.Test.YtojponcnilahiaaOpenVals
namespace Go.Proofs.Ytojponcnilahiaa
open Go.RowKit
open Go.Lib (strCells compareBytes)

set_option maxHeartbeats 1600000 in
theorem recordAreas_walk (id : Int) (A0 A1 A2 : Option Addr) (n0 n1 n2 c0 c1 c2 : Nat) (l low high : List TVal) (w : World) (h0 : HasVals w w.heap.size A0 n0 l) (h1 : HasVals w w.heap.size A1 n1 low) (h2 : HasVals w w.heap.size A2 n2 high)
    (hn0 : n0 ≤ maxLen) (hn1 : n1 ≤ maxLen) (hn2 : n2 ≤ maxLen) (hc0 : n0 ≤ c0) (hi0 : ∀ u ∈ l, InI64 u.n) (hi1 : ∀ u ∈ low, InI64 u.n) (hi2 : ∀ u ∈ high, InI64 u.n)
    (hs0 : ∀ u ∈ l, u.s.size ≤ maxLen) (hs1 : ∀ u ∈ low, u.s.size ≤ maxLen) (hs2 : ∀ u ∈ high, u.s.size ≤ maxLen) :
    Calls Try.prog 4 #[.int .i64 id, .slice A0 n0 c0, .slice A1 n1 c1, .slice A2 n2 c2] w fun e w' => e = .returned (.bool true) ∧ Below w.heap.size w w' := by
  have H0 := Lib.hid h0
  have H1 := Lib.hid h1
  have H2 := Lib.hid h2
  have L01 := Lib.hid (fun wx (hb : Below w.heap.size w wx) => lights_any A0 A1 n0 n1 c0 c1 _ l low wx (H0.out.below hb) (H1.out.below hb) hn0 hn1 hs0 hs1)
  have L2 := Lib.hid (fun wx (hb : Below w.heap.size w wx) => lights_any A2 none n2 0 c2 0 _ high [] wx (H2.out.below hb) (HasVals.nil _ _ _) hn2 (by simp [maxLen]) hs2 (by simp))
  have Ka := Lib.hid (fun wx (hb : Below w.heap.size w wx) => area_any id A1 A2 n1 n2 c1 c2 _ low high wx (H1.out.below hb) (H2.out.below hb) hn1 hn2 hb.size hi1 hi2)
  have Kb := Lib.hid (fun wx (hb : Below w.heap.size w wx) => refArea_any id A1 A2 n1 n2 c1 c2 _ low high wx (H1.out.below hb) (H2.out.below hb) hn1 hn2 hb.size hi1 hi2)
  have Kl := Lib.hid (fun wx (hb : Below w.heap.size w wx) => lies_any A0 A1 A2 n0 n1 n2 c0 c1 c2 _ l low high wx (H0.out.below hb) (H1.out.below hb) (H2.out.below hb) hn0 hn1 hn2 hc0 hb.size hi0 hi1 hi2)
  have Km := Lib.hid (fun wx (hb : Below w.heap.size w wx) => refLies_any A0 A1 A2 n0 n1 n2 c0 c1 c2 _ l low high wx (H0.out.below hb) (H1.out.below hb) (H2.out.below hb) hn0 hn1 hn2 hc0 hb.size)
  clear h0 h1 h2 hi0 hi1 hi2 hs0 hs1 hs2
  obtain ⟨lo, hlo⟩ : ∃ lo : ByteArray, ⟨(areaLo id low high).toArray⟩ = lo := ⟨_, rfl⟩
  obtain ⟨hi, hhi⟩ : ∃ hi : ByteArray, ⟨(areaHi id low high).toArray⟩ = hi := ⟨_, rfl⟩
  obtain ⟨er, her⟩ : ∃ er : Nat, areaErr id low high = er := ⟨_, rfl⟩
  obtain ⟨bl, hbl⟩ : ∃ bl : Bool, liesB l low high = bl := ⟨_, rfl⟩
  simp only [areaVal] at Ka Kb
  rw [hlo, hhi, her] at Ka Kb
  rw [hbl] at Kl Km
  clear hlo hhi her hbl
  go_enter Try.func4, Try.ntmps4
  go_wp2_with fail
  refine (awake4_any _).mono ?_
  rintro e w1 ⟨rfl, hb1⟩
  have Hb1 := Lib.hid hb1
  clear hb1
  go_wp2_with fail
  refine (L01.out w1 Hb1.out).mono ?_
  rintro e w2 ⟨b, rfl, -, rfl⟩
  cases b with
  | false =>
    go_wp2
    go_ret
    exact ⟨rfl, Hb1.out⟩
  | true =>
    go_wp2_with fail
    refine (L2.out w1 Hb1.out).mono ?_
    rintro e w2 ⟨b, rfl, -, rfl⟩
    cases b with
    | false =>
      go_wp2
      go_ret
      exact ⟨rfl, Hb1.out⟩
    | true =>
      go_wp2_with fail
      refine (Ka.out w1 Hb1.out).mono ?_
      rintro e w2 ⟨rfl, hb2⟩
      have Hb2 := Lib.hid (Hb1.out.trans (hb2.mono Hb1.out.size))
      clear hb2
      obtain ⟨w3, hw3⟩ : ∃ w3, w2.alloc (.cells #[.string lo, .string hi] 35) = w3 := ⟨_, rfl⟩
      have Hb3 : Hid (Below w.heap.size w w3) := Lib.hid (by rw [← hw3]; exact Hb2.out.alloc Hb2.out.size _)
      have Hbx : Hid (∀ wx, Below w3.heap.size w3 wx → wx.cell? ⟨w2.heap.size, 0, none⟩ = some (.string lo) ∧ wx.cell? ⟨w2.heap.size, 1, none⟩ = some (.string hi)) := Lib.hid (by
        subst hw3
        exact fun wx hx => box2 hx)
      go_wp2_with fail
      clear hw3
      refine (Kb.out w3 Hb3.out).mono ?_
      rintro e w4 ⟨rfl, hb4⟩
      obtain ⟨p0, p1⟩ := Hbx.out w4 hb4
      have Hb4 := Lib.hid (Hb3.out.trans (hb4.mono Hb3.out.size))
      have hz4 : w2.heap.size < w4.heap.size := World.block_lt_of_cell? w4 _ p0
      clear hb4
      obtain ⟨w5, hw5⟩ : ∃ w5, w4.alloc (.cells #[.string lo, .string hi] 35) = w5 := ⟨_, rfl⟩
      have Hb5 : Hid (Below w.heap.size w w5) := Lib.hid (by rw [← hw5]; exact Hb4.out.alloc Hb4.out.size _)
      obtain ⟨r0, r1⟩ : w5.cell? ⟨w4.heap.size, 0, none⟩ = some (.string lo) ∧ w5.cell? ⟨w4.heap.size, 1, none⟩ = some (.string hi) := by
        subst hw5
        exact box2 (Below.refl _ _)
      have s0 : w5.cell? ⟨w2.heap.size, 0, none⟩ = some (.string lo) := by rw [← hw5]; exact (World.cell?_alloc_lt w4 _ ⟨w2.heap.size, 0, none⟩ hz4).trans p0
      have s1 : w5.cell? ⟨w2.heap.size, 1, none⟩ = some (.string hi) := by rw [← hw5]; exact (World.cell?_alloc_lt w4 _ ⟨w2.heap.size, 1, none⟩ hz4).trans p1
      clear p0 p1 hz4
      go_wp2_with fail
      clear hw5 r0 r1 s0 s1
      refine (Kl.out w5 Hb5.out).mono ?_
      rintro e w6 ⟨rfl, hb6⟩
      have Hb6 := Lib.hid (Hb5.out.trans (hb6.mono Hb5.out.size))
      clear hb6
      go_wp2_with fail
      refine (Km.out w6 Hb6.out).mono ?_
      rintro e w7 ⟨rfl, hb7⟩
      have Hb7 := Lib.hid (Hb6.out.trans (hb7.mono Hb6.out.size))
      clear hb7
      go_wp2
      go_ret
      exact ⟨by simp, Hb7.out⟩

namespace lawRecordAreas
open Go.ChangeShapes Go.WideShapes Go.ChangeAt

theorem own : ownKnob Try.prog.godebug = none := by kernel_rfl
theorem kids : Kids Try.prog (· < Try.prog.types.size) := kids_rows (by kernel_rfl) (by kernel_rfl)
theorem full : ∀ t e, t < Try.prog.types.size → Try.prog.underlying t = some (.slice e) → 0 < Try.prog.cellsOf e := slices_full_of Try.prog (by kernel_rfl)

set_option maxRecDepth 100000 in
theorem lifted (os : Os) (started : os.Started) (H : Type) (enc : TypeId × Value → H) :
    ReturnsInHanded {} Try.checked os 4 .any (Rows.recordAreasSpec.pre6 enc Try.prog Try.f4 Rows.recordAreasRow.domain false) (Rows.recordAreasSpec.post enc Try.prog Try.f4 false true false false) := by
  refine returnsInHanded_of_change (C := Try.checked) own started (by kernel_rfl) Try.func4
    (ChangeSpec.witness6 (enc := enc) (C := Try.checked) false ⟨#[], #[.int .i64 0, .slice none 0 0, .slice none 0 0, .slice none 0 0], []⟩ 8 (by kernel_rfl) (by kernel_rfl) (by kernel_rfl) (by kernel_rfl)) ?_
  intro W base args ds gs before hval0 hW _ _
  have hval : ∀ (j : Nat) t v, Try.f4.params[j]? = some t → args[j]? = some v → Value.okWide Try.prog W .any base t v := hval0
  have hW' := hW
  obtain ⟨p, q, hA0, hV, rfl, _, _⟩ := hW
  obtain ⟨rfl, rfl⟩ := trodVars_none hV
  have hA : DataW.TrodAll enc Try.prog W 0 (fun _ => true) true Try.f4.params.toList args.toList ds p := hA0
  rw [Try.params4] at hA hval
  obtain ⟨v0, vs0, d0, ds0, p0, q0, hargs, rfl, rfl, h0, r0⟩ := trodAll_cons hA
  obtain ⟨v1, vs1, d1, ds1, p1, q1, rfl, rfl, rfl, h1, r1⟩ := trodAll_cons r0
  obtain ⟨v2, vs2, d2, ds2, p2, q2, rfl, rfl, rfl, h2, r2⟩ := trodAll_cons r1
  obtain ⟨v3, vs3, d3, ds3, p3, q3, rfl, rfl, rfl, h3, r3⟩ := trodAll_cons r2
  obtain ⟨rfl, rfl, rfl⟩ := trodAll_nil r3
  obtain rfl : args = #[v0, v1, v2, v3] := by cases args; simp_all
  have hlt := hW'.lt
  obtain ⟨k0, rfl, _, _, _⟩ := open_int Try.underlying3 (hval 0 3 v0 rfl rfl) h0
  obtain ⟨A1, n1, c1, l1, rfl, hn1, hnc1, hb1, hi1, hw1⟩ := open_vals Try.underlying25 Try.underlying49 (by kernel_rfl) ⟨rfl, rfl, rfl⟩ ⟨by kernel_rfl, by kernel_rfl, by kernel_rfl⟩ ⟨by kernel_rfl, by kernel_rfl, by kernel_rfl⟩ (hval 1 25 v1 rfl rfl) h1 (fun x hx => hlt x (by simp [hx]))
  obtain ⟨A2, n2, c2, l2, rfl, hn2, hnc2, hb2, hi2, hw2⟩ := open_vals Try.underlying25 Try.underlying49 (by kernel_rfl) ⟨rfl, rfl, rfl⟩ ⟨by kernel_rfl, by kernel_rfl, by kernel_rfl⟩ ⟨by kernel_rfl, by kernel_rfl, by kernel_rfl⟩ (hval 2 25 v2 rfl rfl) h2 (fun x hx => hlt x (by simp [hx]))
  obtain ⟨A3, n3, c3, l3, rfl, hn3, hnc3, hb3, hi3, hw3⟩ := open_vals Try.underlying25 Try.underlying49 (by kernel_rfl) ⟨rfl, rfl, rfl⟩ ⟨by kernel_rfl, by kernel_rfl, by kernel_rfl⟩ ⟨by kernel_rfl, by kernel_rfl, by kernel_rfl⟩ (hval 3 25 v3 rfl rfl) h3 (fun x hx => hlt x (by simp [hx]))
  refine (recordAreas_walk k0 A1 A2 A3 n1 n2 n3 c1 c2 c3 l1 l2 l3 W hb1 hb2 hb3 hn1 hn2 hn3 hnc1 hi1 hi2 hi3 hw1 hw2 hw3).mono fun e W' ⟨he, hbel⟩ => ?_
  subst he
  exact ⟨_, rfl, law_post kids full (of_decide_eq_true (by kernel_rfl)) Try.underlying4 rfl rfl rfl hW' hbel⟩

theorem proved : Rows.RecordAreasSaid :=
  OpenClaim.holds_of_wide 4 Try.f4 rfl rfl rfl rfl rfl rfl rfl ⟨rfl, rfl, rfl, rfl, rfl⟩ rfl rfl rfl rfl rfl (by kernel_rfl) Try.func4 (by kernel_rfl)
    (of_decide_eq_true (by kernel_rfl)) (by unfold Func.isWrapper; first | (rw [if_pos (by decide +kernel)]; kernel_rfl) | (rw [if_neg (by decide +kernel)]; exact ⟨rfl, rfl⟩))
    (fun os started H enc _ => lifted os started H enc)
end lawRecordAreas

end Go.Proofs.Ytojponcnilahiaa

/- The law RecordShows: for every input it returns true and leaves what it was given. No condition. -/
import Derived.Test.YtojponcnilahiaaRecJ
import Derived.Test.YtojponcnilahiaaOpenRec
import Derived.Test.YtojponcnilahiaaTupK
namespace Go.Proofs.Ytojponcnilahiaa
open Go.RowKit
open Go.Lib (strCells compareBytes)

/-- the two answers of Shows, as Same is asked of them -/
theorem shows_same {o : Option (List TVal)} {w w2 w' w2' : World} {e e2 : Ending} (h : ShowsPost o w e w') (h2 : ShowsPost o w2 e2 w2') (hb : Below w'.heap.size w' w2') :
    ∃ (A A' : Option Addr) (n c c' : Nat) (l : List TVal), e = .returned (.tuple #[.slice A n c, .bool o.isSome]) ∧ e2 = .returned (.tuple #[.slice A' n c', .bool o.isSome]) ∧ n ≤ maxLen ∧
      HasVals w2' w'.heap.size A n l ∧ HasVals w2' w2'.heap.size A' n l := by
  cases o with
  | none =>
    obtain ⟨rfl, _⟩ := h
    obtain ⟨rfl, _⟩ := h2
    exact ⟨none, none, 0, 0, 0, [], rfl, rfl, by simp [maxLen], HasVals.nil _ _ _, HasVals.nil _ _ _⟩
  | some l =>
    obtain ⟨v, rfl, ho, _⟩ := h
    obtain ⟨v2, rfl, ho2, _⟩ := h2
    obtain ⟨A, c, rfl, hc, hm, hh⟩ := own_sliceN ho
    obtain ⟨A', c', rfl, _, _, hh'⟩ := own_sliceN ho2
    exact ⟨A, A', l.length, c, c', l, rfl, rfl, by omega, ⟨rfl, hh.below hb⟩, ⟨rfl, hh'⟩⟩
theorem shows_below {o : Option (List TVal)} {w w' : World} {e : Ending} (h : ShowsPost o w e w') : Below w.heap.size w w' := by
  cases o with
  | none => exact h.2
  | some l =>
    obtain ⟨_, _, _, h⟩ := h
    exact h
theorem shows_form {o : Option (List TVal)} {w w' : World} {e : Ending} (h : ShowsPost o w e w') : ∃ (A : Option Addr) (n c : Nat), e = .returned (.tuple #[.slice A n c, .bool o.isSome]) := by
  cases o with
  | none => exact ⟨none, 0, 0, h.1⟩
  | some l =>
    obtain ⟨v, rfl, ho, _⟩ := h
    obtain ⟨A, c, rfl, _⟩ := own_sliceN ho
    exact ⟨A, _, c, rfl⟩

set_option maxHeartbeats 1600000 in
theorem recordShows_walk (id : Int) (A A' : Option Addr) (n c n' c' : Nat) (fs : List Int) (r : List TVal) (w : World) (h : HasInts w w.heap.size A n fs) (h' : HasVals w w.heap.size A' n' r) (hn : n ≤ maxLen) (hn' : n' ≤ maxLen)
    (hi : ∀ u ∈ r, InI64 u.n) (hs : ∀ u ∈ r, u.s.size ≤ maxLen) :
    Calls Try.prog 3 #[.agg #[.int .i64 id, .slice A n c], .slice A' n' c'] w fun e w' => e = .returned (.bool true) ∧ Below w.heap.size w w' := by
  have H := Lib.hid h
  have H' := Lib.hid h'
  have L := Lib.hid (fun wx (hb : Below w.heap.size w wx) => lights_any A' none n' 0 c' 0 _ r [] wx (H'.out.below hb) (HasVals.nil _ _ _) hn' (by simp [maxLen]) hs (by simp))
  have Ka := Lib.hid (fun wx (hb : Below w.heap.size w wx) => shows_any id A A' n c n' c' _ fs r wx (H.out.below hb) (H'.out.below hb) hn hn' hb.size hi)
  have Kb := Lib.hid (fun wx (hb : Below w.heap.size w wx) => refShows_any id A A' n c n' c' _ fs r wx (H.out.below hb) (H'.out.below hb) hn hn' hb.size)
  have Kc := Lib.hid (fun wx (hb : Below w.heap.size w wx) => checkIndex_any id A n c _ fs wx (H.out.below hb) hn hb.size)
  have Kd := Lib.hid (fun wx (hb : Below w.heap.size w wx) => refCheckIndex_any id A n c _ fs wx (H.out.below hb) hn hb.size)
  clear h h' hi hs
  obtain ⟨w0, hw0⟩ : ∃ w0, w.alloc (.cells #[.int .i64 id, .slice A n c] 24) = w0 := ⟨_, rfl⟩
  have Hb0 : Hid (Below w.heap.size w w0) := Lib.hid (by rw [← hw0]; exact below_box _)
  have Hbx : Hid (∀ wx, Below w0.heap.size w0 wx → wx.cell? ⟨w.heap.size, 0, none⟩ = some (.int .i64 id) ∧ wx.cell? ⟨w.heap.size, 1, none⟩ = some (.slice A n c)) := Lib.hid (by
    subst hw0
    exact fun wx hx => box2 hx)
  obtain ⟨ex, hex⟩ : ∃ ex : Nat, idxErr id fs = ex := ⟨_, rfl⟩
  rw [hex] at Kc Kd
  clear hex
  go_enter Try.func3, Try.ntmps3
  go_wp2_with fail
  refine (awake4_any _).mono ?_
  rintro e w1 ⟨rfl, hb1⟩
  have Hb01 := Lib.hid hb1
  have Hb1 := Lib.hid (Hb0.out.trans (hb1.mono Hb0.out.size))
  obtain ⟨p0, p1⟩ := Hbx.out w1 hb1
  clear hb1 hw0
  go_wp2_with fail
  refine (L.out w1 Hb1.out).mono ?_
  rintro e w2 ⟨b, rfl, -, rfl⟩
  cases b with
  | false =>
    go_wp2
    go_ret
    exact ⟨rfl, Hb1.out⟩
  | true =>
    by_cases hk : 1000 < n
    · have hkd : decide ((1000 : Int) < (n : Int)) = true := decide_eq_true (by omega)
      go_wp2
      go_ret
      exact ⟨rfl, Hb1.out⟩
    · go_wp2_with fail
      refine (Ka.out w1 Hb1.out).mono ?_
      rintro e w2 hp2
      obtain ⟨A2, n2, c2, rfl⟩ := shows_form hp2
      have Hp2 := Lib.hid hp2
      have hb2 := shows_below hp2
      have Hb02 := Lib.hid (Hb01.out.trans (hb2.mono Hb01.out.size))
      have Hb2 := Lib.hid (Hb1.out.trans (hb2.mono Hb1.out.size))
      clear hb2 hp2 p0 p1
      obtain ⟨p0, p1⟩ := Hbx.out w2 Hb02.out
      go_wp2_with fail
      refine (Kb.out w2 Hb2.out).mono ?_
      rintro e w3 hp3
      obtain ⟨Ax, Ay, nx, cx, cy, lx, e1, rfl, hnx, hv1, hv2⟩ := shows_same Hp2.out hp3 (shows_below hp3)
      injection e1 with e1
      simp only [Value.tuple.injEq, Array.mk.injEq, List.cons.injEq, Value.slice.injEq, and_true] at e1
      obtain ⟨rfl, rfl, rfl⟩ := e1
      have Hv1 := Lib.hid hv1
      have Hv2 := Lib.hid hv2
      have hb3 := shows_below hp3
      have Hb03 := Lib.hid (Hb02.out.trans (hb3.mono Hb02.out.size))
      have Hb3 := Lib.hid (Hb2.out.trans (hb3.mono Hb2.out.size))
      have hz23 := hb3.size
      clear hb3 hp3 hv1 hv2 Hp2 p0 p1
      have Hs : Hid (∀ wx, Below w3.heap.size w3 wx → wx.cell? ⟨w.heap.size, 0, none⟩ = some (.int .i64 id) ∧ wx.cell? ⟨w.heap.size, 1, none⟩ = some (.slice A n c)) := Lib.hid fun wx hb => Hbx.out wx (Hb03.out.trans (hb.mono Hb03.out.size))
      have hs3 := Hs.out w3 (Below.refl _ _)
      cases hsb : (showT id fs r).isSome
      all_goals
        clear hsb
        go_wp2
        go_region_held3 (fun wx => wx.cell? ⟨w.heap.size, 0, none⟩ = some (.int .i64 id) ∧ wx.cell? ⟨w.heap.size, 1, none⟩ = some (.slice A n c))
          (first | go_keep | exact Hs.out _ Hb36.out | exact Hs.out _ Hb35.out | exact Hs.out _ Hb34.out)
          (first
            | (go_at_call 12; refine (Kc.out _ (Hb3.out.drew)).mono ?_; rintro e w4 ⟨rfl, hb4⟩; have Hb34 : Hid (Below w3.heap.size w3 w4) := Lib.hid (((Below.refl _ w3).drew).trans hb4); clear hb4)
            | (go_at_call 13; refine (Kd.out _ (Hb3.out.trans (Hb34.out.mono Hb3.out.size))).mono ?_; rintro e w5 ⟨rfl, hb5⟩; have Hb35 : Hid (Below w3.heap.size w3 w5) := Lib.hid (Hb34.out.trans (hb5.mono Hb34.out.size)); clear hb5)
            | (go_at_call 14; refine (same_true A2 Ay n2 c2 cy _ _ lx _ (Hv1.out.belowOf Hb35.out hz23) (Hv2.out.below Hb35.out) hnx).mono ?_; rintro e w6 ⟨rfl, hb6⟩; have Hb36 : Hid (Below w3.heap.size w3 w6) := Lib.hid (Hb35.out.trans (hb6.mono Hb35.out.size)); clear hb6))
        go_wp2
        go_ret
        exact ⟨rfl, Hb3.out.trans (Hb36.out.mono Hb3.out.size)⟩

namespace lawRecordShows
open Go.ChangeShapes Go.WideShapes Go.ChangeAt

theorem own : ownKnob Try.prog.godebug = none := by kernel_rfl
theorem kids : Kids Try.prog (· < Try.prog.types.size) := kids_rows (by kernel_rfl) (by kernel_rfl)
theorem full : ∀ t e, t < Try.prog.types.size → Try.prog.underlying t = some (.slice e) → 0 < Try.prog.cellsOf e := slices_full_of Try.prog (by kernel_rfl)

set_option maxRecDepth 100000 in
theorem lifted (os : Os) (started : os.Started) (H : Type) (enc : TypeId × Value → H) :
    ReturnsInHanded {} Try.checked os 3 .any (Rows.recordShowsSpec.pre6 enc Try.prog Try.f3 Rows.recordShowsRow.domain false) (Rows.recordShowsSpec.post enc Try.prog Try.f3 false true false false) := by
  refine returnsInHanded_of_change (C := Try.checked) own started (by kernel_rfl) Try.func3
    (ChangeSpec.witness6 (enc := enc) (C := Try.checked) false ⟨#[], #[.agg #[.int .i64 0, .slice none 0 0], .slice none 0 0], []⟩ 8 (by kernel_rfl) (by kernel_rfl) (by kernel_rfl) (by kernel_rfl)) ?_
  intro W base args ds gs before hval0 hW _ _
  have hval : ∀ (j : Nat) t v, Try.f3.params[j]? = some t → args[j]? = some v → Value.okWide Try.prog W .any base t v := hval0
  have hW' := hW
  obtain ⟨p, q, hA0, hV, rfl, _, _⟩ := hW
  obtain ⟨rfl, rfl⟩ := trodVars_none hV
  have hA : DataW.TrodAll enc Try.prog W 0 (fun _ => true) true Try.f3.params.toList args.toList ds p := hA0
  rw [Try.params3] at hA hval
  obtain ⟨v0, vs0, d0, ds0, p0, q0, hargs, rfl, rfl, h0, r0⟩ := trodAll_cons hA
  obtain ⟨v1, vs1, d1, ds1, p1, q1, rfl, rfl, rfl, h1, r1⟩ := trodAll_cons r0
  obtain ⟨rfl, rfl, rfl⟩ := trodAll_nil r1
  obtain rfl : args = #[v0, v1] := by cases args; simp_all
  have hlt := hW'.lt
  obtain ⟨id0, A0, n0, c0, zs0, rfl, hn0, hnc0, hb0⟩ := open_index Try.underlying24 (by kernel_rfl) ⟨rfl, rfl⟩ ⟨by kernel_rfl, by kernel_rfl⟩ ⟨by kernel_rfl, by kernel_rfl⟩ Try.underlying3 (by kernel_rfl) (hval 0 24 v0 rfl rfl) h0 (fun x hx => hlt x (by simp [hx]))
  obtain ⟨A1, n1, c1, l1, rfl, hn1, hnc1, hb1, hi1, hw1⟩ := open_vals Try.underlying25 Try.underlying49 (by kernel_rfl) ⟨rfl, rfl, rfl⟩ ⟨by kernel_rfl, by kernel_rfl, by kernel_rfl⟩ ⟨by kernel_rfl, by kernel_rfl, by kernel_rfl⟩ (hval 1 25 v1 rfl rfl) h1 (fun x hx => hlt x (by simp [hx]))
  refine (recordShows_walk id0 A0 A1 n0 c0 n1 c1 zs0 l1 W hb0 hb1 hn0 hn1 hi1 hw1).mono fun e W' ⟨he, hbel⟩ => ?_
  subst he
  exact ⟨_, rfl, law_post kids full (of_decide_eq_true (by kernel_rfl)) Try.underlying4 rfl rfl rfl hW' hbel⟩

theorem proved : Rows.RecordShowsSaid :=
  OpenClaim.holds_of_wide 3 Try.f3 rfl rfl rfl rfl rfl rfl rfl ⟨rfl, rfl, rfl, rfl, rfl⟩ rfl rfl rfl rfl rfl (by kernel_rfl) Try.func3 (by kernel_rfl)
    (of_decide_eq_true (by kernel_rfl)) (by unfold Func.isWrapper; first | (rw [if_pos (by decide +kernel)]; kernel_rfl) | (rw [if_neg (by decide +kernel)]; exact ⟨rfl, rfl⟩))
    (fun os started H enc _ => lifted os started H enc)
end lawRecordShows

end Go.Proofs.Ytojponcnilahiaa

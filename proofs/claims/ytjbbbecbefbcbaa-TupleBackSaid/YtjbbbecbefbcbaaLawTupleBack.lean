/- The law TupleBack: for every input it returns true and leaves what it was given. No condition. -/
import Derived.Test.YtjbbbecbefbcbaaTupP
import Derived.Test.YtjbbbecbefbcbaaTupI
import Derived.Test.YtjbbbecbefbcbaaOpenVals
namespace Go.Proofs.Ytjbbbecbefbcbaa
open Go.RowKit
open Go.Lib (strCells compareBytes)

theorem allGood_of {l : List TVal} (h : rowErr l = 0) (hi : ∀ u ∈ l, InI64 u.n) : AllGood l := fun v hv => ⟨(rowErr_ok.1 h).2 v hv, hi v hv⟩
theorem app_data (a b : ByteArray) : (a ++ b).data.toList = a.data.toList ++ b.data.toList := by simp

theorem rest_at {s b : ByteArray} {l : List TVal} (hs : s.data.toList = keyL l) (hg : AllGood l) (h4 : l.length ≤ 4) : cutL 4 (s ++ ⟨#[0]⟩ ++ b).data.toList = .ok l (0 :: b.data.toList) := by
  rw [app_data, app_data, hs, List.append_assoc]
  exact cutL_key l 4 _ hg h4 rfl
theorem zero_app (b : ByteArray) : (⟨(0 :: b.data.toList).toArray⟩ : ByteArray) = ⟨#[0]⟩ ++ b := bytes_ext (by rw [app_data]; rfl)
theorem rowErr_of {l : List TVal} (hg : AllGood l) (h4 : l.length ≤ 4) : rowErr l = 0 := rowErr_ok.2 ⟨h4, fun v hv => (hg v hv).1⟩

set_option maxHeartbeats 3200000 in
theorem tupleBack_walk (A : Option Addr) (n c : Nat) (l : List TVal) (b o : ByteArray) (w : World) (h : HasVals w w.heap.size A n l) (hn : n ≤ maxLen) (hbm : b.size ≤ maxLen) (hom : o.size ≤ maxLen)
    (hi : ∀ u ∈ l, InI64 u.n) (hw : ∀ u ∈ l, u.s.size ≤ maxLen) :
    Calls Try.prog 5 #[.slice A n c, .string b, .string o] w fun e w' => e = .returned (.bool true) ∧ Below w.heap.size w w' := by
  have hb2 := hbm
  have ho2 := hom
  unfold maxLen at hb2 ho2
  have hll := h.1
  subst hll
  have H := Lib.hid h
  have Hi := Lib.hid hi
  have Hw := Lib.hid hw
  clear h hi hw
  obtain ⟨sx, hsx⟩ : ∃ sx : ByteArray, ⟨(keyT l).toArray⟩ = sx := ⟨_, rfl⟩
  have Hsx : Hid (sx.data.toList = keyT l) := Lib.hid (by rw [← hsx])
  have Hk := Lib.hid (fun (wx : World) (hb : Below w.heap.size w wx) => key_any A l.length c _ l wx (H.out.below hb) hn hb.size Hi.out)
  simp only [textErr] at Hk
  rw [hsx] at Hk
  clear hsx
  go_enter Try.func5, Try.ntmps5
  go_wp2_with fail
  refine (awake_any _).mono ?_
  rintro e w1 ⟨rfl, hb1⟩
  have Hb1 := Lib.hid hb1
  clear hb1
  go_wp2_with fail
  refine (light_any A l.length c _ 2000 l w1 (H.out.below Hb1.out) hn (by omega) Hw.out).mono ?_
  rintro e w2 ⟨b1, rfl, -, rfl⟩
  cases b1 with
  | false =>
    go_wp2_with fail
    go_ret
    exact ⟨rfl, Hb1.out⟩
  | true =>
    by_cases hbig : 2000 < b.size
    · have h1 : 2000 < (b.size : Int) := by omega
      go_wp2_with fail
      go_ret
      exact ⟨rfl, Hb1.out⟩
    · by_cases hbig2 : 2000 < o.size
      · have h1 : ¬ 2000 < (b.size : Int) := by omega
        have h2 : 2000 < (o.size : Int) := by omega
        go_wp2_with fail
        go_ret
        exact ⟨rfl, Hb1.out⟩
      · have h1 : ¬ 2000 < (b.size : Int) := by omega
        have h2 : ¬ 2000 < (o.size : Int) := by omega
        rcases rowErr_num l with hl | ⟨hl1, hl2, hl3⟩
        · have hg := allGood_of hl Hi.out
          have h4 := (rowErr_ok.1 hl).1
          rw [hl] at Hk
          have hlen := keyL_len fun v hv => (hg v hv).1
          rw [← keyT_eq hl, ← Hsx.out, ← Lib.size_eq] at hlen
          have hss : sx.size ≤ 268 := by omega
          have hcat : (sx ++ ⟨#[0]⟩ ++ b).size ≤ 100000 := by
            rw [Lib.size_eq, app_data, app_data, List.length_append, List.length_append, ← Lib.size_eq, ← Lib.size_eq b]
            simp
            omega
          clear hlen
          go_wp2_with fail
          refine (Hk.out w1 Hb1.out).mono ?_
          rintro e w2 ⟨rfl, hb2⟩
          have Hb2 := Lib.hid (Hb1.out.trans (hb2.mono Hb1.out.size))
          clear hb2
          have Hv := Lib.hid (fun wx => vals_ok sx l wx (by omega) (by rw [Hsx.out, keyT_eq hl]; exact keyL_back hg h4))
          have Hc0 := Lib.hid (fun wx => cut_any (sx ++ ⟨#[0]⟩ ++ b) wx hcat)
          rw [rest_at (by rw [Hsx.out, keyT_eq hl]) hg h4] at Hc0
          clear hg hl h4 hcat
          go_wp2_with fail
          refine (Hv.out w2).mono ?_
          rintro e w3 ⟨v3, rfl, hown3, hb3⟩
          have Hb3 := Lib.hid (Hb2.out.trans (hb3.mono Hb2.out.size))
          obtain ⟨A3, c3, rfl, hc3, hm3, hh3⟩ := own_sliceN hown3
          have Hh3 : Hid (HasVals w3 w3.heap.size A3 l.length l) := Lib.hid ⟨rfl, hh3⟩
          clear hown3 hb3 hh3 hc3 hm3
          go_wp2_with fail
          refine (Hc0.out w3).mono ?_
          rintro e w4 ⟨v4, rfl, hown4, hb4⟩
          rw [zero_app]
          have Hb4 := Lib.hid (Hb3.out.trans (hb4.mono Hb3.out.size))
          have Hh34 := Lib.hid (Hh3.out.below hb4)
          obtain ⟨A4, c4, rfl, hc4, hm4, hh4⟩ := own_sliceN hown4
          have Hh4 : Hid (HasVals w4 w4.heap.size A4 l.length l) := Lib.hid ⟨rfl, hh4⟩
          clear hown4 hb4 hh4 hc4 hm4
          go_wp2_with fail
          refine (same_true A3 A l.length c3 c _ _ l w4 Hh34.out (H.out.below Hb4.out) hn).mono ?_
          rintro e w5 ⟨rfl, hb5⟩
          have Hb5 := Lib.hid (Hb4.out.trans (hb5.mono Hb4.out.size))
          have Hh45 := Lib.hid (Hh4.out.below hb5)
          clear hb5
          go_wp2_with fail
          refine (same_true A4 A l.length c4 c _ _ l w5 Hh45.out (H.out.below Hb5.out) hn).mono ?_
          rintro e w6 ⟨rfl, hb6⟩
          have Hb6 := Lib.hid (Hb5.out.trans (hb6.mono Hb5.out.size))
          clear hb6
          cases hR : cutL 4 o.data.toList with
          | err e =>
            have hepos := (cutL_err _ _ _ hR).1
            have Hc := Lib.hid (cut_any o w6 (by omega))
            rw [hR] at Hc
            have hne : ((e : Int) == 0) = false := by simp; omega
            have hne' : ((e : Int) != 0) = true := by simp; omega
            clear hR
            go_wp2_with fail
            refine Hc.out.mono ?_
            rintro e' w7 ⟨rfl, hb7⟩
            have Hb7 := Lib.hid (Hb6.out.trans (hb7.mono Hb6.out.size))
            clear hb7
            go_wp2_with fail
            go_ret
            exact ⟨rfl, Hb7.out⟩
          | ok l2 z =>
            obtain ⟨e1, hg2, hl2, _⟩ := cutL_ok _ _ _ _ hR
            have Hc := Lib.hid (cut_any o w6 (by omega))
            rw [hR] at Hc
            obtain ⟨zx, hzx⟩ : ∃ zx : ByteArray, ⟨z.toArray⟩ = zx := ⟨_, rfl⟩
            obtain ⟨kx, hkx⟩ : ∃ kx : ByteArray, ⟨(keyT l2).toArray⟩ = kx := ⟨_, rfl⟩
            have hr2 := rowErr_of hg2 hl2
            have hcat : kx ++ zx = o := bytes_ext (by rw [app_data, e1, ← hkx, ← hzx]; simp [keyT_eq hr2])
            have hksz : kx.size + zx.size = o.size := by rw [Lib.size_eq kx, Lib.size_eq zx, Lib.size_eq o, ← hcat, app_data, List.length_append]
            have Hr2 := Lib.hid hr2
            have Hg2 := Lib.hid hg2
            clear hR e1 hg2 hr2
            go_wp2_with fail
            refine Hc.out.mono ?_
            rintro e' w7 ⟨v7, rfl, hown7, hb7⟩
            rw [hzx]
            have Hb7 := Lib.hid (Hb6.out.trans (hb7.mono Hb6.out.size))
            obtain ⟨A7, c7, rfl, hc7, hm7, hh7⟩ := own_sliceN hown7
            have Hh7 : Hid (HasVals w7 w7.heap.size A7 l2.length l2) := Lib.hid ⟨rfl, hh7⟩
            have Hk2 := Lib.hid (key_any A7 l2.length c7 _ l2 w7 Hh7.out (by unfold maxLen; omega) (Nat.le_refl _) (fun v hv => (Hg2.out v hv).2))
            simp only [textErr] at Hk2
            rw [hkx, Hr2.out] at Hk2
            clear hown7 hb7 hh7 hkx hzx hc7 hm7
            go_wp2_with fail
            refine Hk2.out.mono ?_
            rintro e' w8 ⟨rfl, hb8⟩
            have Hb8 := Lib.hid (Hb7.out.trans (hb8.mono Hb7.out.size))
            clear hb8
            go_wp2_with fail
            go_ret
            exact ⟨rfl, Hb8.out⟩
        · clear hl3
          go_wp2_with fail
          refine (Hk.out w1 Hb1.out).mono ?_
          rintro e w2 ⟨rfl, hb2⟩
          have Hb2 := Lib.hid (Hb1.out.trans (hb2.mono Hb1.out.size))
          clear hb2
          cases hR : cutL 4 o.data.toList with
          | err e =>
            have hepos := (cutL_err _ _ _ hR).1
            have Hc := Lib.hid (cut_any o w2 (by omega))
            rw [hR] at Hc
            have hne : ((e : Int) == 0) = false := by simp; omega
            have hne' : ((e : Int) != 0) = true := by simp; omega
            clear hR
            go_wp2_with fail
            refine Hc.out.mono ?_
            rintro e' w7 ⟨rfl, hb7⟩
            have Hb7 := Lib.hid (Hb2.out.trans (hb7.mono Hb2.out.size))
            clear hb7
            go_wp2_with fail
            go_ret
            exact ⟨rfl, Hb7.out⟩
          | ok l2 z =>
            obtain ⟨e1, hg2, hl2, _⟩ := cutL_ok _ _ _ _ hR
            have Hc := Lib.hid (cut_any o w2 (by omega))
            rw [hR] at Hc
            obtain ⟨zx, hzx⟩ : ∃ zx : ByteArray, ⟨z.toArray⟩ = zx := ⟨_, rfl⟩
            obtain ⟨kx, hkx⟩ : ∃ kx : ByteArray, ⟨(keyT l2).toArray⟩ = kx := ⟨_, rfl⟩
            have hr2 := rowErr_of hg2 hl2
            have hcat : kx ++ zx = o := bytes_ext (by rw [app_data, e1, ← hkx, ← hzx]; simp [keyT_eq hr2])
            have hksz : kx.size + zx.size = o.size := by rw [Lib.size_eq kx, Lib.size_eq zx, Lib.size_eq o, ← hcat, app_data, List.length_append]
            have Hr2 := Lib.hid hr2
            have Hg2 := Lib.hid hg2
            clear hR e1 hg2 hr2
            go_wp2_with fail
            refine Hc.out.mono ?_
            rintro e' w7 ⟨v7, rfl, hown7, hb7⟩
            rw [hzx]
            have Hb7 := Lib.hid (Hb2.out.trans (hb7.mono Hb2.out.size))
            obtain ⟨A7, c7, rfl, hc7, hm7, hh7⟩ := own_sliceN hown7
            have Hh7 : Hid (HasVals w7 w7.heap.size A7 l2.length l2) := Lib.hid ⟨rfl, hh7⟩
            have Hk2 := Lib.hid (key_any A7 l2.length c7 _ l2 w7 Hh7.out (by unfold maxLen; omega) (Nat.le_refl _) (fun v hv => (Hg2.out v hv).2))
            simp only [textErr] at Hk2
            rw [hkx, Hr2.out] at Hk2
            clear hown7 hb7 hh7 hkx hzx hc7 hm7
            go_wp2_with fail
            refine Hk2.out.mono ?_
            rintro e' w8 ⟨rfl, hb8⟩
            have Hb8 := Lib.hid (Hb7.out.trans (hb8.mono Hb7.out.size))
            clear hb8
            go_wp2_with fail
            go_ret
            exact ⟨rfl, Hb8.out⟩

namespace lawTupleBack
open Go.ChangeShapes Go.WideShapes Go.ChangeAt

theorem own : ownKnob Try.prog.godebug = none := by kernel_rfl
theorem kids : Kids Try.prog (· < Try.prog.types.size) := kids_rows (by kernel_rfl) (by kernel_rfl)
theorem full : ∀ t e, t < Try.prog.types.size → Try.prog.underlying t = some (.slice e) → 0 < Try.prog.cellsOf e := slices_full_of Try.prog (by kernel_rfl)

set_option maxRecDepth 100000 in
theorem lifted (os : Os) (started : os.Started) (H : Type) (enc : TypeId × Value → H) :
    ReturnsInHanded {} Try.checked os 5 .any (Rows.tupleBackSpec.pre6 enc Try.prog Try.f5 Rows.tupleBackRow.domain false) (Rows.tupleBackSpec.post enc Try.prog Try.f5 false true false false) := by
  refine returnsInHanded_of_change (C := Try.checked) own started (by kernel_rfl) Try.func5
    (ChangeSpec.witness6 (enc := enc) (C := Try.checked) false ⟨#[], #[.slice none 0 0, .string ⟨#[]⟩, .string ⟨#[]⟩], []⟩ 8 (by kernel_rfl) (by kernel_rfl) (by kernel_rfl) (by kernel_rfl)) ?_
  intro W base args ds gs before hval0 hW _ _
  have hval : ∀ (j : Nat) t v, Try.f5.params[j]? = some t → args[j]? = some v → Value.okWide Try.prog W .any base t v := hval0
  have hW' := hW
  obtain ⟨p, q, hA0, hV, rfl, _, _⟩ := hW
  obtain ⟨rfl, rfl⟩ := trodVars_none hV
  have hA : DataW.TrodAll enc Try.prog W 0 (fun _ => true) true Try.f5.params.toList args.toList ds p := hA0
  rw [Try.params5] at hA hval
  obtain ⟨v0, vs0, d0, ds0, p0, q0, hargs, rfl, rfl, h0, r0⟩ := trodAll_cons hA
  obtain ⟨v1, vs1, d1, ds1, p1, q1, rfl, rfl, rfl, h1, r1⟩ := trodAll_cons r0
  obtain ⟨v2, vs2, d2, ds2, p2, q2, rfl, rfl, rfl, h2, r2⟩ := trodAll_cons r1
  obtain ⟨rfl, rfl, rfl⟩ := trodAll_nil r2
  obtain rfl : args = #[v0, v1, v2] := by cases args; simp_all
  have hlt := hW'.lt
  obtain ⟨A0, n0, c0, l0, rfl, hn0, hnc0, hb0, hi0, hw0⟩ := open_vals Try.underlying22 Try.underlying27 (by kernel_rfl) ⟨rfl, rfl, rfl⟩ ⟨by kernel_rfl, by kernel_rfl, by kernel_rfl⟩ ⟨by kernel_rfl, by kernel_rfl, by kernel_rfl⟩ (hval 0 22 v0 rfl rfl) h0 (fun x hx => hlt x (by simp [hx]))
  obtain ⟨s1, rfl, _, _, ws1⟩ := Go.ChangeMaps.open_string Try.underlying9 (hval 1 9 v1 rfl rfl) h1
  obtain ⟨s2, rfl, _, _, ws2⟩ := Go.ChangeMaps.open_string Try.underlying9 (hval 2 9 v2 rfl rfl) h2
  refine (tupleBack_walk A0 n0 c0 l0 s1 s2 W hb0 hn0 ws1 ws2 hi0 hw0).mono fun e W' ⟨he, hbel⟩ => ?_
  subst he
  exact ⟨_, rfl, law_post kids full (of_decide_eq_true (by kernel_rfl)) Try.underlying4 rfl rfl rfl hW' hbel⟩

theorem proved : Rows.TupleBackSaid :=
  OpenClaim.holds_of_wide 5 Try.f5 rfl rfl rfl rfl rfl rfl rfl ⟨rfl, rfl, rfl, rfl, rfl⟩ rfl rfl rfl rfl rfl (by kernel_rfl) Try.func5 (by kernel_rfl)
    (of_decide_eq_true (by kernel_rfl)) (by unfold Func.isWrapper; first | (rw [if_pos (by decide +kernel)]; kernel_rfl) | (rw [if_neg (by decide +kernel)]; exact ⟨rfl, rfl⟩))
    (fun os started H enc _ => lifted os started H enc)
end lawTupleBack

end Go.Proofs.Ytjbbbecbefbcbaa

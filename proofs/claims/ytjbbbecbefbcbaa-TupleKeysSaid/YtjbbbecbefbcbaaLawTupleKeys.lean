/- The law TupleKeys: for every input it returns true and leaves what it was given. No condition. -/
import Derived.Test.YtjbbbecbefbcbaaTupP
import Derived.Test.YtjbbbecbefbcbaaTupH
import Derived.Test.YtjbbbecbefbcbaaTupJ
import Derived.Test.YtjbbbecbefbcbaaOpenVals
namespace Go.Proofs.Ytjbbbecbefbcbaa
open Go.RowKit
open Go.Lib (strCells compareBytes)

set_option maxHeartbeats 3200000 in
theorem tupleKeys_walk (A A' : Option Addr) (n n' c c' : Nat) (l m : List TVal) (w : World) (h : HasVals w w.heap.size A n l) (h' : HasVals w w.heap.size A' n' m) (hn : n ≤ maxLen) (hn' : n' ≤ maxLen)
    (hi : ∀ u ∈ l, InI64 u.n) (hw : ∀ u ∈ l, u.s.size ≤ maxLen) (hw' : ∀ u ∈ m, u.s.size ≤ maxLen) :
    Calls Try.prog 3 #[.slice A n c, .slice A' n' c'] w fun e w' => e = .returned (.bool true) ∧ Below w.heap.size w w' := by
  have H := Lib.hid h
  have H' := Lib.hid h'
  have Hi := Lib.hid hi
  have Hw := Lib.hid hw
  have Hw' := Lib.hid hw'
  clear h h' hi hw hw'
  obtain ⟨sx, hsx⟩ : ∃ sx : ByteArray, ⟨(keyT l).toArray⟩ = sx := ⟨_, rfl⟩
  obtain ⟨er, her⟩ : ∃ er : Int, (rowErr l : Int) = er := ⟨_, rfl⟩
  obtain ⟨cm, hcm⟩ : ∃ cm : Int, cmpT l m = cm := ⟨_, rfl⟩
  have Hk := Lib.hid (fun (wx : World) (hb : Below w.heap.size w wx) => key_any A n c _ l wx (H.out.below hb) hn hb.size Hi.out)
  have Hk' := Lib.hid (fun (wx : World) (hb : Below w.heap.size w wx) => refKey_any A n c _ l wx (H.out.below hb) hn hb.size Hi.out)
  have Hcmp := Lib.hid (fun (wx : World) (hb : Below w.heap.size w wx) => compare_any A A' n n' c c' _ l m wx (H.out.below hb) (H'.out.below hb) hn hn' hb.size)
  have Hcmp' := Lib.hid (fun (wx : World) (hb : Below w.heap.size w wx) => refCompare_any A A' n n' c c' _ l m wx (H.out.below hb) (H'.out.below hb) hn hn' hb.size)
  simp only [textErr] at Hk Hk'
  rw [hsx, her] at Hk Hk'
  rw [hcm] at Hcmp Hcmp'
  clear hsx her hcm
  go_enter Try.func3, Try.ntmps3
  go_wp2_with fail
  refine (awake_any _).mono ?_
  rintro e w1 ⟨rfl, hb1⟩
  have Hb1 := Lib.hid hb1
  clear hb1
  go_wp2_with fail
  refine (light_any A n c _ 2000 l w1 (H.out.below Hb1.out) hn (by omega) Hw.out).mono ?_
  rintro e w2 ⟨b, rfl, hlen, rfl⟩
  cases b with
  | false =>
    clear hlen
    go_wp2_with fail
    go_ret
    exact ⟨rfl, Hb1.out⟩
  | true =>
    have hln : n ≤ 2001 := by have := hlen rfl; have := H.out.1; omega
    clear hlen
    go_wp2_with fail
    refine (light_any A' n' c' _ 2000 m w1 (H'.out.below Hb1.out) hn' (by omega) Hw'.out).mono ?_
    rintro e w2 ⟨b, rfl, -, rfl⟩
    cases b with
    | false =>
      go_wp2_with fail
      go_ret
      exact ⟨rfl, Hb1.out⟩
    | true =>
      go_wp2_with fail
      go_loopw [5] (fun i wr => ∃ k : Nat, k ≤ n ∧ i = .int .i64 (k : Int) ∧ Below w.heap.size w wr) (fun i _ => n - (intOf i).toNat)
      case atStart => exact ⟨0, by omega, rfl, Hb1.out⟩
      case round =>
        obtain ⟨k, hk, rfl, hb⟩ := hrel
        have hszr := hb.size
        have Hb := Lib.hid hb
        clear hb
        by_cases hlt : k < n
        · have H1 := Lib.hid (H.out.below Hb.out)
          obtain ⟨a, v, rfl, ha, hv, c0, c1, c2⟩ := H1.out.at_ hlt
          clear hv
          have hab : (a.add (k * 3)).block < wr.heap.size := by rw [addr_block]; omega
          have Hs := Lib.hid (fun wx (hx : Below wr.heap.size wr wx) => (⟨(hx.cell hab).trans c0, (hx.cell (p := ⟨(a.add (k * 3)).block, (a.add (k * 3)).off + 1, none⟩) hab).trans c1, (hx.cell (p := ⟨(a.add (k * 3)).block, (a.add (k * 3)).off + 2, none⟩) hab).trans c2⟩ :
              wx.cell? (a.add (k * 3)) = some (.int .i64 v.k) ∧ wx.cell? ⟨(a.add (k * 3)).block, (a.add (k * 3)).off + 1, none⟩ = some (.int .i64 v.n) ∧ wx.cell? ⟨(a.add (k * 3)).block, (a.add (k * 3)).off + 2, none⟩ = some (.string v.s)))
          have Hg := Lib.hid (fun wx => good_any v.k v.n v.s wx)
          have Hg' := Lib.hid (fun wx => refGood_any v.k v.n v.s wx)
          cases hgv : goodB v.k v.n v.s
          all_goals
            rw [hgv] at Hg Hg'
            clear hgv
            go_wp2
            go_region_held3 (fun wx => wx.cell? (a.add (k * 3)) = some (.int .i64 v.k) ∧ wx.cell? ⟨(a.add (k * 3)).block, (a.add (k * 3)).off + 1, none⟩ = some (.int .i64 v.n) ∧ wx.cell? ⟨(a.add (k * 3)).block, (a.add (k * 3)).off + 2, none⟩ = some (.string v.s))
              (first | go_keep | exact Hs.out _ Hb4.out | exact Hs.out _ Hb3.out)
              (first
                | (go_at_call 10; refine (Hg.out _).mono ?_; rintro e w3 ⟨rfl, hb3⟩; have Hb3 : Hid (Below wr.heap.size wr w3) := Lib.hid (((Below.refl _ wr).drew).trans hb3); clear hb3)
                | (go_at_call 11; refine (Hg'.out _).mono ?_; rintro e w4 ⟨rfl, hb4⟩; have Hb4 : Hid (Below wr.heap.size wr w4) := Lib.hid (Hb3.out.trans (hb4.mono Hb3.out.size)); clear hb4))
            go_wp2
            go_roundw
            case rel => exact ⟨k + 1, by omega, by go_num, Hb.out.trans (Hb4.out.mono hszr)⟩
            case measure => simp [intOf]; omega
        · obtain rfl : k = n := by omega
          go_wp2_with fail
          refine (Hk.out wr Hb.out).mono ?_
          rintro e w3 ⟨rfl, hb3⟩
          have Hb3 := Lib.hid (Hb.out.trans (hb3.mono hszr))
          clear hb3
          go_wp2_with fail
          refine (Hk'.out w3 Hb3.out).mono ?_
          rintro e w4 ⟨rfl, hb4⟩
          have Hb4 := Lib.hid (Hb3.out.trans (hb4.mono Hb3.out.size))
          clear hb4
          go_wp2_with fail
          refine (Hcmp.out w4 Hb4.out).mono ?_
          rintro e w5 ⟨rfl, hb5⟩
          have Hb5 := Lib.hid (Hb4.out.trans (hb5.mono Hb4.out.size))
          clear hb5
          go_wp2_with fail
          refine (Hcmp'.out w5 Hb5.out).mono ?_
          rintro e w6 ⟨rfl, hb6⟩
          have Hb6 := Lib.hid (Hb5.out.trans (hb6.mono Hb5.out.size))
          clear hb6
          go_wp2_with fail
          go_ret
          exact ⟨rfl, Hb6.out⟩

namespace lawTupleKeys
open Go.ChangeShapes Go.WideShapes Go.ChangeAt

theorem own : ownKnob Try.prog.godebug = none := by kernel_rfl
theorem kids : Kids Try.prog (· < Try.prog.types.size) := kids_rows (by kernel_rfl) (by kernel_rfl)
theorem full : ∀ t e, t < Try.prog.types.size → Try.prog.underlying t = some (.slice e) → 0 < Try.prog.cellsOf e := slices_full_of Try.prog (by kernel_rfl)

set_option maxRecDepth 100000 in
theorem lifted (os : Os) (started : os.Started) (H : Type) (enc : TypeId × Value → H) :
    ReturnsInHanded {} Try.checked os 3 .any (Rows.tupleKeysSpec.pre6 enc Try.prog Try.f3 Rows.tupleKeysRow.domain false) (Rows.tupleKeysSpec.post enc Try.prog Try.f3 false true false false) := by
  refine returnsInHanded_of_change (C := Try.checked) own started (by kernel_rfl) Try.func3
    (ChangeSpec.witness6 (enc := enc) (C := Try.checked) false ⟨#[], #[.slice none 0 0, .slice none 0 0], []⟩ 8 (by kernel_rfl) (by kernel_rfl) (by kernel_rfl) (by kernel_rfl)) ?_
  intro W base args ds gs before hval0 hW _ _
  have hval : ∀ (j : Nat) t v, Try.f3.params[j]? = some t → args[j]? = some v → Value.okWide Try.prog W .any base t v := hval0
  have hW' := hW
  obtain ⟨p, q, hA0, hV, rfl, _, _⟩ := hW
  obtain ⟨rfl, rfl⟩ := trodVars_none hV
  have hA : DataW.TrodAll enc Try.prog W 0 (fun _ => true) true Try.f3.params.toList args.toList ds p := hA0
  rw [Try.params3] at hA hval
  obtain ⟨v0, vs0, d0, ds0, p0, q0, hargs, rfl, rfl, h0, r0⟩ := trodAll_cons hA
  obtain ⟨v1, vs1, d1, ds1, p1, q1, rfl, rfl, rfl, h1, r1⟩ := trodAll_cons r0
  obtain ⟨rfl, rfl, rfl⟩ := trodAll_nil r1
  obtain rfl : args = #[v0, v1] := by cases args; simp_all
  have hlt := hW'.lt
  obtain ⟨A0, n0, c0, l0, rfl, hn0, hnc0, hb0, hi0, hw0⟩ := open_vals Try.underlying22 Try.underlying27 (by kernel_rfl) ⟨rfl, rfl, rfl⟩ ⟨by kernel_rfl, by kernel_rfl, by kernel_rfl⟩ ⟨by kernel_rfl, by kernel_rfl, by kernel_rfl⟩ (hval 0 22 v0 rfl rfl) h0 (fun x hx => hlt x (by simp [hx]))
  obtain ⟨A1, n1, c1, l1, rfl, hn1, hnc1, hb1, hi1, hw1⟩ := open_vals Try.underlying22 Try.underlying27 (by kernel_rfl) ⟨rfl, rfl, rfl⟩ ⟨by kernel_rfl, by kernel_rfl, by kernel_rfl⟩ ⟨by kernel_rfl, by kernel_rfl, by kernel_rfl⟩ (hval 1 22 v1 rfl rfl) h1 (fun x hx => hlt x (by simp [hx]))
  refine (tupleKeys_walk A0 A1 n0 n1 c0 c1 l0 l1 W hb0 hb1 hn0 hn1 hi0 hw0 hw1).mono fun e W' ⟨he, hbel⟩ => ?_
  subst he
  exact ⟨_, rfl, law_post kids full (of_decide_eq_true (by kernel_rfl)) Try.underlying4 rfl rfl rfl hW' hbel⟩

theorem proved : Rows.TupleKeysSaid :=
  OpenClaim.holds_of_wide 3 Try.f3 rfl rfl rfl rfl rfl rfl rfl ⟨rfl, rfl, rfl, rfl, rfl⟩ rfl rfl rfl rfl rfl (by kernel_rfl) Try.func3 (by kernel_rfl)
    (of_decide_eq_true (by kernel_rfl)) (by unfold Func.isWrapper; first | (rw [if_pos (by decide +kernel)]; kernel_rfl) | (rw [if_neg (by decide +kernel)]; exact ⟨rfl, rfl⟩))
    (fun os started H enc _ => lifted os started H enc)
end lawTupleKeys

end Go.Proofs.Ytjbbbecbefbcbaa

/- The law TupleKeeps: for every input it returns true and leaves what it was given. No condition. -/
import Derived.Test.YtjbbbecbefbcbaaTupP
import Derived.Test.YtjbbbecbefbcbaaTupI
import Derived.Test.YtjbbbecbefbcbaaOpenVals
namespace Go.Proofs.Ytjbbbecbefbcbaa
open Go.RowKit
open Go.Lib (strCells compareBytes)

theorem allGood_of {l : List TVal} (h : rowErr l = 0) (hi : ∀ u ∈ l, InI64 u.n) : AllGood l := fun v hv => ⟨(rowErr_ok.1 h).2 v hv, hi v hv⟩
theorem val_lit (w : World) (k : Int) : Has (w.alloc (.cells #[.int .i64 k, .int .i64 0, .string ⟨#[]⟩] 27)) (w.heap.size + 1) (some ⟨w.heap.size, 0, none⟩) (1 * 3) (valCells [⟨k, 0, ⟨#[]⟩⟩]) :=
  Has.lit w #[.int .i64 k, .int .i64 0, .string ⟨#[]⟩] 27

theorem own_head {w : World} {B m c size : Nat} {e : TypeId} {A : Option Addr} {xs : List Value} (h : w.ownsRow B e size (.slice A m c) m xs) (hm : 0 < m) : ∃ g, A = some ⟨g, 0, none⟩ ∧ B ≤ g := by
  rcases h.2 with ⟨_, h0⟩ | ⟨g, cap, cur, hv, hb, _⟩
  · omega
  · injection hv with hA _ _
    exact ⟨g, hA, hb⟩
theorem keeps_parts {w : World} {B k : Nat} {A : Option Addr} {l : List TVal} {xs : List Value} (h : Has w B A k xs) (hk : k = (l.length + 1) * 3) (hx : xs = valCells l ++ valCells [⟨7, 0, ⟨#[]⟩⟩]) :
    HasVals w B A l.length l ∧ ∃ a, A = some a ∧ w.cell? (a.add (l.length * 3)) = some (.int .i64 7) := by
  subst hk
  subst hx
  have hlen := valCells_len l
  constructor
  · have := Has.take h (k := l.length * 3) (by omega)
    rw [List.take_append_of_le_length (by omega), List.take_of_length_le (by omega)] at this
    exact ⟨rfl, this⟩
  · obtain ⟨a, e, _, hc⟩ := h.2 (l.length * 3) (.int .i64 7) (by rw [List.getElem?_append_right (by omega), hlen, Nat.sub_self]; rfl)
    exact ⟨a, e, hc⟩

set_option maxHeartbeats 3200000 in
theorem tupleKeeps_walk (A : Option Addr) (n c : Nat) (l : List TVal) (w : World) (h : HasVals w w.heap.size A n l) (hn : n ≤ maxLen)
    (hi : ∀ u ∈ l, InI64 u.n) (hw : ∀ u ∈ l, u.s.size ≤ maxLen) :
    Calls Try.prog 7 #[.slice A n c] w fun e w' => e = .returned (.bool true) ∧ Below w.heap.size w w' := by
  have hll := h.1
  subst hll
  have H := Lib.hid h
  have Hi := Lib.hid hi
  have Hw := Lib.hid hw
  clear h hi hw
  go_enter Try.func7, Try.ntmps7
  go_wp2_with fail
  refine (awake_any _).mono ?_
  rintro e w1 ⟨rfl, hb1⟩
  have Hb1 := Lib.hid hb1
  have hz1 := hb1.size
  clear hb1
  go_wp2_with fail
  refine (light_any A l.length c _ 200 l w1 (H.out.below Hb1.out) hn (by omega) Hw.out).mono ?_
  rintro e w2 ⟨b1, rfl, hlen, rfl⟩
  cases b1 with
  | false =>
    clear hlen
    go_wp2_with fail
    go_ret
    exact ⟨rfl, Hb1.out⟩
  | true =>
    have hlen2 : l.length ≤ 201 := hlen rfl
    clear hlen
    have Hlit := Lib.hid (World.ownsRow_lit (base := w1.heap.size) (e := 27) (size := 3) w1 #[] 0 (Nat.le_refl _) (by simp [maxLen]) rfl)
    have Hbl := Lib.hid (Hb1.out.alloc hz1 (.cells #[] 27))
    go_wp2_with (first
      | (at_builtin
         refine wpList_append_hasN rfl (.tmp 17) (.tmp 18) _ rfl 27 val_elem (by omega) Try.underlying22 rfl Hlit.out rfl ((H.out.2.below Hb1.out).alloc hz1 _) (valCells_one _) (by simp only [maxLen]; omega) (by omega) (le_alloc (Nat.le_refl _) _) ?_
         intro v2 w2 hown2 hg2 hz2
         clear hz2
         have Hb2 : Hid (Below w1.heap.size w1 w2) := Lib.hid (below_ownN ((Below.refl _ _).alloc (Nat.le_refl _) _) Hlit.out hg2 (le_alloc (Nat.le_refl _) _))
         have hB2 := Hb2.out.size
         clear hg2)
      | (at_builtin
         refine wpList_append_hasN rfl (.tmp 19) (.tmp 21) _ rfl 27 val_elem (by omega) Try.underlying22 rfl (hown2.alloc _) rfl (val_lit w2 7) (valCells_one _) (by simp only [maxLen]; omega) (by omega) (le_alloc hB2 _) ?_
         intro v3 w3 hown3 hg3 hz3
         clear hz3
         have Hb3 : Hid (Below w1.heap.size w1 w3) := Lib.hid (below_ownN (Hb2.out.alloc hB2 _) (hown2.alloc _) hg3 (le_alloc hB2 _))
         obtain ⟨A3, c3, rfl, hc3, hm3, hh3⟩ := own_sliceN hown3
         clear hg3))
    obtain ⟨HP, a3, rfl, h7⟩ := keeps_parts (l := l) hh3 (by omega) (by simp)
    have Hp := Lib.hid HP
    have Hbw3 := Lib.hid (Hb1.out.trans (Hb3.out.mono hz1))
    have hz3 := Hbw3.out.size
    have h7b : ∀ wx, Below w3.heap.size w3 wx → wx.cell? (a3.add (l.length * 3)) = some (.int .i64 7) := fun wx hb => (hb.cell (World.block_lt_of_cell? w3 _ h7)).trans h7
    have H7 := Lib.hid h7b
    clear HP hh3 h7 h7b hown3
    obtain ⟨sx, hsx⟩ : ∃ sx : ByteArray, ⟨(keyT l).toArray⟩ = sx := ⟨_, rfl⟩
    have Hsx : Hid (sx.data.toList = keyT l) := Lib.hid (by rw [← hsx])
    have Hk := Lib.hid (key_any (some a3) l.length c3 _ l w3 Hp.out hn (Nat.le_refl _) Hi.out)
    simp only [textErr] at Hk
    rw [hsx] at Hk
    clear hsx
    rcases rowErr_num l with hl | ⟨hl1, hl2, hl3⟩
    · have hg := allGood_of hl Hi.out
      have h4 := (rowErr_ok.1 hl).1
      rw [hl] at Hk
      have hlen := keyL_len fun v hv => (hg v hv).1
      rw [← keyT_eq hl, ← Hsx.out, ← Lib.size_eq] at hlen
      have hss : sx.size ≤ 268 := by omega
      have Hv := Lib.hid (fun wx => vals_ok sx l wx (by omega) (by rw [Hsx.out, keyT_eq hl]; exact keyL_back hg h4))
      clear hlen hg hl
      go_wp2_with fail
      refine Hk.out.mono ?_
      rintro e w4 ⟨rfl, hb4⟩
      have Hb34 := Lib.hid hb4
      have Hb4 := Lib.hid (Hbw3.out.trans (hb4.mono hz3))
      have h7 := H7.out w4 hb4
      clear hb4
      go_wp2_with fail
      refine (same_true (some a3) A l.length c3 c _ _ l w4 (Hp.out.below Hb34.out) (H.out.below Hb4.out) hn).mono ?_
      rintro e w5 ⟨rfl, hb5⟩
      have Hb5 := Lib.hid (Hb4.out.trans (hb5.mono Hb4.out.size))
      clear hb5 h7
      go_wp2_with fail
      refine (Hv.out w5).mono ?_
      rintro e w6 ⟨v6, rfl, hown6, hb6⟩
      have Hb6 := Lib.hid (Hb5.out.trans (hb6.mono Hb5.out.size))
      have hz56 := hb6.size
      clear hb6
      have Hown6 := Lib.hid hown6
      clear hown6
      go_wp2_with fail
      refine (Hv.out w6).mono ?_
      rintro e w7 ⟨v7, rfl, hown7, hb7⟩
      have Hb7 := Lib.hid (Hb6.out.trans (hb7.mono Hb6.out.size))
      have hz67 := hb7.size
      have Hown67 := Lib.hid (own_belowN Hown6.out hb7)
      have Hne : Hid (v7.ownBlock = none ∨ v7.ownBlock ≠ v6.ownBlock) := Lib.hid (by
        cases h : v7.ownBlock with
        | none => exact .inl rfl
        | some g =>
          right
          intro e
          have h1 := (hown7.lt g h).1
          have h2 := (Hown6.out.lt g e.symm).2
          omega)
      have Hown7 := Lib.hid hown7
      clear hb7 hown7
      obtain ⟨A6, c6, rfl, hc6, hm6, _⟩ := own_sliceN Hown67.out
      obtain ⟨A7, c7, rfl, hc7, hm7, _⟩ := own_sliceN Hown7.out
      go_wp2_with fail
      go_loopw [11] (fun i wr => ∃ (k : Nat) (xs : List Value), k ≤ l.length ∧ i = .int .i64 (k : Int) ∧ wr.ownsRow w5.heap.size 27 3 (.slice A6 l.length c6) l.length xs ∧ w7.grownBy wr (Value.slice A6 l.length c6).ownBlock) (fun i _ => l.length - (intOf i).toNat)
      case atStart => exact ⟨0, _, by omega, rfl, Hown67.out, World.grownBy.refl _ _⟩
      case round =>
        obtain ⟨k, xs, hk, rfl, hown, hgr⟩ := hrel
        have Hgr := Lib.hid hgr
        clear hgr
        by_cases hlt : k < l.length
        · obtain ⟨g, rfl, hBg⟩ := own_head hown (by omega)
          have hxl : xs.length = l.length * 3 := hown.1
          obtain ⟨o0, c0⟩ : ∃ o, wr.cell? ⟨g, k * 3, none⟩ = some o := ⟨xs[k * 3]'(by omega), by rw [hown.cellAt _ (by omega)]; exact List.getElem?_eq_getElem _⟩
          obtain ⟨o1, c1⟩ : ∃ o, wr.cell? ⟨g, k * 3 + 1, none⟩ = some o := ⟨xs[k * 3 + 1]'(by omega), by rw [hown.cellAt _ (by omega)]; exact List.getElem?_eq_getElem _⟩
          obtain ⟨o2, c2⟩ : ∃ o, wr.cell? ⟨g, k * 3 + 2, none⟩ = some o := ⟨xs[k * 3 + 2]'(by omega), by rw [hown.cellAt _ (by omega)]; exact List.getElem?_eq_getElem _⟩
          have f0 := hown.frozenAt (k * 3)
          have f1 := hown.frozenAt (k * 3 + 1)
          have f2 := hown.frozenAt (k * 3 + 2)
          have Hown := Lib.hid hown
          have Hxl := Lib.hid hxl
          clear hown hxl
          go_wp2
          go_roundw
          case rel =>
            have s1 := Hown.out.stored (k * 3) (.int .i64 9)
            have s2 := s1.1.stored (k * 3 + 1) (.int .i64 0)
            have s3 := s2.1.stored (k * 3 + 2) (.string ⟨#[]⟩)
            exact ⟨k + 1, _, by omega, by go_num, s3.1, Hgr.out.trans (s1.2.trans (s2.2.trans s3.2))⟩
          case measure => simp [intOf]; omega
        · have hB : w5.heap.size ≤ wr.heap.size := by have h3 := Hgr.out.size; omega
          have Hown := Lib.hid hown
          clear hown
          go_wp2_with
            (at_builtin
             refine wpList_append_hasN rfl (.tmp 72) (.tmp 74) _ rfl 27 val_elem (by omega) Try.underlying22 rfl (Hown.out.alloc _) rfl (val_lit wr 8) (valCells_one _) (by simp only [maxLen]; omega) (by omega) (le_alloc hB _) ?_
             intro v8 w8 hown8 hg8 hz8
             have Hg8 : Hid (w7.grownBy w8 (Value.slice A6 l.length c6).ownBlock) := Lib.hid ((Hgr.out.trans (World.grownBy_alloc _ _ _)).trans hg8)
             clear hown8 hg8 hz8)
          have Hm := Lib.hid (Has.of_ownN (Hown7.out.kept Hg8.out Hne.out))
          have Hb8 := Lib.hid (Hb7.out.grown Hg8.out Hb7.out.size fun k hk => Nat.le_trans Hb5.out.size (Hown67.out.lt k hk).1)
          refine (same_true A7 A l.length c7 c _ _ l w8 ⟨rfl, Hm.out⟩ (H.out.below Hb8.out) hn).mono ?_
          rintro e w9 ⟨rfl, hb9⟩
          have Hb9 := Lib.hid (Hb8.out.trans (hb9.mono Hb8.out.size))
          clear hb9
          go_wp2_with fail
          go_ret
          exact ⟨rfl, Hb9.out⟩
    · have Hemp : Hid (keyT l = []) := Lib.hid (by unfold keyT; rw [if_neg hl3])
      have hse : sx.toList.isEmpty = true := by rw [Lib.toList_data, Hsx.out, Hemp.out]; rfl
      clear hl3
      go_wp2_with fail
      refine Hk.out.mono ?_
      rintro e w4 ⟨rfl, hb4⟩
      have Hb34 := Lib.hid hb4
      have Hb4 := Lib.hid (Hbw3.out.trans (hb4.mono hz3))
      have h7 := H7.out w4 hb4
      clear hb4
      go_wp2_with fail
      refine (same_true (some a3) A l.length c3 c _ _ l w4 (Hp.out.below Hb34.out) (H.out.below Hb4.out) hn).mono ?_
      rintro e w5 ⟨rfl, hb5⟩
      have Hb5 := Lib.hid (Hb4.out.trans (hb5.mono Hb4.out.size))
      clear hb5 h7
      go_wp2_with fail
      go_ret
      exact ⟨rfl, Hb5.out⟩

namespace lawTupleKeeps
open Go.ChangeShapes Go.WideShapes Go.ChangeAt

theorem own : ownKnob Try.prog.godebug = none := by kernel_rfl
theorem kids : Kids Try.prog (· < Try.prog.types.size) := kids_rows (by kernel_rfl) (by kernel_rfl)
theorem full : ∀ t e, t < Try.prog.types.size → Try.prog.underlying t = some (.slice e) → 0 < Try.prog.cellsOf e := slices_full_of Try.prog (by kernel_rfl)

set_option maxRecDepth 100000 in
theorem lifted (os : Os) (started : os.Started) (H : Type) (enc : TypeId × Value → H) :
    ReturnsInHanded {} Try.checked os 7 .any (Rows.tupleKeepsSpec.pre6 enc Try.prog Try.f7 Rows.tupleKeepsRow.domain false) (Rows.tupleKeepsSpec.post enc Try.prog Try.f7 false true false false) := by
  refine returnsInHanded_of_change (C := Try.checked) own started (by kernel_rfl) Try.func7
    (ChangeSpec.witness6 (enc := enc) (C := Try.checked) false ⟨#[], #[.slice none 0 0], []⟩ 8 (by kernel_rfl) (by kernel_rfl) (by kernel_rfl) (by kernel_rfl)) ?_
  intro W base args ds gs before hval0 hW _ _
  have hval : ∀ (j : Nat) t v, Try.f7.params[j]? = some t → args[j]? = some v → Value.okWide Try.prog W .any base t v := hval0
  have hW' := hW
  obtain ⟨p, q, hA0, hV, rfl, _, _⟩ := hW
  obtain ⟨rfl, rfl⟩ := trodVars_none hV
  have hA : DataW.TrodAll enc Try.prog W 0 (fun _ => true) true Try.f7.params.toList args.toList ds p := hA0
  rw [Try.params7] at hA hval
  obtain ⟨v0, vs0, d0, ds0, p0, q0, hargs, rfl, rfl, h0, r0⟩ := trodAll_cons hA
  obtain ⟨rfl, rfl, rfl⟩ := trodAll_nil r0
  obtain rfl : args = #[v0] := by cases args; simp_all
  have hlt := hW'.lt
  obtain ⟨A0, n0, c0, l0, rfl, hn0, hnc0, hb0, hi0, hw0⟩ := open_vals Try.underlying22 Try.underlying27 (by kernel_rfl) ⟨rfl, rfl, rfl⟩ ⟨by kernel_rfl, by kernel_rfl, by kernel_rfl⟩ ⟨by kernel_rfl, by kernel_rfl, by kernel_rfl⟩ (hval 0 22 v0 rfl rfl) h0 (fun x hx => hlt x (by simp [hx]))
  refine (tupleKeeps_walk A0 n0 c0 l0 W hb0 hn0 hi0 hw0).mono fun e W' ⟨he, hbel⟩ => ?_
  subst he
  exact ⟨_, rfl, law_post kids full (of_decide_eq_true (by kernel_rfl)) Try.underlying4 rfl rfl rfl hW' hbel⟩

theorem proved : Rows.TupleKeepsSaid :=
  OpenClaim.holds_of_wide 7 Try.f7 rfl rfl rfl rfl rfl rfl rfl ⟨rfl, rfl, rfl, rfl, rfl⟩ rfl rfl rfl rfl rfl (by kernel_rfl) Try.func7 (by kernel_rfl)
    (of_decide_eq_true (by kernel_rfl)) (by unfold Func.isWrapper; first | (rw [if_pos (by decide +kernel)]; kernel_rfl) | (rw [if_neg (by decide +kernel)]; exact ⟨rfl, rfl⟩))
    (fun os started H enc _ => lifted os started H enc)
end lawTupleKeeps

end Go.Proofs.Ytjbbbecbefbcbaa

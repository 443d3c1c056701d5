/- The law RecordKeeps: for every input it returns true and leaves what it was given. No condition. -/
import Derived.Test.YtojponcnilahiaaRecJ
import Derived.Test.YtojponcnilahiaaOpenRec
import Derived.Test.YtojponcnilahiaaTupK
namespace Go.Proofs.Ytojponcnilahiaa
open Go.RowKit
open Go.Lib (strCells compareBytes)

/-- what Shows answers, nothing or something, as one row -/
theorem shows_row {o : Option (List TVal)} {L : List TVal} {w w' : World} {e : Ending} (hL : o.getD [] = L) (h : ShowsPost o w e w') :
    ∃ (A : Option Addr) (c : Nat), e = .returned (.tuple #[.slice A L.length c, .bool o.isSome]) ∧ L.length ≤ c ∧ c ≤ maxLen ∧ w'.ownsRow w.heap.size 49 3 (.slice A L.length c) L.length (valCells L) ∧ Below w.heap.size w w' := by
  subst hL
  cases o with
  | none =>
    obtain ⟨rfl, hb⟩ := h
    exact ⟨none, 0, rfl, Nat.le_refl _, by simp [maxLen], World.ownsRow_nil _ _ _ _, hb⟩
  | some l =>
    obtain ⟨v, rfl, ho, hb⟩ := h
    obtain ⟨A, c, rfl, hc, hm, _⟩ := own_sliceN ho
    exact ⟨A, c, rfl, hc, hm, ho, hb⟩
theorem shows_some_len {id : Int} {fs : List Int} {r : List TVal} : (showT id fs r).isSome = decide (0 < ((showT id fs r).getD []).length) := by
  cases h : showT id fs r with
  | none => rfl
  | some l =>
    unfold showT at h
    split at h
    · next h1 =>
      have h2 := showL_len h
      have h3 := (idxErr_ok h1.1).2.1
      simp only [Option.isSome_some, Option.getD_some]
      exact (decide_eq_true (by omega)).symm
    · cases h
theorem shows_len {id : Int} {fs : List Int} {r : List TVal} : ((showT id fs r).getD []).length ≤ 2 := by
  cases h : showT id fs r with
  | none => simp
  | some l =>
    unfold showT at h
    split at h
    · next h1 =>
      have h2 := showL_len h
      have h3 := (idxErr_ok h1.1).2.2.1
      simp only [Option.getD_some]
      omega
    · cases h
/-- element k of a row of the call's own: its cells, and the row and the rest of the world when it is stored to -/
theorem own_put {w : World} {B n c k : Nat} {e : TypeId} {A : Option Addr} {ys : List Value} (h : w.ownsRow B e 3 (.slice A n c) n ys) (hk : k < n) (x y z : Value) : ∃ (g : Nat) (u0 u1 u2 : Value), A = some ⟨g, 0, none⟩ ∧ B ≤ g ∧
    w.cell? ⟨g, k * 3, none⟩ = some u0 ∧ w.cell? ⟨g, k * 3 + 1, none⟩ = some u1 ∧ w.cell? ⟨g, k * 3 + 2, none⟩ = some u2 ∧
    w.frozen? ⟨g, k * 3, none⟩ = false ∧ w.frozen? ⟨g, k * 3 + 1, none⟩ = false ∧ w.frozen? ⟨g, k * 3 + 2, none⟩ = false ∧
    (∃ ys', (((w.setCell ⟨g, k * 3, none⟩ x).setCell ⟨g, k * 3 + 1, none⟩ y).setCell ⟨g, k * 3 + 2, none⟩ z).ownsRow B e 3 (.slice A n c) n ys') ∧
    w.grownBy (((w.setCell ⟨g, k * 3, none⟩ x).setCell ⟨g, k * 3 + 1, none⟩ y).setCell ⟨g, k * 3 + 2, none⟩ z) (some g) := by
  obtain ⟨g, rfl, hB⟩ := own_head h (by omega)
  have hy := h.1
  have s1 := h.stored (k * 3) x
  have s2 := s1.1.stored (k * 3 + 1) y
  have s3 := s2.1.stored (k * 3 + 2) z
  refine ⟨g, ys[k * 3]'(by omega), ys[k * 3 + 1]'(by omega), ys[k * 3 + 2]'(by omega), rfl, hB, ?_, ?_, ?_, h.frozenAt _, h.frozenAt _, h.frozenAt _, ⟨_, s3.1⟩, (s1.2.trans s2.2).trans s3.2⟩
  · rw [h.cellAt _ (by omega)]
    exact List.getElem?_eq_getElem (by omega)
  · rw [h.cellAt _ (by omega)]
    exact List.getElem?_eq_getElem (by omega)
  · rw [h.cellAt _ (by omega)]
    exact List.getElem?_eq_getElem (by omega)
theorem own_apart {w1 w2 : World} {B B' n n' : Nat} {e e' : TypeId} {v v' : Value} {xs xs' : List Value} (h : w1.ownsRow B e 3 v n xs) (hB : w1.heap.size ≤ B') (h' : w2.ownsRow B' e' 3 v' n' xs') : (v.ownBlock = none ∨ v.ownBlock ≠ v'.ownBlock) ∧ (v'.ownBlock = none ∨ v'.ownBlock ≠ v.ownBlock) := by
  have hne : ∀ g, v.ownBlock = some g → v'.ownBlock ≠ some g := fun g h1 h2 => by
    have a := (h.lt g h1).2
    have b := (h'.lt g h2).1
    omega
  constructor
  · cases hv : v.ownBlock with
    | none => exact .inl rfl
    | some g => exact .inr fun e => hne g hv e.symm
  · cases hv : v'.ownBlock with
    | none => exact .inl rfl
    | some g => exact .inr fun e => hne g e.symm hv
theorem own_vals {w : World} {B n c : Nat} {A : Option Addr} {l : List TVal} (h : w.ownsRow B 49 3 (.slice A n c) n (valCells l)) (hl : l.length = n) : HasVals w w.heap.size A n l := by
  obtain ⟨A', c', e, _, _, hh⟩ := own_sliceN h
  injection e with e1 _ _
  subst e1
  exact ⟨hl, hh⟩

set_option maxHeartbeats 3200000 in
theorem recordKeeps_walk (id : Int) (A A' : Option Addr) (n c n' c' : Nat) (fs : List Int) (r : List TVal) (w : World) (h : HasInts w w.heap.size A n fs) (h' : HasVals w w.heap.size A' n' r) (hn : n ≤ maxLen) (hn' : n' ≤ maxLen)
    (hi : ∀ u ∈ r, InI64 u.n) (hs : ∀ u ∈ r, u.s.size ≤ maxLen) :
    Calls Try.prog 7 #[.agg #[.int .i64 id, .slice A n c], .slice A' n' c'] w fun e w' => e = .returned (.bool true) ∧ Below w.heap.size w w' := by
  have H := Lib.hid h
  have H' := Lib.hid h'
  have Hl' := Lib.hid h'.1
  have L := Lib.hid (fun wx (hb : Below w.heap.size w wx) => lights_any A' none n' 0 c' 0 _ r [] wx (H'.out.below hb) (HasVals.nil _ _ _) hn' (by simp [maxLen]) hs (by simp))
  have Ka := Lib.hid (fun wx (hb : Below w.heap.size w wx) A2 c2 (h2 : HasVals wx wx.heap.size A2 n' r) => shows_any id A A2 n c n' c2 wx.heap.size fs r wx ⟨H.out.1, (H.out.2.below hb).more hb.size⟩ h2 hn hn' (Nat.le_refl _) hi)
  have Kb := Lib.hid (fun wx (hb : Below w.heap.size w wx) => refShows_any id A A' n c n' c' _ fs r wx (H.out.below hb) (H'.out.below hb) hn hn' hb.size)
  clear h h' hi hs
  obtain ⟨w0, hw0⟩ : ∃ w0, w.alloc (.cells #[.int .i64 id, .slice A n c] 24) = w0 := ⟨_, rfl⟩
  have Hb0 : Hid (Below w.heap.size w w0) := Lib.hid (by rw [← hw0]; exact below_box _)
  have Hbx : Hid (∀ wx, Below w0.heap.size w0 wx → wx.cell? ⟨w.heap.size, 0, none⟩ = some (.int .i64 id) ∧ wx.cell? ⟨w.heap.size, 1, none⟩ = some (.slice A n c)) := Lib.hid (by
    subst hw0
    exact fun wx hx => box2 hx)
  obtain ⟨o, ho⟩ : ∃ o : Option (List TVal), showT id fs r = o := ⟨_, rfl⟩
  obtain ⟨M, hM⟩ : ∃ M : List TVal, o.getD [] = M := ⟨_, rfl⟩
  have hsome : o.isSome = decide (0 < M.length) := by
    rw [← hM, ← ho]
    exact shows_some_len
  have hm2 : M.length ≤ 2 := by
    rw [← hM, ← ho]
    exact shows_len
  rw [ho] at Ka Kb
  have HM := Lib.hid hM
  have Hsome := Lib.hid hsome
  clear ho hM hsome
  go_enter Try.func7, Try.ntmps7
  go_wp2_with fail
  refine (awake4_any _).mono ?_
  rintro e w1 ⟨rfl, hb1⟩
  have Hb01 := Lib.hid hb1
  have Hb1 := Lib.hid (Hb0.out.trans (hb1.mono Hb0.out.size))
  have hz01 := hb1.size
  have hz1 := Hb1.out.size
  obtain ⟨p0, p1⟩ := Hbx.out w1 hb1
  clear hb1 hw0
  go_wp2_with fail
  refine (L.out w1 Hb1.out).mono ?_
  rintro e w2 ⟨b, rfl, hlen, rfl⟩
  cases b with
  | false =>
    clear hlen
    go_wp2
    go_ret
    exact ⟨rfl, Hb1.out⟩
  | true =>
    have hn1 : n' ≤ 1001 := by have := (hlen rfl).1; rw [Hl'.out] at this; exact this
    clear hlen
    by_cases hk : 100 < n
    · have hkd : decide ((100 : Int) < (n : Int)) = true := decide_eq_true (by omega)
      go_wp2
      go_ret
      exact ⟨rfl, Hb1.out⟩
    · have Hlit := Lib.hid (World.ownsRow_lit (base := w1.heap.size) (e := 49) (size := 3) w1 #[] 0 (Nat.le_refl _) (by simp [maxLen]) rfl)
      go_wp2_with (first
        | (at_builtin
           refine wpList_append_hasN rfl (.tmp 26) (.tmp 27) _ rfl 49 val_elem (by omega) Try.underlying25 rfl Hlit.out rfl ((H'.out.2.below Hb1.out).alloc hz1 _) (valCells_one _) (by simp only [maxLen]; omega) (by omega) (le_alloc (Nat.le_refl _) _) ?_
           intro v2 w2 hown2 hg2 hz2
           clear hz2 p0 p1
           have Hb12 : Hid (Below w1.heap.size w1 w2) := Lib.hid (below_ownN ((Below.refl _ _).alloc (Nat.le_refl _) _) Hlit.out hg2 (le_alloc (Nat.le_refl _) _))
           clear hg2
           have hz12 := Hb12.out.size
           have Hb2 := Lib.hid (Hb1.out.trans (Hb12.out.mono hz1))
           have Hb02 := Lib.hid (Hb01.out.trans (Hb12.out.mono hz01))
           have hown2' : w2.ownsRow w1.heap.size 49 3 v2 n' (valCells r) := by
             have := hown2
             rwa [List.nil_append, Nat.zero_add] at this
           obtain ⟨A2, c2, rfl, hc2, hm2', hh2⟩ := own_sliceN hown2'
           have Kc := Lib.hid (Ka.out w2 Hb2.out A2 c2 ⟨Hl'.out, hh2⟩)
           have Hown2 := Lib.hid hown2'
           clear hown2 hown2' hh2
           obtain ⟨p0, p1⟩ := Hbx.out w2 Hb02.out))
      clear Hlit
      refine Kc.out.mono ?_
      rintro e w3 hp3
      obtain ⟨A3, c3, rfl, hc3, hm3, hown3, hb3⟩ := shows_row HM.out hp3
      rw [Hsome.out]
      have Hown3 := Lib.hid hown3
      have Hown23 := Lib.hid (own_belowN Hown2.out hb3)
      have hz23 := hb3.size
      have Hb3 := Lib.hid (Hb2.out.trans (hb3.mono Hb2.out.size))
      have Hb03 := Lib.hid (Hb02.out.trans (hb3.mono Hb02.out.size))
      clear hp3 hown3 hb3 p0 p1
      obtain ⟨p0, p1⟩ := Hbx.out w3 Hb03.out
      go_wp2_with fail
      refine (Kb.out w3 Hb3.out).mono ?_
      rintro e w4 hp4
      obtain ⟨A4, c4, rfl, hc4, hm4, hown4, hb4⟩ := shows_row HM.out hp4
      rw [Hsome.out]
      have Hown4 := Lib.hid hown4
      have Hown34 := Lib.hid (own_belowN Hown3.out hb4)
      have Hown24 := Lib.hid (own_belowN Hown23.out hb4)
      have hz34 := hb4.size
      have Hb4 := Lib.hid (Hb3.out.trans (hb4.mono Hb3.out.size))
      have Hb04 := Lib.hid (Hb03.out.trans (hb4.mono Hb03.out.size))
      clear hp4 hown4 hb4 p0 p1 Hown3 Hown23
      go_wp2
      go_loopw [10] (fun i wr => ∃ (k : Nat) (ys : List Value), k ≤ n' ∧ i = .int .i64 (k : Int) ∧ wr.ownsRow w1.heap.size 49 3 (.slice A2 n' c2) n' ys ∧ w4.grownBy wr (Value.ownBlock (.slice A2 n' c2))) (fun i _ => n' - (intOf i).toNat)
      case atStart => exact ⟨0, _, by omega, rfl, Hown24.out, World.grownBy.refl _ _⟩
      case round =>
        obtain ⟨k, ys, hk, rfl, hown, hgr⟩ := hrel
        by_cases hlt : k < n'
        · obtain ⟨g, u0, u1, u2, hA, hBg, s0, s1, s2, f0, f1, f2, ⟨ys', hown'⟩, hgr'⟩ := own_put hown hlt (.int .i64 9) (.int .i64 0) (.string ⟨#[]⟩)
          subst hA
          have Hown' := Lib.hid hown'
          have Hgr' : Hid (w4.grownBy _ (some g)) := Lib.hid (hgr.trans hgr')
          clear hown hgr hown' hgr'
          go_wp2
          go_roundw
          case rel => exact ⟨k + 1, ys', by omega, by go_num, Hown'.out, Hgr'.out⟩
          case measure => simp [intOf]; omega
        · obtain rfl : k = n' := by omega
          have hap3 := (own_apart Hown2.out (Nat.le_refl _) Hown34.out).2
          have hap4 := (own_apart Hown2.out hz23 Hown4.out).2
          have Hv3 := Lib.hid (own_vals (Hown34.out.kept hgr hap3) rfl)
          have Hv4 := Lib.hid (own_vals (Hown4.out.kept hgr hap4) rfl)
          have hlow : ∀ g, Value.ownBlock (.slice A2 k c2) = some g → w1.heap.size ≤ g := fun g hg => (Hown2.out.lt g hg).1
          have Hb5 := Lib.hid (Hb4.out.grown hgr Hb4.out.size fun g hg => Nat.le_trans hz1 (hlow g hg))
          have Hb05 := Lib.hid (Hb04.out.grown hgr Hb04.out.size fun g hg => Nat.le_trans hz01 (hlow g hg))
          have hM9 : M.length ≤ maxLen := by simp only [maxLen]; omega
          clear hap3 hap4 hlow hgr hown Hown24 Hown34 Hown4 Hown2
          have hMc : M.length = 0 ∨ 0 < M.length := by omega
          obtain ⟨bs, hbs, hbi⟩ : ∃ bs : Bool, decide (0 < M.length) = bs ∧ decide ((0 : Int) < (M.length : Int)) = bs := by
            refine ⟨_, rfl, ?_⟩
            exact decide_eq_decide.2 (by omega)
          clear hMc
          cases bs
          all_goals
            go_wp2_with fail
            refine (same_true A3 A4 M.length c3 c4 _ _ M wr Hv3.out Hv4.out hM9).mono ?_
            rintro e w6 ⟨rfl, hb6⟩
            have Hb6 := Lib.hid (Hb5.out.trans (hb6.mono Hb5.out.size))
            have Hb06 := Lib.hid (Hb05.out.trans (hb6.mono Hb05.out.size))
            have hz6 := Hb6.out.size
            have hz06 := Hb06.out.size
            clear hb6 Hv3 Hv4
            have Hlit := Lib.hid (World.ownsRow_lit (base := w6.heap.size) (e := 49) (size := 3) w6 #[] 0 (Nat.le_refl _) (by simp [maxLen]) rfl)
            go_wp2_with (first
              | (at_builtin
                 refine wpList_append_hasN rfl (.tmp 62) (.tmp 63) _ rfl 49 val_elem (by omega) Try.underlying25 rfl Hlit.out rfl ((H'.out.2.below Hb6.out).alloc hz6 _) (valCells_one _) (by simp only [maxLen]; omega) (by omega) (le_alloc (Nat.le_refl _) _) ?_
                 intro v7 w7 hown7 hg7 hz7
                 clear hz7
                 have Hb67 : Hid (Below w6.heap.size w6 w7) := Lib.hid (below_ownN ((Below.refl _ _).alloc (Nat.le_refl _) _) Hlit.out hg7 (le_alloc (Nat.le_refl _) _))
                 clear hg7
                 have Hb7 := Lib.hid (Hb6.out.trans (Hb67.out.mono hz6))
                 have Hb07 := Lib.hid (Hb06.out.trans (Hb67.out.mono hz06))
                 have hown7' : w7.ownsRow w6.heap.size 49 3 v7 k (valCells r) := by
                   have := hown7
                   rwa [List.nil_append, Nat.zero_add] at this
                 obtain ⟨A7, c7, rfl, hc7, hm7, hh7⟩ := own_sliceN hown7'
                 have Kd := Lib.hid (Ka.out w7 Hb7.out A7 c7 ⟨Hl'.out, hh7⟩)
                 have Hown7 := Lib.hid hown7'
                 clear hown7 hown7' hh7
                 obtain ⟨p0, p1⟩ := Hbx.out w7 Hb07.out))
            clear Hlit
            refine Kd.out.mono ?_
            rintro e w8 hp8
            obtain ⟨A8, c8, rfl, hc8, hm8, hown8, hb8⟩ := shows_row HM.out hp8
            have Hown8 := Lib.hid hown8
            have Hown78 := Lib.hid (own_belowN Hown7.out hb8)
            have Hb8 := Lib.hid (Hb7.out.trans (hb8.mono Hb7.out.size))
            have hz7 := Hb7.out.size
            clear hp8 hown8 hb8 p0 p1
            go_wp2
            go_loopw [14] (fun i wr => ∃ (k : Nat) (ys : List Value), k ≤ M.length ∧ i = .int .i64 (k : Int) ∧ wr.ownsRow w7.heap.size 49 3 (.slice A8 M.length c8) M.length ys ∧ w8.grownBy wr (Value.ownBlock (.slice A8 M.length c8))) (fun i _ => M.length - (intOf i).toNat)
            case atStart => exact ⟨0, _, by omega, rfl, Hown8.out, World.grownBy.refl _ _⟩
            case round =>
              obtain ⟨q, ys, hq, rfl, hown, hgr⟩ := hrel
              by_cases hlt : q < M.length
              · obtain ⟨g, u0, u1, u2, hA, hBg, s0, s1, s2, f0, f1, f2, ⟨ys', hown'⟩, hgr'⟩ := own_put hown hlt (.int .i64 9) (.int .i64 0) (.string ⟨#[]⟩)
                subst hA
                have Hown' := Lib.hid hown'
                have Hgr' : Hid (w8.grownBy _ (some g)) := Lib.hid (hgr.trans hgr')
                clear hown hgr hown' hgr'
                go_wp2
                go_roundw
                case rel => exact ⟨q + 1, ys', by omega, by go_num, Hown'.out, Hgr'.out⟩
                case measure => simp [intOf]; omega
              · obtain rfl : q = M.length := by omega
                have hap7 := (own_apart Hown7.out (Nat.le_refl _) Hown8.out).1
                have Hv7 := Lib.hid (own_vals (Hown78.out.kept hgr hap7) Hl'.out)
                have hlow : ∀ g, Value.ownBlock (.slice A8 M.length c8) = some g → w7.heap.size ≤ g := fun g hg => (Hown8.out.lt g hg).1
                have Hb9 := Lib.hid (Hb8.out.grown hgr Hb8.out.size fun g hg => Nat.le_trans hz7 (hlow g hg))
                clear hap7 hlow hgr hown
                go_wp2_with fail
                refine (same_true A7 A' k c7 c' _ _ r _ Hv7.out (H'.out.below Hb9.out) hn').mono ?_
                rintro e w10 ⟨rfl, hb10⟩
                have Hb10 := Lib.hid (Hb9.out.trans (hb10.mono Hb9.out.size))
                clear hb10
                go_wp2
                go_ret
                exact ⟨rfl, Hb10.out⟩

namespace lawRecordKeeps
open Go.ChangeShapes Go.WideShapes Go.ChangeAt

theorem own : ownKnob Try.prog.godebug = none := by kernel_rfl
theorem kids : Kids Try.prog (· < Try.prog.types.size) := kids_rows (by kernel_rfl) (by kernel_rfl)
theorem full : ∀ t e, t < Try.prog.types.size → Try.prog.underlying t = some (.slice e) → 0 < Try.prog.cellsOf e := slices_full_of Try.prog (by kernel_rfl)

set_option maxRecDepth 100000 in
theorem lifted (os : Os) (started : os.Started) (H : Type) (enc : TypeId × Value → H) :
    ReturnsInHanded {} Try.checked os 7 .any (Rows.recordKeepsSpec.pre6 enc Try.prog Try.f7 Rows.recordKeepsRow.domain false) (Rows.recordKeepsSpec.post enc Try.prog Try.f7 false true false false) := by
  refine returnsInHanded_of_change (C := Try.checked) own started (by kernel_rfl) Try.func7
    (ChangeSpec.witness6 (enc := enc) (C := Try.checked) false ⟨#[], #[.agg #[.int .i64 0, .slice none 0 0], .slice none 0 0], []⟩ 8 (by kernel_rfl) (by kernel_rfl) (by kernel_rfl) (by kernel_rfl)) ?_
  intro W base args ds gs before hval0 hW _ _
  have hval : ∀ (j : Nat) t v, Try.f7.params[j]? = some t → args[j]? = some v → Value.okWide Try.prog W .any base t v := hval0
  have hW' := hW
  obtain ⟨p, q, hA0, hV, rfl, _, _⟩ := hW
  obtain ⟨rfl, rfl⟩ := trodVars_none hV
  have hA : DataW.TrodAll enc Try.prog W 0 (fun _ => true) true Try.f7.params.toList args.toList ds p := hA0
  rw [Try.params7] at hA hval
  obtain ⟨v0, vs0, d0, ds0, p0, q0, hargs, rfl, rfl, h0, r0⟩ := trodAll_cons hA
  obtain ⟨v1, vs1, d1, ds1, p1, q1, rfl, rfl, rfl, h1, r1⟩ := trodAll_cons r0
  obtain ⟨rfl, rfl, rfl⟩ := trodAll_nil r1
  obtain rfl : args = #[v0, v1] := by cases args; simp_all
  have hlt := hW'.lt
  obtain ⟨id0, A0, n0, c0, zs0, rfl, hn0, hnc0, hb0⟩ := open_index Try.underlying24 (by kernel_rfl) ⟨rfl, rfl⟩ ⟨by kernel_rfl, by kernel_rfl⟩ ⟨by kernel_rfl, by kernel_rfl⟩ Try.underlying3 (by kernel_rfl) (hval 0 24 v0 rfl rfl) h0 (fun x hx => hlt x (by simp [hx]))
  obtain ⟨A1, n1, c1, l1, rfl, hn1, hnc1, hb1, hi1, hw1⟩ := open_vals Try.underlying25 Try.underlying49 (by kernel_rfl) ⟨rfl, rfl, rfl⟩ ⟨by kernel_rfl, by kernel_rfl, by kernel_rfl⟩ ⟨by kernel_rfl, by kernel_rfl, by kernel_rfl⟩ (hval 1 25 v1 rfl rfl) h1 (fun x hx => hlt x (by simp [hx]))
  refine (recordKeeps_walk id0 A0 A1 n0 c0 n1 c1 zs0 l1 W hb0 hb1 hn0 hn1 hi1 hw1).mono fun e W' ⟨he, hbel⟩ => ?_
  subst he
  exact ⟨_, rfl, law_post kids full (of_decide_eq_true (by kernel_rfl)) Try.underlying4 rfl rfl rfl hW' hbel⟩

theorem proved : Rows.RecordKeepsSaid :=
  OpenClaim.holds_of_wide 7 Try.f7 rfl rfl rfl rfl rfl rfl rfl ⟨rfl, rfl, rfl, rfl, rfl⟩ rfl rfl rfl rfl rfl (by kernel_rfl) Try.func7 (by kernel_rfl)
    (of_decide_eq_true (by kernel_rfl)) (by unfold Func.isWrapper; first | (rw [if_pos (by decide +kernel)]; kernel_rfl) | (rw [if_neg (by decide +kernel)]; exact ⟨rfl, rfl⟩))
    (fun os started H enc _ => lifted os started H enc)
end lawRecordKeeps

end Go.Proofs.Ytojponcnilahiaa

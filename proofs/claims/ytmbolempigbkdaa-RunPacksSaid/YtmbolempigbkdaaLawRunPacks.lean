/- RunPacks: the bytes of any list, and what any bytes are, are as the document says. No condition. -/
import Derived.Test.YtmbolempigbkdaaRawB
import Derived.Test.YtmbolempigbkdaaPckF
import Derived.Test.YtmbolempigbkdaaPckH
import Derived.Test.YtmbolempigbkdaaOpenChs
namespace Go.Proofs.Ytmbolempigbkdaa
open Go.RowKit
open Go.Lib (strCells compareBytes)

open Classical in
/-- what a list's bytes are, and the error -/
noncomputable def packT (l : List Chg) : List UInt8 × Nat := if Run l then (packL l, 0) else ([], 3)
theorem packT_run {l : List Chg} (h : Run l) : packT l = (packL l, 0) := if_pos h
theorem packT_no {l : List Chg} (h : ¬ Run l) : packT l = ([], 3) := if_neg h
theorem PackPost.out {B : Nat} {l : List Chg} {w w' : World} {e : Ending} (h : PackPost B l w e w') : Below B w w' ∧ ∃ A m c, e = .returned (.tuple #[.slice A m c, .int .i64 ((packT l).2 : Int)]) ∧ HasBytes w' w'.heap.size A m (packT l).1 ∧ m ≤ c := by
  obtain ⟨hb, h1⟩ := h
  refine ⟨hb, ?_⟩
  rcases h1 with ⟨hr, v, e1, o⟩ | ⟨hr, e1⟩
  · obtain ⟨A, c, rfl, hc, -, hh⟩ := own_slice o
    rw [packT_run hr]
    exact ⟨A, _, c, e1, hh, hc⟩
  · rw [packT_no hr]
    exact ⟨none, 0, 0, e1, Has.nil _ _ _, Nat.le_refl _⟩
theorem packT_len {l : List Chg} (h : SmallL l) : (packT l).1.length ≤ 540009 := by
  by_cases hr : Run l
  · rw [packT_run hr]
    have h1 := bodyL_le h.2
    have h2 := numForm_len9 (k := l.length) (by have := h.1; omega)
    have := h.1
    simp only [packL, List.length_append]
    omega
  · rw [packT_no hr]
    simp
theorem packT_back {l : List Chg} (h : SmallL l) {b : List UInt8} (e : packT l = (b, 0)) : unpackT b = (0, l) ∧ Run l := by
  by_cases hr : Run l
  · rw [packT_run hr] at e
    injection e with e1 e2
    rw [← e1]
    exact ⟨pack_unpack (by have := h.1; omega) (fun c hc => by have := h.2 c hc; rw [← Lib.size_eq, ← Lib.size_eq]; omega) hr, hr⟩
  · rw [packT_no hr] at e
    injection e with _ e2
    omega
theorem bodyL_mem : ∀ {l : List Chg} {x : Chg}, x ∈ l → x.k.size ≤ (bodyL l).length ∧ x.v.size ≤ (bodyL l).length
  | [], _, h => by simp at h
  | c :: l, x, h => by
    have hc : c.k.size ≤ (chgForm c).length ∧ c.v.size ≤ (chgForm c).length := by
      simp only [chgForm, textForm, List.length_append, Lib.size_eq]
      omega
    simp only [bodyL, List.length_append]
    rcases List.mem_cons.1 h with rfl | h
    · omega
    · have := bodyL_mem h
      omega
theorem bodyL_many (l : List Chg) : l.length ≤ (bodyL l).length := by
  induction l with
  | nil => simp
  | cons c l ih =>
    have h5 : (numForm (goneN c.g)).length = 1 := by rw [goneN_one]; rfl
    simp only [bodyL, chgForm, List.length_append, List.length_cons]
    omega
theorem unpackT_small {b : List UInt8} {l : List Chg} (h : unpackT b = (0, l)) (hb : b.length ≤ 4000) : l.length ≤ 4000 ∧ (∀ x ∈ l, x.k.size ≤ 4000 ∧ x.v.size ≤ 4000) ∧ packT l = (b, 0) := by
  obtain ⟨h1, h2⟩ := unpack_pack h
  have hl : (bodyL l).length ≤ 4000 := by
    have := congrArg List.length h1
    simp only [packL, List.length_append] at this
    omega
  refine ⟨Nat.le_trans (bodyL_many l) hl, fun x hx => ?_, by rw [packT_run h2, h1]⟩
  have := bodyL_mem hx
  omega
theorem unpackT_len (b : List UInt8) : (unpackT b).2.length ≤ b.length := by
  by_cases h : (unpackT b).1 = 0
  · have h1 := (unpack_pack (b := b) (l := (unpackT b).2) (by rw [← h])).1
    have h2 := bodyL_many (unpackT b).2
    have := congrArg List.length h1
    simp only [packL, List.length_append] at this
    omega
  · have : (unpackT b).2 = [] := by
      unfold unpackT at h ⊢
      simp only at h ⊢
      split
      · rfl
      · rename_i h1
        split
        · rfl
        · rename_i h2
          split
          · rename_i h3
            exfalso
            apply h
            rw [if_neg h1, if_neg h2, if_pos h3]
          · rfl
    rw [this]
    simp
theorem own_chsP {w : World} {B m c : Nat} {A : Option Addr} {l : List Chg} (h : OwnChs w B (.slice A m c) l) : HasChs w w.heap.size A m l := by
  obtain ⟨A', c', e, _, _, hh⟩ := h.slice
  injection e with e1 e2 _
  subst e1
  subst e2
  exact hh
set_option maxRecDepth 100000 in
set_option maxHeartbeats 6400000 in
theorem packs_walk (A : Option Addr) (n ca : Nat) (l : List Chg) (A' : Option Addr) (n' ca' : Nat) (b : List UInt8) (w : World) (h : HasChs w w.heap.size A n l) (hnc : n ≤ ca) (hm : ca ≤ maxLen) (hs : ∀ u ∈ l, u.k.size ≤ maxLen ∧ u.v.size ≤ maxLen) (h' : HasBytes w w.heap.size A' n' b) (hn' : n' ≤ ca') :
    Calls Try.prog 6 #[.slice A n ca, .slice A' n' ca'] w fun e w' => e = .returned (.bool true) ∧ Below w.heap.size w w' := by
  have H := Lib.hid h
  have H' := Lib.hid h'
  have Hl' := Lib.hid h'.len
  have Hlt := Lib.hid (fun wx (hx : Below w.heap.size w wx) => light_any A n ca w.heap.size 60 l wx (h.belowOf hx (Nat.le_refl _)) (by omega) (by omega) hs)
  clear h h' hs hm
  go_enter Try.func6, Try.ntmps6
  go_wp2_with fail
  refine (awake_any w).mono ?_
  rintro e w1 ⟨rfl, hb1⟩
  have Hb1 := Lib.hid hb1
  have Hlt1 := Lib.hid (Hlt.out w1 hb1)
  clear hb1
  go_wp2_with fail
  refine Hlt1.out.mono ?_
  rintro e w2 ⟨bl, rfl, hbl, q, rfl⟩
  have Hb2 := Lib.hid (below_dr Hb1.out q)
  have Hbl := Lib.hid hbl
  clear hbl Hlt Hlt1
  generalize w1.drewN q = w2 at *
  have hsz2 : w.heap.size ≤ w2.heap.size := Hb2.out.size
  cases bl with
  | false =>
    go_wp2
    go_ret
    exact ⟨rfl, Hb2.out⟩
  | true =>
    have HL := Lib.hid ((Hbl.out rfl).small)
    have hn60 : n ≤ 60 := by have h1 := HL.out.1; rwa [H.out.1] at h1
    clear Hbl
    by_cases hk1 : 4000 < n'
    · go_wp2
      go_ret
      exact ⟨rfl, Hb2.out⟩
    · have Hpl := Lib.hid (packT_len HL.out)
      have Hbk := Lib.hid (fun b (e : packT l = (b, 0)) => (packT_back HL.out e).1)
      have Hul : Hid ((unpackT b).2.length ≤ 4000) := Lib.hid (by have := unpackT_len b; have := Hl'.out; omega)
      have Hus := Lib.hid (fun u (e : unpackT b = (0, u)) => unpackT_small e (by have := Hl'.out; omega))
      have Hp1 := Lib.hid (pack_any A n ca w.heap.size l w2 (H.out.belowOf Hb2.out (Nat.le_refl _)) hsz2 (by omega) HL.out.2)
      go_wp2_with fail
      refine Hp1.out.mono ?_
      intro e w3 hp
      obtain ⟨hb3, A3, m3, c3, rfl, hx3, hm3⟩ := hp.out
      have X3 := Lib.hid hx3
      have Hb3 := Lib.hid (Hb2.out.trans (hb3.mono hsz2))
      have hsz3 : w.heap.size ≤ w3.heap.size := Hb3.out.size
      have Hp2 := Lib.hid (refPack_any A n ca w.heap.size l w3 (H.out.belowOf Hb3.out (Nat.le_refl _)) hsz3 (by omega) HL.out.2)
      clear hp hb3 hx3 Hp1
      go_wp2_with fail
      refine Hp2.out.mono ?_
      intro e w4 hp
      obtain ⟨hb4, A4, m4, c4, rfl, hx4, hm4⟩ := hp.out
      have X4 := Lib.hid hx4
      have X34 := Lib.hid (X3.out.below hb4)
      have Hb4 := Lib.hid (Hb3.out.trans (hb4.mono hsz3))
      have hsz4 : w.heap.size ≤ w4.heap.size := Hb4.out.size
      have hsz34 : w3.heap.size ≤ w4.heap.size := hb4.size
      obtain ⟨⟨pb, pe⟩, hP⟩ : ∃ r, packT l = r := ⟨_, rfl⟩
      rw [hP] at X34 X4 Hpl ⊢
      have HP := Lib.hid hP
      have Hu1 := Lib.hid (unpack_any A' n' ca' w.heap.size b w4 (H'.out.belowOf Hb4.out (Nat.le_refl _)) hsz4 (by omega) hn')
      clear hp hb4 hx4 Hp2 hP X3
      simp only at X34 X4 Hpl
      go_wp2_with fail
      refine Hu1.out.mono ?_
      rintro e w5 ⟨v5, rfl, o5, hb5⟩
      have O5 := Lib.hid o5
      have Hb5 := Lib.hid (Hb4.out.trans (hb5.mono hsz4))
      have X35 := Lib.hid (X34.out.belowOf hb5 (by omega))
      have X45 := Lib.hid (X4.out.belowOf hb5 (Nat.le_refl _))
      have hsz5 : w.heap.size ≤ w5.heap.size := Hb5.out.size
      have hsz45 : w4.heap.size ≤ w5.heap.size := hb5.size
      have Hu2 := Lib.hid (refUnpack_any A' n' ca' w.heap.size b w5 (H'.out.belowOf Hb5.out (Nat.le_refl _)) hsz5 (by omega) hn')
      clear hb5 Hu1 X34 X4 o5
      go_wp2_with fail
      refine Hu2.out.mono ?_
      rintro e w6 ⟨v6, rfl, o6, hb6⟩
      have O6 := Lib.hid o6
      have O56 := Lib.hid (O5.out.below hb6)
      have Hb6 := Lib.hid (Hb5.out.trans (hb6.mono hsz5))
      have X36 := Lib.hid (X35.out.belowOf hb6 (by omega))
      have X46 := Lib.hid (X45.out.belowOf hb6 (by omega))
      have hsz6 : w.heap.size ≤ w6.heap.size := Hb6.out.size
      have hsz56 : w5.heap.size ≤ w6.heap.size := hb6.size
      obtain ⟨⟨ug, u⟩, hU⟩ : ∃ r, unpackT b = r := ⟨_, rfl⟩
      rw [hU] at O56 O6 Hul ⊢
      simp only at O56 O6 Hul
      have HU := Lib.hid hU
      obtain ⟨N, hN⟩ : ∃ N, u.length = N := ⟨_, rfl⟩
      obtain ⟨A5, c5, rfl, hc5, -, hv5⟩ := O56.out.slice
      obtain ⟨A6, c6, rfl, -, -, hv6⟩ := O6.out.slice
      rw [hN] at hv5 hv6 hc5 Hul ⊢
      have V5 := Lib.hid hv5
      have V6 := Lib.hid hv6
      clear hb6 Hu2 X35 X45 o6 hU O5 hv5 hv6 O6 O56
      have hn4 : N ≤ 4000 := Hul.out
      by_cases hp0 : pe = 0
      · subst hp0
        have hun := Hbk.out pb HP.out
        have Hu3 := Lib.hid (unpack_any A3 m3 c3 w6.heap.size pb w6 (X36.out.more (by omega)) (Nat.le_refl _) (by have h1 := (show HasBytes _ _ _ _ _ from X36.out).len; have := Hpl.out; omega) hm3)
        rw [hun] at Hu3
        go_wp2_with fail
        refine Hu3.out.mono ?_
        rintro e w7 ⟨v7, rfl, o7, hb7⟩
        obtain ⟨A7, c7, rfl, -, -, hv7⟩ := o7.slice
        have Hb7 := Lib.hid (Hb6.out.trans (hb7.mono hsz6))
        have hsz7 : w.heap.size ≤ w7.heap.size := Hb7.out.size
        have hsz67 : w6.heap.size ≤ w7.heap.size := hb7.size
        have Hs7 := Lib.hid (chSame_any A7 A l.length n c7 ca _ _ l l w7 hv7 (H.out.belowOf Hb7.out (Nat.le_refl _)) (by have := HL.out.1; unfold maxLen; omega) (by unfold maxLen; omega))
        rw [decide_eq_true rfl] at Hs7
        have X37 := Lib.hid (X36.out.belowOf hb7 (by omega))
        have X47 := Lib.hid (X46.out.belowOf hb7 (by omega))
        have V57 := Lib.hid (V5.out.belowOf hb7 (by omega))
        have V67 := Lib.hid (V6.out.belowOf hb7 (by omega))
        clear hb7 o7 hv7 Hu3
        go_wp2_with fail
        refine Hs7.out.mono ?_
        rintro e w9 ⟨rfl, hb9⟩
        have Hb9 := Lib.hid (Hb7.out.trans (hb9.mono hsz7))
        have hsz9 : w.heap.size ≤ w9.heap.size := Hb9.out.size
        have hsz79 : w7.heap.size ≤ w9.heap.size := hb9.size
        have X39 := Lib.hid (X37.out.belowOf hb9 (by omega))
        have X49 := Lib.hid (X47.out.belowOf hb9 (by omega))
        have V59 := Lib.hid (V57.out.belowOf hb9 (by omega))
        have V69 := Lib.hid (V67.out.belowOf hb9 (by omega))
        clear hb9
        by_cases hg : ug = 0
        · subst hg
          obtain ⟨hu1, hu2, hu3⟩ := Hus.out u HU.out
          have Hp3 := Lib.hid (packMany_any A5 N c5 w9.heap.size u w9 (V59.out.more (by omega)) (Nat.le_refl _) (by omega) hu2)
          go_wp2_with fail
          refine Hp3.out.mono ?_
          intro e w8 hp
          obtain ⟨hb8, A8, m8, c8, rfl, hx8, hm8⟩ := hp.out
          rw [hu3] at hx8 ⊢
          have X38 := Lib.hid (X39.out.belowOf hb8 (by omega))
          have X48 := Lib.hid (X49.out.belowOf hb8 (by omega))
          have V58 := Lib.hid (V59.out.belowOf hb8 (by omega))
          have V68 := Lib.hid (V69.out.belowOf hb8 (by omega))
          have Hb8 := Lib.hid (Hb9.out.trans (hb8.mono hsz9))
          have hsz8 : w.heap.size ≤ w8.heap.size := Hb8.out.size
          have cv8 := string_run hx8 c8
          have cvb := string_run (H'.out.belowOf Hb8.out (Nat.le_refl _)) ca'
          clear hp hb8 hx8 Hp3 hu1 hu2 hu3
          have cv3 := string_run X38.out c3
          have cv4 := string_run X48.out c4
          have hsm := Lib.hid (chSame_any A5 A6 N N c5 c6 _ _ u u w8 V58.out V68.out (by unfold maxLen; omega) (by unfold maxLen; omega))
          rw [decide_eq_true rfl] at hsm
          go_wp2_with (go_at_call 12; refine hsm.out.mono ?_; rintro e wz ⟨rfl, hbz⟩; have HbZ := Lib.hid (Hb8.out.trans (hbz.mono hsz8)))
          go_ret
          exact ⟨rfl, HbZ.out⟩
        · have hg' : ¬ ((ug : Int) = 0) := by omega
          have cv3 := string_run X39.out c3
          have cv4 := string_run X49.out c4
          have hsm := Lib.hid (chSame_any A5 A6 N N c5 c6 _ _ u u w9 V59.out V69.out (by unfold maxLen; omega) (by unfold maxLen; omega))
          rw [decide_eq_true rfl] at hsm
          go_wp2_with (go_at_call 12; refine hsm.out.mono ?_; rintro e wz ⟨rfl, hbz⟩; have HbZ := Lib.hid (Hb9.out.trans (hbz.mono hsz9)))
          go_ret
          exact ⟨rfl, HbZ.out⟩
      · have hp0' : ¬ ((pe : Int) = 0) := by omega
        have V56 := V5
        have V66 := V6
        by_cases hg : ug = 0
        · subst hg
          obtain ⟨hu1, hu2, hu3⟩ := Hus.out u HU.out
          have Hp3 := Lib.hid (packMany_any A5 N c5 w6.heap.size u w6 (V56.out.more (by omega)) (Nat.le_refl _) (by omega) hu2)
          go_wp2_with fail
          refine Hp3.out.mono ?_
          intro e w8 hp
          obtain ⟨hb8, A8, m8, c8, rfl, hx8, hm8⟩ := hp.out
          rw [hu3] at hx8 ⊢
          have X38 := Lib.hid (X36.out.belowOf hb8 (by omega))
          have X48 := Lib.hid (X46.out.belowOf hb8 (by omega))
          have V58 := Lib.hid (V56.out.belowOf hb8 (by omega))
          have V68 := Lib.hid (V66.out.belowOf hb8 (by omega))
          have Hb8 := Lib.hid (Hb6.out.trans (hb8.mono hsz6))
          have hsz8 : w.heap.size ≤ w8.heap.size := Hb8.out.size
          have cv8 := string_run hx8 c8
          have cvb := string_run (H'.out.belowOf Hb8.out (Nat.le_refl _)) ca'
          clear hp hb8 hx8 Hp3 hu1 hu2 hu3
          have cv3 := string_run X38.out c3
          have cv4 := string_run X48.out c4
          have hsm := Lib.hid (chSame_any A5 A6 N N c5 c6 _ _ u u w8 V58.out V68.out (by unfold maxLen; omega) (by unfold maxLen; omega))
          rw [decide_eq_true rfl] at hsm
          go_wp2_with (go_at_call 12; refine hsm.out.mono ?_; rintro e wz ⟨rfl, hbz⟩; have HbZ := Lib.hid (Hb8.out.trans (hbz.mono hsz8)))
          go_ret
          exact ⟨rfl, HbZ.out⟩
        · have hg' : ¬ ((ug : Int) = 0) := by omega
          have cv3 := string_run X36.out c3
          have cv4 := string_run X46.out c4
          have hsm := Lib.hid (chSame_any A5 A6 N N c5 c6 _ _ u u w6 V56.out V66.out (by unfold maxLen; omega) (by unfold maxLen; omega))
          rw [decide_eq_true rfl] at hsm
          go_wp2_with (go_at_call 12; refine hsm.out.mono ?_; rintro e wz ⟨rfl, hbz⟩; have HbZ := Lib.hid (Hb6.out.trans (hbz.mono hsz6)))
          go_ret
          exact ⟨rfl, HbZ.out⟩

namespace lawRunPacks
open Go.ChangeShapes Go.WideShapes Go.ChangeAt

theorem own : ownKnob Try.prog.godebug = none := by kernel_rfl
theorem kids : Kids Try.prog (· < Try.prog.types.size) := kids_rows (by kernel_rfl) (by kernel_rfl)
theorem full : ∀ t e, t < Try.prog.types.size → Try.prog.underlying t = some (.slice e) → 0 < Try.prog.cellsOf e := slices_full_of Try.prog (by kernel_rfl)

set_option maxRecDepth 100000 in
theorem lifted (os : Os) (started : os.Started) (H : Type) (enc : TypeId × Value → H) :
    ReturnsInHanded {} Try.checked os 6 .any (Rows.runPacksSpec.pre6 enc Try.prog Try.f6 Rows.runPacksRow.domain false) (Rows.runPacksSpec.post enc Try.prog Try.f6 false true false false) := by
  refine returnsInHanded_of_change (C := Try.checked) own started (by kernel_rfl) Try.func6
    (ChangeSpec.witness6 (enc := enc) (C := Try.checked) false ⟨#[], #[.slice none 0 0, .slice none 0 0], []⟩ 8 (by kernel_rfl) (by kernel_rfl) (by kernel_rfl) (by kernel_rfl)) ?_
  intro W base args ds gs before hval0 hW _ _
  have hval : ∀ (j : Nat) t v, Try.f6.params[j]? = some t → args[j]? = some v → Value.okWide Try.prog W .any base t v := hval0
  have hW' := hW
  obtain ⟨p, q, hA0, hV, rfl, _, _⟩ := hW
  obtain ⟨rfl, rfl⟩ := trodVars_none hV
  have hA : DataW.TrodAll enc Try.prog W 0 (fun _ => true) true Try.f6.params.toList args.toList ds p := hA0
  rw [Try.params6] at hA hval
  obtain ⟨v0, vs0, d0, ds0, p0, q0, hargs, rfl, rfl, h0, r0⟩ := trodAll_cons hA
  obtain ⟨v1, vs1, d1, ds1, p1, q1, rfl, rfl, rfl, h1, r1⟩ := trodAll_cons r0
  obtain ⟨rfl, rfl, rfl⟩ := trodAll_nil r1
  obtain rfl : args = #[v0, v1] := by cases args; simp_all
  have hlt := hW'.lt
  obtain ⟨A0, n0, c0, l0, rfl, hnc0, hm0, hb0, hs0⟩ := open_changes Try.underlying22 Try.underlying38 (by kernel_rfl) ⟨rfl, rfl, rfl⟩ ⟨by kernel_rfl, by kernel_rfl, by kernel_rfl⟩ ⟨by kernel_rfl, by kernel_rfl, by kernel_rfl⟩ (hval 0 22 v0 rfl rfl) h0 (fun x hx => hlt x (by simp [hx]))
  obtain ⟨A1, n1, c1, l1, rfl, hn1, hnc1, hb1⟩ := open_bytes Try.underlying46 Try.underlying5 (by kernel_rfl) (hval 1 46 v1 rfl rfl) h1 (fun x hx => hlt x (by simp [hx]))
  refine (packs_walk A0 n0 c0 l0 A1 n1 c1 l1 W hb0 hnc0 hm0 hs0 hb1 hnc1).mono fun e W' ⟨he, hbel⟩ => ?_
  subst he
  exact ⟨_, rfl, law_post kids full (of_decide_eq_true (by kernel_rfl)) Try.underlying4 rfl rfl rfl hW' hbel⟩

theorem proved : Rows.RunPacksSaid :=
  OpenClaim.holds_of_wide 6 Try.f6 rfl rfl rfl rfl rfl rfl rfl ⟨rfl, rfl, rfl, rfl, rfl⟩ rfl rfl rfl rfl rfl (by kernel_rfl) Try.func6 (by kernel_rfl)
    (of_decide_eq_true (by kernel_rfl)) (by unfold Func.isWrapper; first | (rw [if_pos (by decide +kernel)]; kernel_rfl) | (rw [if_neg (by decide +kernel)]; exact ⟨rfl, rfl⟩))
    (fun os started H enc _ => lifted os started H enc)
end lawRunPacks

end Go.Proofs.Ytmbolempigbkdaa

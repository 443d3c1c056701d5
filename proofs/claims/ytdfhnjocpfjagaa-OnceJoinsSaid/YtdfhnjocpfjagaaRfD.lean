/- The document's table of layer 17: Keep. Condition: the table is in memory. -/
import Derived.Test.YtdfhnjocpfjagaaRfC
namespace Go.Proofs.Ytdfhnjocpfjagaa
open Go.RowKit

theorem bad_rec {r : Rp} (h1 : 0 ≤ r.code ∧ r.code ≤ 1099511627776) (h2 : 0 ≤ r.id ∧ r.id ≤ 1099511627776) {c n : Int} (h0 : ¬ badT c n) {m : Nat} (hm : m = 0) : (badT c n ∨ ¬ (r.Right ∧ m = 0)) ↔ rowErr r.rc ≠ 0 := by
  constructor
  · rintro (h | h)
    · exact absurd h h0
    · exact fun e => h ⟨⟨h1, h2, e⟩, hm⟩
  · exact fun h => .inr fun e => h e.1.2.2
theorem keepRE_bad {c n : Int} {r : Rp} {m : Nat} {R : Rf} (h : badT c n ∨ ¬ (r.Right ∧ m = 0)) : keepRE c n r m R = 1 := by unfold keepRE; rw [if_pos h]
theorem keepRE_ok {c n : Int} {r : Rp} {m : Nat} {R : Rf} (h : ¬ (badT c n ∨ ¬ (r.Right ∧ m = 0))) : keepRE c n r m R = if (lookR c n R).2 = 0 then 8 else if (lookR c n R).2 = 12 then 12 else 0 := by unfold keepRE; rw [if_neg h]
theorem keepR_not {c n : Int} {r : Rp} {m : Nat} {R : Rf} (h : keepRE c n r m R ≠ 0) : keepR c n r m R = R := by unfold keepR; rw [if_neg h]
theorem keepR_yes {c n : Int} {r : Rp} {m : Nat} {R : Rf} (h : keepRE c n r m R = 0) : keepR c n r m R = putR (c, n, r) R := by unfold keepR; rw [if_pos h]
theorem lookR_codes {c n : Int} {R : Rf} (h : ¬ badT c n) : (lookR c n R).2 = 0 ∨ (lookR c n R).2 = 12 ∨ (lookR c n R).2 = 7 := by
  unfold lookR
  rw [if_neg h]
  split
  · exact .inr (.inl rfl)
  · split
    · exact .inl rfl
    · exact .inr (.inr rfl)
/-- what Keep of the document's table does -/
def KeepRPost (F : Nat → Prop) (rb : Nat) (z : Int) (R : Rf) (w : World) (e : Ending) (w' : World) : Prop := e = .returned (.int .i64 z) ∧ RefAt w' (addF F w w') rb R ∧ KeptF (fun i => i = rb) w w' ∧ KV w w'
theorem keepR_same {F : Nat → Prop} {w w' : World} {rb : Nat} {v u : Value} {L : List OE} {Q : List (Int × Int)} (h : RefM w F rb v u L Q) (hb : Below w.heap.size w w') {c n : Int} {r : Rp} {m : Nat} {z : Int} (hz : keepRE c n r m ⟨L.map OE.one, Q⟩ = z) (h0 : z ≠ 0) :
    KeepRPost F rb (keepRE c n r m ⟨L.map OE.one, Q⟩) (keepR c n r m ⟨L.map OE.one, Q⟩) w (.returned (.int .i64 z)) w' := by
  rw [keepR_not (by rw [hz]; exact h0), hz]
  exact ⟨rfl, ⟨_, _, _, (h.below hb).grow (fun i hi => .inl hi) h.lt hb.size, rfl⟩, KeptF.of hb, KV.of hb⟩
section
variable {F : Nat → Prop} {w : World} {rb : Nat} {v u : Value} {L : List OE} {Q : List (Int × Int)}
set_option maxRecDepth 100000 in
set_option maxHeartbeats 12800000 in
theorem refKeep_any (h : RefM w F rb v u L Q) (hQ : Q.length ≤ 40000) (hL : L.length ≤ 40000) (hr : RiseG Q) (hlex : Lex (L.map OE.one)) (c n : Int) (r : Rp) (A : Option Addr) (rn d m : Nat) (X : Option Addr) (y C : Nat) (hv : HasVals w C A rn r.rc) (hrn : rn ≤ maxLen) (hC : C ≤ w.heap.size) :
    Calls Try.prog 54 #[.pointer (some ⟨rb, 0, none⟩), .int .i64 c, .int .i64 n, .agg #[.int .i64 r.code, .bool r.there, .slice A rn d, .slice X m y, .int .i64 r.id]] w (KeepRPost F rb (keepRE c n r m ⟨L.map OE.one, Q⟩) (keepR c n r m ⟨L.map OE.one, Q⟩) w) := by
  obtain ⟨w1, hw1⟩ : ∃ w1, w.alloc (.cells #[.int .i64 r.code, .bool r.there, .slice A rn d, .slice X m y, .int .i64 r.id] 82) = w1 := ⟨_, rfl⟩
  have bx1 : Box w1 w.heap.size 82 #[.int .i64 r.code, .bool r.there, .slice A rn d, .slice X m y, .int .i64 r.id] := hw1 ▸ Box.made _ _ _
  have bw1 : Below w.heap.size w w1 := hw1 ▸ below_box _
  have Hbad := Lib.hid (refBad_any c n w1)
  have Hck := Lib.hid (refRecCheck_any A rn d C r.rc w1 (hv.belowOf bw1 hC) hrn (Nat.le_trans hC bw1.size))
  have Hl := Lib.hid hv.1
  have H := Lib.hid h
  have HV := Lib.hid (hv.more hC)
  have H0 := Lib.hid (And.intro bx1 bw1)
  have Hr := Lib.hid hr
  have Hlex := Lib.hid hlex
  have p0 : w1.cell? ⟨w.heap.size, 0, none⟩ = some (.int .i64 r.code) := bx1.cell 0
  have p2 : w1.cell? ⟨w.heap.size, 2, none⟩ = some (.slice A rn d) := bx1.cell 2
  have p3 : w1.cell? ⟨w.heap.size, 3, none⟩ = some (.slice X m y) := bx1.cell 3
  have p4 : w1.cell? ⟨w.heap.size, 4, none⟩ = some (.int .i64 r.id) := bx1.cell 4
  clear h hv bx1 bw1 hr hlex
  go_enter Try.func54, Try.ntmps54
  go_upto_region 1 with fail
  obtain ⟨D, hD⟩ : ∃ D, decide (badT c n ∨ ¬ (r.Right ∧ m = 0)) = D := ⟨_, rfl⟩
  have HD := Lib.hid hD
  clear hD
  go_cut [52] (fun t wx => t = .bool D ∧ Hid (Box wx w.heap.size 82 #[.int .i64 r.code, .bool r.there, .slice A rn d, .slice X m y, .int .i64 r.id] ∧ Below w.heap.size w wx))
  case first =>
    by_cases z1 : badT c n
    · rw [decide_eq_true z1] at Hbad
      go_wp2_with fail
      refine Hbad.out.mono ?_
      rintro e w1 ⟨rfl, hq⟩
      subst hq
      go_wp2
      go_meet
      exact ⟨by rw [← HD.out, decide_eq_true (.inl z1)], H0.out⟩
    · rw [decide_eq_false z1] at Hbad
      by_cases z2 : 0 < m
      · have y2 : (0 : Int) < (m : Int) := by omega
        go_wp2_with fail
        refine Hbad.out.mono ?_
        rintro e w1 ⟨rfl, hq⟩
        subst hq
        go_wp2
        go_meet
        exact ⟨by rw [← HD.out, decide_eq_true (.inr fun e => by have := e.2; omega)], H0.out⟩
      · have hm0 : m = 0 := by omega
        subst hm0
        clear z2
        by_cases z3 : r.code < 0
        · go_wp2_with fail
          refine Hbad.out.mono ?_
          rintro e w1 ⟨rfl, hq⟩
          subst hq
          go_wp2
          go_meet
          exact ⟨by rw [← HD.out, decide_eq_true (.inr fun e => by have := e.1.1.1; omega)], H0.out⟩
        · skip
          by_cases z4 : 1099511627776 < r.code
          · go_wp2_with fail
            refine Hbad.out.mono ?_
            rintro e w1 ⟨rfl, hq⟩
            subst hq
            go_wp2
            go_meet
            exact ⟨by rw [← HD.out, decide_eq_true (.inr fun e => by have := e.1.1.2; omega)], H0.out⟩
          · skip
            by_cases z5 : r.id < 0
            · go_wp2_with fail
              refine Hbad.out.mono ?_
              rintro e w1 ⟨rfl, hq⟩
              subst hq
              go_wp2
              go_meet
              exact ⟨by rw [← HD.out, decide_eq_true (.inr fun e => by have := e.1.2.1.1; omega)], H0.out⟩
            · skip
              by_cases z6 : 1099511627776 < r.id
              · go_wp2_with fail
                refine Hbad.out.mono ?_
                rintro e w1 ⟨rfl, hq⟩
                subst hq
                go_wp2
                go_meet
                exact ⟨by rw [← HD.out, decide_eq_true (.inr fun e => by have := e.1.2.1.2; omega)], H0.out⟩
              · skip
                have hI := bad_rec (r := r) (c := c) (n := n) (m := 0) (by omega) (by omega) z1 rfl
                have HI : Hid ((rowErr r.rc = 0 → D = false) ∧ (rowErr r.rc ≠ 0 → D = true)) := Lib.hid ⟨fun e => by rw [← HD.out]; exact decide_eq_false fun q => hI.1 q e, fun e => by rw [← HD.out]; exact decide_eq_true (hI.2 e)⟩
                clear hI
                by_cases z7 : rn = 0
                · subst z7
                  go_wp2_with fail
                  refine Hbad.out.mono ?_
                  rintro e w1 ⟨rfl, hq⟩
                  subst hq
                  have Hw : Hid (D = false) := Lib.hid (HI.out.1 (by rw [List.eq_nil_of_length_eq_zero Hl.out]; rfl))
                  go_wp2
                  go_meet
                  exact ⟨by rw [Hw.out]; first | rfl | (simp; omega), H0.out⟩
                · have z8 : (0 : Int) < (rn : Int) := by omega
                  have HE : Hid (recErr r.rc = rowErr r.rc) := Lib.hid (by unfold recErr; rw [if_neg (by rw [Hl.out]; exact z7)])
                  rw [HE.out] at Hck
                  obtain ⟨z, hz⟩ : ∃ z, rowErr r.rc = z := ⟨_, rfl⟩
                  rw [hz] at Hck HI
                  clear hz z7
                  go_wp2_with fail
                  refine Hbad.out.mono ?_
                  rintro e w1 ⟨rfl, hq⟩
                  subst hq
                  go_wp2_with fail
                  refine Hck.out.mono ?_
                  rintro e w2 ⟨rfl, b2⟩
                  have H2 : Hid (Box w2 w.heap.size 82 #[.int .i64 r.code, .bool r.there, .slice A rn d, .slice X 0 y, .int .i64 r.id] ∧ Below w.heap.size w w2) := Lib.hid ⟨H0.out.1.below b2 H0.out.1.lt, H0.out.2.trans (b2.mono H0.out.2.size)⟩
                  clear b2
                  by_cases z9 : z = 0
                  · subst z9
                    go_wp2
                    go_meet
                    exact ⟨by rw [HI.out.1 (by first | rfl | trivial)]; first | rfl | (simp; omega), H2.out⟩
                  · have z10 : ((z : Int) != 0) = true := by simpa using z9
                    have HI9 := Lib.hid (HI.out.2 z9)
                    clear z9
                    go_wp2
                    go_meet
                    exact ⟨by rw [HI9.out], H2.out⟩
  case rest =>
    obtain ⟨rfl, HC⟩ := hcut
    by_cases hbad : badT c n ∨ ¬ (r.Right ∧ m = 0)
    · obtain rfl : D = true := by rw [← HD.out]; exact decide_eq_true hbad
      have HE := Lib.hid (keepR_same (r := r) (m := m) (c := c) (n := n) H.out HC.out.2 (keepRE_bad hbad) (by decide))
      clear hbad
      go_wp2
      go_ret
      exact HE.out
    · obtain rfl : D = false := by rw [← HD.out]; exact decide_eq_false hbad
      have HK := Lib.hid (keepRE_ok (R := ⟨L.map OE.one, Q⟩) hbad)
      have HCo := Lib.hid (lookR_codes (R := ⟨L.map OE.one, Q⟩) (c := c) (n := n) (fun e => hbad (.inl e)))
      have hRt : r.Right := Decidable.byContradiction fun e => hbad (.inr fun q => e q.1)
      have hm0 : m = 0 := Decidable.byContradiction fun e => hbad (.inr fun q => e q.2)
      have hr4 := (right_small hRt).1
      rw [Hl.out] at hr4
      subst hm0
      have HLk := Lib.hid (refLook_any (H.out.below HC.out.2) (by omega) (by omega) Hr.out c n)
      obtain ⟨R, hR⟩ : ∃ R, lookR c n ⟨L.map OE.one, Q⟩ = R := ⟨_, rfl⟩
      rw [hR] at HLk HCo HK
      clear hbad hRt hR
      go_wp2_with fail
      refine HLk.out.mono ?_
      rintro e w2 ⟨A2, d2, X2, y2, rfl, -, b2⟩
      obtain ⟨⟨code2, there2, rc2, id2⟩, z2⟩ := R
      simp only at HCo HK
      have H2 : Hid (Box w2 w.heap.size 82 #[.int .i64 r.code, .bool r.there, .slice A rn d, .slice X 0 y, .int .i64 r.id] ∧ Below w.heap.size w w2) := Lib.hid ⟨HC.out.1.below b2 HC.out.1.lt, HC.out.2.trans (b2.mono HC.out.2.size)⟩
      clear b2
      obtain ⟨w4a, hw4a⟩ : ∃ wx, w2.alloc (.cells #[.int .i64 0, .bool false, .slice none 0 0, .slice none 0 0, .int .i64 0] 82) = wx := ⟨_, rfl⟩
      have xw4a : Box w4a w2.heap.size 82 #[.int .i64 0, .bool false, .slice none 0 0, .slice none 0 0, .int .i64 0] := hw4a ▸ Box.made _ _ _
      have uw4a : Below w2.heap.size w2 w4a := hw4a ▸ below_box _
      obtain ⟨w4, hw4⟩ : ∃ wx, (((((w4a.setCell ⟨w2.heap.size, 0, none⟩ (.int .i64 code2)).setCell ⟨w2.heap.size, 1, none⟩ (.bool there2)).setCell ⟨w2.heap.size, 2, none⟩ (.slice A2 rc2.length d2)).setCell ⟨w2.heap.size, 3, none⟩ (.slice X2 0 y2)).setCell ⟨w2.heap.size, 4, none⟩ (.int .i64 id2)) = wx := ⟨_, rfl⟩
      obtain ⟨xw4, gw4, sw4⟩ := store5 xw4a hw4
      have uw4 : Below w2.heap.size w2 w4 := uw4a.grown gw4 uw4a.size (fun g hg => by injection hg with hg; omega)
      have da0 : w4a.cell? ⟨w2.heap.size, 0, none⟩ = some (.int .i64 0) := xw4a.cell 0
      have da1 : w4a.cell? ⟨w2.heap.size, 1, none⟩ = some (.bool false) := xw4a.cell 1
      have da2 : w4a.cell? ⟨w2.heap.size, 2, none⟩ = some (.slice none 0 0) := xw4a.cell 2
      have da3 : w4a.cell? ⟨w2.heap.size, 3, none⟩ = some (.slice none 0 0) := xw4a.cell 3
      have da4 : w4a.cell? ⟨w2.heap.size, 4, none⟩ = some (.int .i64 0) := xw4a.cell 4
      have fa0 : w4a.frozen? ⟨w2.heap.size, 0, none⟩ = false := xw4a.frozen 0
      have fa1 : w4a.frozen? ⟨w2.heap.size, 1, none⟩ = false := xw4a.frozen 1
      have fa2 : w4a.frozen? ⟨w2.heap.size, 2, none⟩ = false := xw4a.frozen 2
      have fa3 : w4a.frozen? ⟨w2.heap.size, 3, none⟩ = false := xw4a.frozen 3
      have fa4 : w4a.frozen? ⟨w2.heap.size, 4, none⟩ = false := xw4a.frozen 4
      have H4 : Hid (Box w4 w.heap.size 82 #[.int .i64 r.code, .bool r.there, .slice A rn d, .slice X 0 y, .int .i64 r.id] ∧ Below w.heap.size w w4) := Lib.hid ⟨H2.out.1.below uw4 H2.out.1.lt, H2.out.2.trans (uw4.mono H2.out.2.size)⟩
      have e0 : w4.cell? ⟨w.heap.size, 0, none⟩ = some (.int .i64 r.code) := H4.out.1.cell 0
      have e1 : w4.cell? ⟨w.heap.size, 1, none⟩ = some (.bool r.there) := H4.out.1.cell 1
      have e2 : w4.cell? ⟨w.heap.size, 2, none⟩ = some (.slice A rn d) := H4.out.1.cell 2
      clear xw4a uw4a xw4 gw4 sw4 uw4
      rcases HCo.out with hz | hz | hz
      · subst hz
        have HE := Lib.hid (keepR_same (r := r) (m := 0) (c := c) (n := n) H.out H4.out.2 (HK.out.trans (if_pos rfl)) (by decide))
        go_wp2
        go_ret
        exact HE.out
      · subst hz
        have HE := Lib.hid (keepR_same (r := r) (m := 0) (c := c) (n := n) H.out H4.out.2 (z := 12) (by rw [HK.out]; rfl) (by decide))
        go_wp2
        go_ret
        exact HE.out
      · subst hz
        have HE0 : Hid (keepRE c n r 0 ⟨L.map OE.one, Q⟩ = 0) := Lib.hid (by rw [HK.out]; rfl)
        have hs4 := H4.out.2.size
        have HO := Lib.hid (World.ownsRow_nil w4 w4.heap.size 47 3)
        go_wp2_with (at_builtin; go_loud (refine wpList_append_hasN rfl (.tmp 64) (.tmp 66) _ rfl 47 val_elem (by omega) Try.underlying79 rfl HO.out rfl (HV.out.belowOf H4.out.2 (Nat.le_refl _)).2 (valCells_one _) (by simp only [maxLen]; omega) (by omega) (Nat.le_refl _) ?_; intro v5 w5 o5 g5 z5; rw [List.nil_append, Nat.zero_add] at o5; obtain ⟨A5, d5, rfl, -, -, -⟩ := own_sliceN o5; have b5 : Below w4.heap.size w4 w5 := (Below.refl _ w4).grown g5 (Nat.le_refl _) (fun g hg => by cases hg); have HE5 := Lib.hid (And.intro o5 (And.intro (H4.out.1.below b5 H4.out.1.lt) (H4.out.2.trans (b5.mono hs4)))); have i2 : w5.cell? ⟨w.heap.size, 2, none⟩ = some (.slice A rn d) := HE5.out.2.1.cell 2; have j2 : w5.frozen? ⟨w.heap.size, 2, none⟩ = false := HE5.out.2.1.frozen 2; obtain ⟨w6, hw6⟩ : ∃ wx, w5.setCell ⟨w.heap.size, 2, none⟩ (.slice A5 rn d5) = wx := ⟨_, rfl⟩; have x6 : Box w6 w.heap.size 82 #[.int .i64 r.code, .bool r.there, .slice A5 rn d5, .slice X 0 y, .int .i64 r.id] := (by have h9 := HE5.out.2.1.set_ 2 (.slice A5 rn d5); rw [hw6] at h9; simpa using h9); have b6 : Below w.heap.size w w6 := HE5.out.2.2.grown (hw6 ▸ grown_set w5 w.heap.size 2 (.slice A5 rn d5)) HE5.out.2.2.size (fun g hg => by injection hg with hg; omega); have HE6 : Hid (OwnVals w6 0 (.slice A5 r.rc.length d5) r.rc ∧ Box w6 w.heap.size 82 #[.int .i64 r.code, .bool r.there, .slice A5 rn d5, .slice X 0 y, .int .i64 r.id] ∧ Below w.heap.size w w6) := Lib.hid (by refine ⟨?_, x6, b6⟩; unfold OwnVals; rw [Hl.out]; exact own_baseN (hw6 ▸ ownL_keep HE5.out.1 fun g hg => Below.heap_setCell w5 ⟨w.heap.size, 2, none⟩ _ g fun e => by have h1 := (HE5.out.1.lt g hg).1; have h2 := H4.out.1.lt; simp only at e; omega) (Nat.zero_le _)); have HPt := Lib.hid (refPutO_any (H.out.below HE6.out.2.2) (by omega) (by omega) Hr.out Hlex.out ⟨c, n, r, A5, d5, X, y⟩ HE6.out.1); simp only [Hl.out] at HPt; have t0 : w6.cell? ⟨w.heap.size, 0, none⟩ = some (.int .i64 r.code) := x6.cell 0; have t1 : w6.cell? ⟨w.heap.size, 1, none⟩ = some (.bool r.there) := x6.cell 1; have t2 : w6.cell? ⟨w.heap.size, 2, none⟩ = some (.slice A5 rn d5) := x6.cell 2; have t3 : w6.cell? ⟨w.heap.size, 3, none⟩ = some (.slice X 0 y) := x6.cell 3; have t4 : w6.cell? ⟨w.heap.size, 4, none⟩ = some (.int .i64 r.id) := x6.cell 4; clear x6 b6; clear o5 b5 g5 z5))
        refine HPt.out.mono ?_
        rintro e w7 ⟨rfl, r7, k7, v7⟩
        have HE7 := Lib.hid (And.intro r7 (And.intro k7 v7))
        clear r7 k7 v7
        go_wp2
        go_ret
        have hs6 := HE6.out.2.2.size
        have hs7 := HE7.out.2.1.size
        refine ⟨ret_i64 (by rw [HE0.out]), ?_, (KeptF.of HE6.out.2.2).trans0 HE7.out.2.1, (KV.of HE6.out.2.2).trans HE7.out.2.2⟩
        rw [keepR_yes HE0.out]
        exact HE7.out.1.grow (fun i hi => hi.elim .inl fun hi => .inr ⟨by omega, hi.2⟩) H.out.lt (by omega)
end
end Go.Proofs.Ytdfhnjocpfjagaa

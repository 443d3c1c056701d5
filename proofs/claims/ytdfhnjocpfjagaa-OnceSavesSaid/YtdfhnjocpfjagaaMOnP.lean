/- Layer 17: the document's table beside others; the law's same. Condition: the tables are in memory, the document's says what the clients' pasts say. -/
import Derived.Test.YtdfhnjocpfjagaaRfC
import Derived.Test.YtdfhnjocpfjagaaOnA
import Derived.Test.YtdfhnjocpfjagaaOpenOnce
import Derived.Test.YtdfhnjocpfjagaaTupS
import Derived.Test.YtdfhnjocpfjagaaRecB
import Derived.BigQuiet
namespace Go.Proofs.Ytdfhnjocpfjagaa
open Go.RowKit

theorem bad_rec {r : Rp} (h1 : 0 ≤ r.code ∧ r.code ≤ 1099511627776) (h2 : 0 ≤ r.id ∧ r.id ≤ 1099511627776) {c n : Int} (h0 : ¬ badT c n) {m : Nat} (hm : m = 0) : (badT c n ∨ ¬ (r.Right ∧ m = 0)) ↔ rowErr r.rc ≠ 0 := by
  constructor
  · rintro (h | h)
    · exact absurd h h0
    · exact fun e => h ⟨⟨h1, h2, e⟩, hm⟩
  · exact fun h => .inr fun e => h e.1.2.2
theorem keepRE_bad {c n : Int} {r : Rp} {m : Nat} {R : Rf} (h : badT c n ∨ ¬ (r.Right ∧ m = 0)) : keepRE c n r m R = 1 := by unfold keepRE; rw [if_pos h]
theorem keepRE_ok {c n : Int} {r : Rp} {m : Nat} {R : Rf} (h : ¬ (badT c n ∨ ¬ (r.Right ∧ m = 0))) : keepRE c n r m R = if (lookR c n R).2 = 0 then 8 else if (lookR c n R).2 = 12 then 12 else 0 := by unfold keepRE; rw [if_neg h]
theorem keepR_not {c n : Int} {r : Rp} {m : Nat} {R : Rf} (h : keepRE c n r m R ≠ 0) : keepR c n r m R = R := by unfold keepR; rw [if_neg h]
theorem keepR_yes {c n : Int} {r : Rp} {m : Nat} {R : Rf} (h : keepRE c n r m R = 0) : keepR c n r m R = putR (c, n, r) R := by unfold keepR; rw [if_pos h]
theorem lookR_codes {c n : Int} {R : Rf} (h : ¬ badT c n) : (lookR c n R).2 = 0 ∨ (lookR c n R).2 = 12 ∨ (lookR c n R).2 = 7 := by
  unfold lookR
  rw [if_neg h]
  split
  · exact .inr (.inl rfl)
  · split
    · exact .inl rfl
    · exact .inr (.inr rfl)
/-- what Keep of the document's table does -/
def KeepRPost (F : Nat → Prop) (rb : Nat) (z : Int) (R : Rf) (w : World) (e : Ending) (w' : World) : Prop := e = .returned (.int .i64 z) ∧ RefAt w' (addF F w w') rb R ∧ KeptF (fun i => i = rb) w w' ∧ KV w w'
theorem keepR_same {F : Nat → Prop} {w w' : World} {rb : Nat} {v u : Value} {L : List OE} {Q : List (Int × Int)} (h : RefM w F rb v u L Q) (hb : Below w.heap.size w w') {c n : Int} {r : Rp} {m : Nat} {z : Int} (hz : keepRE c n r m ⟨L.map OE.one, Q⟩ = z) (h0 : z ≠ 0) :
    KeepRPost F rb (keepRE c n r m ⟨L.map OE.one, Q⟩) (keepR c n r m ⟨L.map OE.one, Q⟩) w (.returned (.int .i64 z)) w' := by
  rw [keepR_not (by rw [hz]; exact h0), hz]
  exact ⟨rfl, ⟨_, _, _, (h.below hb).grow (fun i hi => .inl hi) h.lt hb.size, rfl⟩, KeptF.of hb, KV.of hb⟩
section
variable {F : Nat → Prop} {w : World} {rb : Nat} {v u : Value} {L : List OE} {Q : List (Int × Int)}
set_option maxRecDepth 100000 in
set_option maxHeartbeats 12800000 in
theorem refKeep_any (h : RefM w F rb v u L Q) (hQ : Q.length ≤ 40000) (hL : L.length ≤ 40000) (hr : RiseG Q) (hlex : Lex (L.map OE.one)) (c n : Int) (r : Rp) (A : Option Addr) (rn d m : Nat) (X : Option Addr) (y C : Nat) (hv : HasVals w C A rn r.rc) (hrn : rn ≤ maxLen) (hC : C ≤ w.heap.size) :
    Calls Try.prog 54 #[.pointer (some ⟨rb, 0, none⟩), .int .i64 c, .int .i64 n, .agg #[.int .i64 r.code, .bool r.there, .slice A rn d, .slice X m y, .int .i64 r.id]] w (KeepRPost F rb (keepRE c n r m ⟨L.map OE.one, Q⟩) (keepR c n r m ⟨L.map OE.one, Q⟩) w) := by
  obtain ⟨w1, hw1⟩ : ∃ w1, w.alloc (.cells #[.int .i64 r.code, .bool r.there, .slice A rn d, .slice X m y, .int .i64 r.id] 82) = w1 := ⟨_, rfl⟩
  have bx1 : Box w1 w.heap.size 82 #[.int .i64 r.code, .bool r.there, .slice A rn d, .slice X m y, .int .i64 r.id] := hw1 ▸ Box.made _ _ _
  have bw1 : Below w.heap.size w w1 := hw1 ▸ below_box _
  have Hbad := Lib.hid (refBad_any c n w1)
  have Hck := Lib.hid (refRecCheck_any A rn d C r.rc w1 (hv.belowOf bw1 hC) hrn (Nat.le_trans hC bw1.size))
  have Hl := Lib.hid hv.1
  have H := Lib.hid h
  have HV := Lib.hid (hv.more hC)
  have H0 := Lib.hid (And.intro bx1 bw1)
  have Hr := Lib.hid hr
  have Hlex := Lib.hid hlex
  have p0 : w1.cell? ⟨w.heap.size, 0, none⟩ = some (.int .i64 r.code) := bx1.cell 0
  have p2 : w1.cell? ⟨w.heap.size, 2, none⟩ = some (.slice A rn d) := bx1.cell 2
  have p3 : w1.cell? ⟨w.heap.size, 3, none⟩ = some (.slice X m y) := bx1.cell 3
  have p4 : w1.cell? ⟨w.heap.size, 4, none⟩ = some (.int .i64 r.id) := bx1.cell 4
  clear h hv bx1 bw1 hr hlex
  go_enter Try.func54, Try.ntmps54
  go_upto_region 1 with fail
  obtain ⟨D, hD⟩ : ∃ D, decide (badT c n ∨ ¬ (r.Right ∧ m = 0)) = D := ⟨_, rfl⟩
  have HD := Lib.hid hD
  clear hD
  go_cut [52] (fun t wx => t = .bool D ∧ Hid (Box wx w.heap.size 82 #[.int .i64 r.code, .bool r.there, .slice A rn d, .slice X m y, .int .i64 r.id] ∧ Below w.heap.size w wx))
  case first =>
    by_cases z1 : badT c n
    · rw [decide_eq_true z1] at Hbad
      go_wp2_with fail
      refine Hbad.out.mono ?_
      rintro e w1 ⟨rfl, hq⟩
      subst hq
      go_wp2
      go_meet
      exact ⟨by rw [← HD.out, decide_eq_true (.inl z1)], H0.out⟩
    · rw [decide_eq_false z1] at Hbad
      by_cases z2 : 0 < m
      · have y2 : (0 : Int) < (m : Int) := by omega
        go_wp2_with fail
        refine Hbad.out.mono ?_
        rintro e w1 ⟨rfl, hq⟩
        subst hq
        go_wp2
        go_meet
        exact ⟨by rw [← HD.out, decide_eq_true (.inr fun e => by have := e.2; omega)], H0.out⟩
      · have hm0 : m = 0 := by omega
        subst hm0
        clear z2
        by_cases z3 : r.code < 0
        · go_wp2_with fail
          refine Hbad.out.mono ?_
          rintro e w1 ⟨rfl, hq⟩
          subst hq
          go_wp2
          go_meet
          exact ⟨by rw [← HD.out, decide_eq_true (.inr fun e => by have := e.1.1.1; omega)], H0.out⟩
        · skip
          by_cases z4 : 1099511627776 < r.code
          · go_wp2_with fail
            refine Hbad.out.mono ?_
            rintro e w1 ⟨rfl, hq⟩
            subst hq
            go_wp2
            go_meet
            exact ⟨by rw [← HD.out, decide_eq_true (.inr fun e => by have := e.1.1.2; omega)], H0.out⟩
          · skip
            by_cases z5 : r.id < 0
            · go_wp2_with fail
              refine Hbad.out.mono ?_
              rintro e w1 ⟨rfl, hq⟩
              subst hq
              go_wp2
              go_meet
              exact ⟨by rw [← HD.out, decide_eq_true (.inr fun e => by have := e.1.2.1.1; omega)], H0.out⟩
            · skip
              by_cases z6 : 1099511627776 < r.id
              · go_wp2_with fail
                refine Hbad.out.mono ?_
                rintro e w1 ⟨rfl, hq⟩
                subst hq
                go_wp2
                go_meet
                exact ⟨by rw [← HD.out, decide_eq_true (.inr fun e => by have := e.1.2.1.2; omega)], H0.out⟩
              · skip
                have hI := bad_rec (r := r) (c := c) (n := n) (m := 0) (by omega) (by omega) z1 rfl
                have HI : Hid ((rowErr r.rc = 0 → D = false) ∧ (rowErr r.rc ≠ 0 → D = true)) := Lib.hid ⟨fun e => by rw [← HD.out]; exact decide_eq_false fun q => hI.1 q e, fun e => by rw [← HD.out]; exact decide_eq_true (hI.2 e)⟩
                clear hI
                by_cases z7 : rn = 0
                · subst z7
                  go_wp2_with fail
                  refine Hbad.out.mono ?_
                  rintro e w1 ⟨rfl, hq⟩
                  subst hq
                  have Hw : Hid (D = false) := Lib.hid (HI.out.1 (by rw [List.eq_nil_of_length_eq_zero Hl.out]; rfl))
                  go_wp2
                  go_meet
                  exact ⟨by rw [Hw.out]; first | rfl | (simp; omega), H0.out⟩
                · have z8 : (0 : Int) < (rn : Int) := by omega
                  have HE : Hid (recErr r.rc = rowErr r.rc) := Lib.hid (by unfold recErr; rw [if_neg (by rw [Hl.out]; exact z7)])
                  rw [HE.out] at Hck
                  obtain ⟨z, hz⟩ : ∃ z, rowErr r.rc = z := ⟨_, rfl⟩
                  rw [hz] at Hck HI
                  clear hz z7
                  go_wp2_with fail
                  refine Hbad.out.mono ?_
                  rintro e w1 ⟨rfl, hq⟩
                  subst hq
                  go_wp2_with fail
                  refine Hck.out.mono ?_
                  rintro e w2 ⟨rfl, b2⟩
                  have H2 : Hid (Box w2 w.heap.size 82 #[.int .i64 r.code, .bool r.there, .slice A rn d, .slice X 0 y, .int .i64 r.id] ∧ Below w.heap.size w w2) := Lib.hid ⟨H0.out.1.below b2 H0.out.1.lt, H0.out.2.trans (b2.mono H0.out.2.size)⟩
                  clear b2
                  by_cases z9 : z = 0
                  · subst z9
                    go_wp2
                    go_meet
                    exact ⟨by rw [HI.out.1 (by first | rfl | trivial)]; first | rfl | (simp; omega), H2.out⟩
                  · have z10 : ((z : Int) != 0) = true := by simpa using z9
                    have HI9 := Lib.hid (HI.out.2 z9)
                    clear z9
                    go_wp2
                    go_meet
                    exact ⟨by rw [HI9.out], H2.out⟩
  case rest =>
    obtain ⟨rfl, HC⟩ := hcut
    by_cases hbad : badT c n ∨ ¬ (r.Right ∧ m = 0)
    · obtain rfl : D = true := by rw [← HD.out]; exact decide_eq_true hbad
      have HE := Lib.hid (keepR_same (r := r) (m := m) (c := c) (n := n) H.out HC.out.2 (keepRE_bad hbad) (by decide))
      clear hbad
      go_wp2
      go_ret
      exact HE.out
    · obtain rfl : D = false := by rw [← HD.out]; exact decide_eq_false hbad
      have HK := Lib.hid (keepRE_ok (R := ⟨L.map OE.one, Q⟩) hbad)
      have HCo := Lib.hid (lookR_codes (R := ⟨L.map OE.one, Q⟩) (c := c) (n := n) (fun e => hbad (.inl e)))
      have hRt : r.Right := Decidable.byContradiction fun e => hbad (.inr fun q => e q.1)
      have hm0 : m = 0 := Decidable.byContradiction fun e => hbad (.inr fun q => e q.2)
      have hr4 := (right_small hRt).1
      rw [Hl.out] at hr4
      subst hm0
      have HLk := Lib.hid (refLook_any (H.out.below HC.out.2) (by omega) (by omega) Hr.out c n)
      obtain ⟨R, hR⟩ : ∃ R, lookR c n ⟨L.map OE.one, Q⟩ = R := ⟨_, rfl⟩
      rw [hR] at HLk HCo HK
      clear hbad hRt hR
      go_wp2_with fail
      refine HLk.out.mono ?_
      rintro e w2 ⟨A2, d2, X2, y2, rfl, -, b2⟩
      obtain ⟨⟨code2, there2, rc2, id2⟩, z2⟩ := R
      simp only at HCo HK
      have H2 : Hid (Box w2 w.heap.size 82 #[.int .i64 r.code, .bool r.there, .slice A rn d, .slice X 0 y, .int .i64 r.id] ∧ Below w.heap.size w w2) := Lib.hid ⟨HC.out.1.below b2 HC.out.1.lt, HC.out.2.trans (b2.mono HC.out.2.size)⟩
      clear b2
      obtain ⟨w4a, hw4a⟩ : ∃ wx, w2.alloc (.cells #[.int .i64 0, .bool false, .slice none 0 0, .slice none 0 0, .int .i64 0] 82) = wx := ⟨_, rfl⟩
      have xw4a : Box w4a w2.heap.size 82 #[.int .i64 0, .bool false, .slice none 0 0, .slice none 0 0, .int .i64 0] := hw4a ▸ Box.made _ _ _
      have uw4a : Below w2.heap.size w2 w4a := hw4a ▸ below_box _
      obtain ⟨w4, hw4⟩ : ∃ wx, (((((w4a.setCell ⟨w2.heap.size, 0, none⟩ (.int .i64 code2)).setCell ⟨w2.heap.size, 1, none⟩ (.bool there2)).setCell ⟨w2.heap.size, 2, none⟩ (.slice A2 rc2.length d2)).setCell ⟨w2.heap.size, 3, none⟩ (.slice X2 0 y2)).setCell ⟨w2.heap.size, 4, none⟩ (.int .i64 id2)) = wx := ⟨_, rfl⟩
      obtain ⟨xw4, gw4, sw4⟩ := store5 xw4a hw4
      have uw4 : Below w2.heap.size w2 w4 := uw4a.grown gw4 uw4a.size (fun g hg => by injection hg with hg; omega)
      have da0 : w4a.cell? ⟨w2.heap.size, 0, none⟩ = some (.int .i64 0) := xw4a.cell 0
      have da1 : w4a.cell? ⟨w2.heap.size, 1, none⟩ = some (.bool false) := xw4a.cell 1
      have da2 : w4a.cell? ⟨w2.heap.size, 2, none⟩ = some (.slice none 0 0) := xw4a.cell 2
      have da3 : w4a.cell? ⟨w2.heap.size, 3, none⟩ = some (.slice none 0 0) := xw4a.cell 3
      have da4 : w4a.cell? ⟨w2.heap.size, 4, none⟩ = some (.int .i64 0) := xw4a.cell 4
      have fa0 : w4a.frozen? ⟨w2.heap.size, 0, none⟩ = false := xw4a.frozen 0
      have fa1 : w4a.frozen? ⟨w2.heap.size, 1, none⟩ = false := xw4a.frozen 1
      have fa2 : w4a.frozen? ⟨w2.heap.size, 2, none⟩ = false := xw4a.frozen 2
      have fa3 : w4a.frozen? ⟨w2.heap.size, 3, none⟩ = false := xw4a.frozen 3
      have fa4 : w4a.frozen? ⟨w2.heap.size, 4, none⟩ = false := xw4a.frozen 4
      have H4 : Hid (Box w4 w.heap.size 82 #[.int .i64 r.code, .bool r.there, .slice A rn d, .slice X 0 y, .int .i64 r.id] ∧ Below w.heap.size w w4) := Lib.hid ⟨H2.out.1.below uw4 H2.out.1.lt, H2.out.2.trans (uw4.mono H2.out.2.size)⟩
      have e0 : w4.cell? ⟨w.heap.size, 0, none⟩ = some (.int .i64 r.code) := H4.out.1.cell 0
      have e1 : w4.cell? ⟨w.heap.size, 1, none⟩ = some (.bool r.there) := H4.out.1.cell 1
      have e2 : w4.cell? ⟨w.heap.size, 2, none⟩ = some (.slice A rn d) := H4.out.1.cell 2
      clear xw4a uw4a xw4 gw4 sw4 uw4
      rcases HCo.out with hz | hz | hz
      · subst hz
        have HE := Lib.hid (keepR_same (r := r) (m := 0) (c := c) (n := n) H.out H4.out.2 (HK.out.trans (if_pos rfl)) (by decide))
        go_wp2
        go_ret
        exact HE.out
      · subst hz
        have HE := Lib.hid (keepR_same (r := r) (m := 0) (c := c) (n := n) H.out H4.out.2 (z := 12) (by rw [HK.out]; rfl) (by decide))
        go_wp2
        go_ret
        exact HE.out
      · subst hz
        have HE0 : Hid (keepRE c n r 0 ⟨L.map OE.one, Q⟩ = 0) := Lib.hid (by rw [HK.out]; rfl)
        have hs4 := H4.out.2.size
        have HO := Lib.hid (World.ownsRow_nil w4 w4.heap.size 47 3)
        go_wp2_with (at_builtin; go_loud (refine wpList_append_hasN rfl (.tmp 64) (.tmp 66) _ rfl 47 val_elem (by omega) Try.underlying79 rfl HO.out rfl (HV.out.belowOf H4.out.2 (Nat.le_refl _)).2 (valCells_one _) (by simp only [maxLen]; omega) (by omega) (Nat.le_refl _) ?_; intro v5 w5 o5 g5 z5; rw [List.nil_append, Nat.zero_add] at o5; obtain ⟨A5, d5, rfl, -, -, -⟩ := own_sliceN o5; have b5 : Below w4.heap.size w4 w5 := (Below.refl _ w4).grown g5 (Nat.le_refl _) (fun g hg => by cases hg); have HE5 := Lib.hid (And.intro o5 (And.intro (H4.out.1.below b5 H4.out.1.lt) (H4.out.2.trans (b5.mono hs4)))); have i2 : w5.cell? ⟨w.heap.size, 2, none⟩ = some (.slice A rn d) := HE5.out.2.1.cell 2; have j2 : w5.frozen? ⟨w.heap.size, 2, none⟩ = false := HE5.out.2.1.frozen 2; obtain ⟨w6, hw6⟩ : ∃ wx, w5.setCell ⟨w.heap.size, 2, none⟩ (.slice A5 rn d5) = wx := ⟨_, rfl⟩; have x6 : Box w6 w.heap.size 82 #[.int .i64 r.code, .bool r.there, .slice A5 rn d5, .slice X 0 y, .int .i64 r.id] := (by have h9 := HE5.out.2.1.set_ 2 (.slice A5 rn d5); rw [hw6] at h9; simpa using h9); have b6 : Below w.heap.size w w6 := HE5.out.2.2.grown (hw6 ▸ grown_set w5 w.heap.size 2 (.slice A5 rn d5)) HE5.out.2.2.size (fun g hg => by injection hg with hg; omega); have HE6 : Hid (OwnVals w6 0 (.slice A5 r.rc.length d5) r.rc ∧ Box w6 w.heap.size 82 #[.int .i64 r.code, .bool r.there, .slice A5 rn d5, .slice X 0 y, .int .i64 r.id] ∧ Below w.heap.size w w6) := Lib.hid (by refine ⟨?_, x6, b6⟩; unfold OwnVals; rw [Hl.out]; exact own_baseN (hw6 ▸ ownL_keep HE5.out.1 fun g hg => Below.heap_setCell w5 ⟨w.heap.size, 2, none⟩ _ g fun e => by have h1 := (HE5.out.1.lt g hg).1; have h2 := H4.out.1.lt; simp only at e; omega) (Nat.zero_le _)); have HPt := Lib.hid (refPutO_any (H.out.below HE6.out.2.2) (by omega) (by omega) Hr.out Hlex.out ⟨c, n, r, A5, d5, X, y⟩ HE6.out.1); simp only [Hl.out] at HPt; have t0 : w6.cell? ⟨w.heap.size, 0, none⟩ = some (.int .i64 r.code) := x6.cell 0; have t1 : w6.cell? ⟨w.heap.size, 1, none⟩ = some (.bool r.there) := x6.cell 1; have t2 : w6.cell? ⟨w.heap.size, 2, none⟩ = some (.slice A5 rn d5) := x6.cell 2; have t3 : w6.cell? ⟨w.heap.size, 3, none⟩ = some (.slice X 0 y) := x6.cell 3; have t4 : w6.cell? ⟨w.heap.size, 4, none⟩ = some (.int .i64 r.id) := x6.cell 4; clear x6 b6; clear o5 b5 g5 z5))
        refine HPt.out.mono ?_
        rintro e w7 ⟨rfl, r7, k7, v7⟩
        have HE7 := Lib.hid (And.intro r7 (And.intro k7 v7))
        clear r7 k7 v7
        go_wp2
        go_ret
        have hs6 := HE6.out.2.2.size
        have hs7 := HE7.out.2.1.size
        refine ⟨ret_i64 (by rw [HE0.out]), ?_, (KeptF.of HE6.out.2.2).trans0 HE7.out.2.1, (KV.of HE6.out.2.2).trans HE7.out.2.2⟩
        rw [keepR_yes HE0.out]
        exact HE7.out.1.grow (fun i hi => hi.elim .inl fun hi => .inr ⟨by omega, hi.2⟩) H.out.lt (by omega)
end
end Go.Proofs.Ytdfhnjocpfjagaa

namespace Go.Proofs.Ytdfhnjocpfjagaa
open Go.RowKit
open Go.Lib (strCells compareBytes)

theorem rp_iff (a b : Rp) : (a.code = b.code ∧ a.there = b.there ∧ a.id = b.id ∧ a.rc = b.rc) ↔ a = b := ⟨fun ⟨h1, h2, h3, h4⟩ => by cases a; cases b; simp_all, fun h => by subst h; simp⟩
theorem tval_iff (a b : TVal) : (a.k = b.k ∧ a.n = b.n ∧ a.s.data.toList = b.s.data.toList) ↔ a = b := ⟨fun ⟨h1, h2, h3⟩ => TVal.same h1 h2 h3, fun h => by subst h; simp⟩
instance : DecidableEq TVal := fun a b => decidable_of_iff _ (tval_iff a b)
instance : DecidableEq Rp := fun a b => decidable_of_iff _ (rp_iff a b)
theorem below_drL {B : Nat} {a w : World} (h : Below B a w) (n : Nat) : Below B a (w.drewN n) := ⟨h.os, h.tape, h.output, h.size, h.block⟩
set_option maxRecDepth 100000 in
set_option maxHeartbeats 1600000 in
theorem same_any (A A' : Option Addr) (n n' c c' C C' : Nat) (l m : List TVal) (w : World) (h : HasVals w C A n l) (h' : HasVals w C' A' n' m) (hn : n ≤ maxLen) (hn' : n' ≤ maxLen) :
    Calls Try.prog 42 #[.slice A n c, .slice A' n' c'] w fun e w' => e = .returned (.bool (decide (l = m))) ∧ Below w.heap.size w w' := by
  unfold maxLen at hn hn'
  have H := Lib.hid h
  have H' := Lib.hid h'
  have Hl := Lib.hid h.1
  have Hm := Lib.hid h'.1
  clear h h'
  by_cases hnn : n = n'
  · subst hnn
    go_enter Try.func42, Try.ntmps42
    go_wp2
    go_loopw [5] (fun i wr => ∃ k : Nat, k ≤ n ∧ i = .int .i64 (k : Int) ∧ Hid (l.take k = m.take k) ∧ ∃ q, wr = w.drewN q) (fun i _ => n - (intOf i).toNat)
    case atStart => exact ⟨0, by omega, rfl, Lib.hid rfl, 0, rfl⟩
    case round =>
      obtain ⟨k, hk, rfl, Ht, q, rfl⟩ := hrel
      by_cases hlt : k < n
      · obtain ⟨a, v, rfl, _, hv, c0, c1, c2⟩ := H.out.at_ hlt
        obtain ⟨b, u, rfl, _, hu, d0, d1, d2⟩ := H'.out.at_ hlt
        have hk0 : (0 : Int) ≤ (k : Int) := by omega
        have hk1 : (k : Int) < (n : Int) := by omega
        have Hv := Lib.hid hv
        have Hu := Lib.hid hu
        clear hv hu
        by_cases e : v = u
        · subst e
          go_wp2
          go_quiet (fail)
          go_wp2
          go_roundw
          case rel => exact ⟨k + 1, by omega, by go_num, Lib.hid (by rw [List.take_add_one, List.take_add_one, Ht.out, Hv.out, Hu.out]), _, rfl⟩
          case measure => simp [intOf]; omega
        · have E : Hid (decide (l = m) = false) := Lib.hid (decide_eq_false fun e' => by
            rw [e', Hu.out] at Hv
            exact e (Option.some.inj Hv.out).symm)
          obtain ⟨vk, vn, vs⟩ := v
          obtain ⟨uk, un, us⟩ := u
          have hx : (vk ≠ uk) ∨ (vk = uk ∧ vn ≠ un) ∨ (vk = uk ∧ vn = un ∧ vs ≠ us) := by
            by_cases h1 : vk = uk
            · by_cases h2 : vn = un
              · exact .inr (.inr ⟨h1, h2, fun h3 => e (by rw [h1, h2, h3])⟩)
              · exact .inr (.inl ⟨h1, h2⟩)
            · exact .inl h1
          simp only at c0 c1 c2 d0 d1 d2
          clear e
          rcases hx with hx | ⟨rfl, hx⟩ | ⟨rfl, rfl, hx⟩
          · have hb : (vk == uk) = false := by simpa using hx
            clear hx
            go_wp2
            go_quiet (fail)
            go_wp2
            go_ret
            exact ⟨ret_bool (by rw [E.out]), below_drews (below_drews (Below.refl _ _) _) _⟩
          · have hb : (vn == un) = false := by simpa using hx
            clear hx
            go_wp2
            go_quiet (fail)
            go_wp2
            go_ret
            exact ⟨ret_bool (by rw [E.out]), below_drews (below_drews (Below.refl _ _) _) _⟩
          · have hb2 : (vs.toList == us.toList) = false := by rw [eq_toList]; exact decide_eq_false fun e => hx (bytes_ext e)
            go_wp2
            go_quiet (fail)
            go_wp2
            go_ret
            exact ⟨ret_bool (by rw [E.out]), below_drews (below_drews (Below.refl _ _) _) _⟩
      · have E : Hid (decide (l = m) = true) := Lib.hid (decide_eq_true (by
          have h1 := Ht.out
          rwa [List.take_of_length_le (by have := Hl.out; omega), List.take_of_length_le (by have := Hm.out; omega)] at h1))
        go_wp2
        go_ret
        exact ⟨ret_bool (by rw [E.out]), below_drews (Below.refl _ _) _⟩
  · have E : Hid (decide (l = m) = false) := Lib.hid (decide_eq_false fun e => hnn (by rw [← Hl.out, ← Hm.out, e]))
    have hb : ((n : Int) != (n' : Int)) = true := by simp; omega
    clear hnn
    go_enter Try.func42, Try.ntmps42
    go_wp2
    go_ret
    exact ⟨ret_bool (by rw [E.out]), Below.refl _ _⟩
set_option maxRecDepth 100000 in
set_option maxHeartbeats 1600000 in
theorem sameInts_any (A A' : Option Addr) (n n' c c' D D' : Nat) (xs ys : List Int) (w : World) (h : Has w D A n (xs.map encZ)) (h' : Has w D' A' n' (ys.map encZ)) (hl : xs.length = n) (hl' : ys.length = n') (hn : n ≤ maxLen) (hn' : n' ≤ maxLen) :
    Calls Try.prog 64 #[.slice A n c, .slice A' n' c'] w fun e w' => e = .returned (.bool (decide (xs = ys))) ∧ Below w.heap.size w w' := by
  unfold maxLen at hn hn'
  have H := Lib.hid h
  have H' := Lib.hid h'
  have Hl := Lib.hid hl
  have Hm := Lib.hid hl'
  clear h h' hl hl'
  by_cases hnn : n = n'
  · subst hnn
    go_enter Try.func64, Try.ntmps64
    go_wp2
    go_loopw [5] (fun i wr => ∃ k : Nat, k ≤ n ∧ i = .int .i64 (k : Int) ∧ Hid (xs.take k = ys.take k) ∧ ∃ q, wr = w.drewN q) (fun i _ => n - (intOf i).toNat)
    case atStart => exact ⟨0, by omega, rfl, Lib.hid rfl, 0, rfl⟩
    case round =>
      obtain ⟨k, hk, rfl, Ht, q, rfl⟩ := hrel
      by_cases hlt : k < n
      · obtain ⟨a, rfl, _, hc⟩ := H.out.all (by omega)
        obtain ⟨b, rfl, _, hd⟩ := H'.out.all (by omega)
        obtain ⟨x, hx⟩ : ∃ x, xs[k]? = some x := ⟨_, List.getElem?_eq_getElem (by have := Hl.out; omega)⟩
        obtain ⟨y, hy⟩ : ∃ y, ys[k]? = some y := ⟨_, List.getElem?_eq_getElem (by have := Hm.out; omega)⟩
        have c0 : w.cell? (a.add k) = some (.int .i64 x) := hc k _ (by rw [List.getElem?_map, hx]; rfl)
        have d0 : w.cell? (b.add k) = some (.int .i64 y) := hd k _ (by rw [List.getElem?_map, hy]; rfl)
        have hk0 : (0 : Int) ≤ (k : Int) := by omega
        have hk1 : (k : Int) < (n : Int) := by omega
        have Hx := Lib.hid hx
        have Hy := Lib.hid hy
        clear hx hy hc hd
        by_cases e : x = y
        · subst e
          go_wp2
          go_quiet (fail)
          go_wp2
          go_roundw
          case rel => exact ⟨k + 1, by omega, by go_num, Lib.hid (by rw [List.take_add_one, List.take_add_one, Ht.out, Hx.out, Hy.out]), _, rfl⟩
          case measure => simp [intOf]; omega
        · have E : Hid (decide (xs = ys) = false) := Lib.hid (decide_eq_false fun e' => by
            rw [e', Hy.out] at Hx
            exact e (Option.some.inj Hx.out).symm)
          have hb : (x == y) = false := by simpa using e
          clear e
          go_wp2
          go_quiet (fail)
          go_wp2
          go_ret
          exact ⟨ret_bool (by rw [E.out]), below_drL (below_drL (Below.refl _ _) _) _⟩
      · have E : Hid (decide (xs = ys) = true) := Lib.hid (decide_eq_true (by
          have h1 := Ht.out
          rwa [List.take_of_length_le (by have := Hl.out; omega), List.take_of_length_le (by have := Hm.out; omega)] at h1))
        go_wp2
        go_ret
        exact ⟨ret_bool (by rw [E.out]), below_drL (Below.refl _ _) _⟩
  · have E : Hid (decide (xs = ys) = false) := Lib.hid (decide_eq_false fun e => hnn (by rw [← Hl.out, ← Hm.out, e]))
    have hnz : ((n : Int) == (n' : Int)) = false := by simp; omega
    go_enter Try.func64, Try.ntmps64
    go_wp2
    go_ret
    exact ⟨ret_bool (by rw [E.out]), Below.refl _ _⟩
set_option maxRecDepth 100000 in
theorem sameRows0_any (X X' : Option Addr) (y y' : Nat) (w : World) : Calls Try.prog 90 #[.slice X 0 y, .slice X' 0 y'] w fun e w' => e = .returned (.bool true) ∧ Below w.heap.size w w' := by
  go_enter Try.func90, Try.ntmps90
  go_wp2
  go_loopw [5] (fun i wr => i = .int .i64 0 ∧ Below w.heap.size w wr) (fun _ _ => 0)
  case atStart => exact ⟨rfl, Below.refl _ _⟩
  case round =>
    obtain ⟨rfl, hb⟩ := hrel
    go_wp2
    go_ret
    exact ⟨rfl, hb⟩
set_option maxRecDepth 100000 in
set_option maxHeartbeats 3200000 in
theorem sameReply17_any (r1 r2 : Rp) (A1 A2 X1 X2 : Option Addr) (n1 n2 c1 c2 y1 y2 B1 B2 : Nat) (w : World) (h1 : HasVals w B1 A1 n1 r1.rc) (h2 : HasVals w B2 A2 n2 r2.rc) (hB1 : B1 ≤ w.heap.size) (hB2 : B2 ≤ w.heap.size) (hn1 : n1 ≤ maxLen) (hn2 : n2 ≤ maxLen) :
    Calls Try.prog 52 #[.agg #[.int .i64 r1.code, .bool r1.there, .slice A1 n1 c1, .slice X1 0 y1, .int .i64 r1.id], .agg #[.int .i64 r2.code, .bool r2.there, .slice A2 n2 c2, .slice X2 0 y2, .int .i64 r2.id]] w fun e w' => e = .returned (.bool (decide (r1 = r2))) ∧ Below w.heap.size w w' := by
  obtain ⟨D, hD⟩ : ∃ D, decide (r1 = r2) = D := ⟨_, rfl⟩
  rw [hD]
  have HD := Lib.hid hD
  have Hsame := Lib.hid (fun wx (hb : Below w.heap.size w wx) => same_any A1 A2 _ _ c1 c2 _ _ r1.rc r2.rc wx (h1.belowOf hb hB1) (h2.belowOf hb hB2) hn1 hn2)
  have Hrows := Lib.hid (fun wx => sameRows0_any X1 X2 y1 y2 wx)
  obtain ⟨w1, hw1⟩ : ∃ w1, w.alloc (.cells #[.int .i64 r1.code, .bool r1.there, .slice A1 n1 c1, .slice X1 0 y1, .int .i64 r1.id] 82) = w1 := ⟨_, rfl⟩
  obtain ⟨w2, hw2⟩ : ∃ w2, w1.alloc (.cells #[.int .i64 r2.code, .bool r2.there, .slice A2 n2 c2, .slice X2 0 y2, .int .i64 r2.id] 82) = w2 := ⟨_, rfl⟩
  have hs1 : w1.heap.size = w.heap.size + 1 := by rw [← hw1]; simp
  have b2 : Below w.heap.size w w2 := hw2 ▸ hw1 ▸ (below_box _).alloc (by simp) _
  have x2 : Box w2 w.heap.size 82 #[.int .i64 r1.code, .bool r1.there, .slice A1 n1 c1, .slice X1 0 y1, .int .i64 r1.id] := hw2 ▸ hw1 ▸ (Box.made _ _ _).alloc _
  have z2 : Box w2 (w.heap.size + 1) 82 #[.int .i64 r2.code, .bool r2.there, .slice A2 n2 c2, .slice X2 0 y2, .int .i64 r2.id] := by have := Box.made w1 82 #[.int .i64 r2.code, .bool r2.there, .slice A2 n2 c2, .slice X2 0 y2, .int .i64 r2.id]; rwa [hw2, hs1] at this
  have p0 : w2.cell? ⟨w.heap.size, 0, none⟩ = some (.int .i64 r1.code) := x2.cell 0
  have p1 : w2.cell? ⟨w.heap.size, 1, none⟩ = some (.bool r1.there) := x2.cell 1
  have p2 : w2.cell? ⟨w.heap.size, 2, none⟩ = some (.slice A1 n1 c1) := x2.cell 2
  have p3 : w2.cell? ⟨w.heap.size, 3, none⟩ = some (.slice X1 0 y1) := x2.cell 3
  have p4 : w2.cell? ⟨w.heap.size, 4, none⟩ = some (.int .i64 r1.id) := x2.cell 4
  have q0 : w2.cell? ⟨w.heap.size + 1, 0, none⟩ = some (.int .i64 r2.code) := z2.cell 0
  have q1 : w2.cell? ⟨w.heap.size + 1, 1, none⟩ = some (.bool r2.there) := z2.cell 1
  have q2 : w2.cell? ⟨w.heap.size + 1, 2, none⟩ = some (.slice A2 n2 c2) := z2.cell 2
  have q3 : w2.cell? ⟨w.heap.size + 1, 3, none⟩ = some (.slice X2 0 y2) := z2.cell 3
  have q4 : w2.cell? ⟨w.heap.size + 1, 4, none⟩ = some (.int .i64 r2.id) := z2.cell 4
  have H2 := Lib.hid (And.intro b2 (And.intro x2 z2))
  clear hD h1 h2 hn1 hn2 b2 x2 z2
  by_cases e1 : r1.code = r2.code
  · have g1 : (r1.code == r2.code) = true := by simpa using e1
    by_cases e2 : r1.there = r2.there
    · have g2 : (r1.there == r2.there) = true := by simpa using e2
      by_cases e3 : r1.id = r2.id
      · have g3 : (r1.id == r2.id) = true := by simpa using e3
        by_cases e4 : r1.rc = r2.rc
        · have E : Hid (D = true) := Lib.hid (by rw [← HD.out]; exact decide_eq_true ((rp_iff _ _).1 ⟨e1, e2, e3, e4⟩))
          rw [decide_eq_true e4] at Hsame
          clear e1 e2 e3 e4
          go_enter Try.func52, Try.ntmps52
          go_wp2_with fail
          refine (Hsame.out _ H2.out.1).mono ?_
          rintro e w3 ⟨rfl, b3⟩
          have u3 := (H2.out.2.1.below b3 H2.out.2.1.lt).cell 3
          have v3 := (H2.out.2.2.below b3 H2.out.2.2.lt).cell 3
          have H3 := Lib.hid (H2.out.1.trans (b3.mono H2.out.1.size))
          simp at u3 v3
          clear b3
          go_wp2_with fail
          refine (Hrows.out _).mono ?_
          rintro e w4 ⟨rfl, b4⟩
          have HE := Lib.hid (H3.out.trans (b4.mono H3.out.size))
          clear b4
          go_wp2
          go_ret
          exact ⟨ret_bool (by rw [E.out]), HE.out⟩
        · have E : Hid (D = false) := Lib.hid (by rw [← HD.out]; exact decide_eq_false fun h => e4 (by rw [h]))
          rw [decide_eq_false e4] at Hsame
          clear e1 e2 e3 e4
          go_enter Try.func52, Try.ntmps52
          go_wp2_with fail
          refine (Hsame.out _ H2.out.1).mono ?_
          rintro e w3 ⟨rfl, b3⟩
          have HE := Lib.hid (H2.out.1.trans (b3.mono H2.out.1.size))
          clear b3
          go_wp2
          go_ret
          exact ⟨ret_bool (by rw [E.out]), HE.out⟩
      · have E : Hid (D = false) := Lib.hid (by rw [← HD.out]; exact decide_eq_false fun h => e3 (by rw [h]))
        have g3 : (r1.id == r2.id) = false := by simpa using e3
        clear e1 e2 e3
        go_enter Try.func52, Try.ntmps52
        go_wp2
        go_ret
        exact ⟨ret_bool (by rw [E.out]), H2.out.1⟩
    · have E : Hid (D = false) := Lib.hid (by rw [← HD.out]; exact decide_eq_false fun h => e2 (by rw [h]))
      have g2 : (r1.there == r2.there) = false := by simpa using e2
      clear e1 e2
      go_enter Try.func52, Try.ntmps52
      go_wp2
      go_ret
      exact ⟨ret_bool (by rw [E.out]), H2.out.1⟩
  · have E : Hid (D = false) := Lib.hid (by rw [← HD.out]; exact decide_eq_false fun h => e1 (by rw [h]))
    have g1 : (r1.code == r2.code) = false := by simpa using e1
    clear e1
    go_enter Try.func52, Try.ntmps52
    go_wp2
    go_ret
    exact ⟨ret_bool (by rw [E.out]), H2.out.1⟩
def Light17 (n : Nat) (w : World) (e : Ending) (w' : World) : Prop := ∃ b, e = .returned (.bool b) ∧ (b = true → n < 100) ∧ Below w.heap.size w w'
set_option maxRecDepth 100000 in
set_option maxHeartbeats 1600000 in
theorem light17_any (A : Option Addr) (n c C : Nat) (l : List ActO) (w : World) (h : HasOas w C A n l) (hC : C ≤ w.heap.size) (hn : n ≤ maxLen) :
    Calls Try.prog 48 #[.slice A n c] w (Light17 n w) := by
  unfold maxLen at hn
  have H := Lib.hid h
  clear h
  go_enter Try.func48, Try.ntmps48
  go_wp2
  go_loopw [3] (fun iv wr => ∃ k : Nat, k ≤ n ∧ iv = .int .i64 (k : Int) ∧ Hid (Below w.heap.size w wr)) (fun iv _ => n - (intOf iv).toNat)
  case atStart => exact ⟨0, by omega, rfl, Lib.hid (Below.refl _ _)⟩
  case round =>
    obtain ⟨k, hk, rfl, Hp⟩ := hrel
    by_cases hlt : k < n
    · have hk0 : (0 : Int) ≤ (k : Int) := by omega
      have hk1 : (k : Int) < (n : Int) := by omega
      by_cases hkm : k < 100
      · obtain ⟨a, o, rfl, hab, ho, ⟨c0, c1, c2, c3, c4, c5, c6, c7⟩, hok⟩ := (H.out.belowOf Hp.out hC).at_ hlt
        have hkm2 : decide ((k : Int) < 100) = true := decide_eq_true (by omega)
        have Hli := Lib.hid (light_any o.A o.rn o.d C 300 o.r.rc wr hok.rp.vals hok.rp.len (by omega) hok.rp.txt)
        clear ho hab hok c0 c1 c2 c3 c4 c7
        go_wp2_with fail
        refine Hli.out.mono ?_
        rintro e w3 ⟨b, rfl, -, rfl⟩
        cases b with
        | false =>
          go_wp2
          go_ret
          exact ⟨_, rfl, by simp, Hp.out⟩
        | true =>
          by_cases hm : 10 < o.m
          · have hm2 : (10 : Int) < (o.m : Int) := by omega
            go_wp2
            go_ret
            exact ⟨_, rfl, by simp, Hp.out⟩
          · have hm2 : ¬ (10 : Int) < (o.m : Int) := by omega
            go_wp2
            go_roundw
            case rel => exact ⟨k + 1, by omega, by go_num, Hp⟩
            case measure => simp [intOf]; omega
      · have hkm2 : decide ((k : Int) < 100) = false := decide_eq_false (by omega)
        have hnm : decide ((n : Int) < 100) = false := decide_eq_false (by omega)
        go_wp2
        go_ret
        exact ⟨false, ret_bool (by simp), by simp, Hp.out⟩
    · obtain rfl : k = n := by omega
      have HE : Hid (Light17 k w (.returned (.bool (decide ((k : Int) < 100)))) wr) := Lib.hid ⟨_, rfl, fun hd => by have := of_decide_eq_true hd; omega, Hp.out⟩
      go_wp2
      go_ret
      have h9 := HE.out
      simpa using h9
end Go.Proofs.Ytdfhnjocpfjagaa

namespace Go.Proofs.Ytdfhnjocpfjagaa
open Go.RowKit

theorem raiseR_len (c f : Int) (R : Rf) : (raiseR c f R).L.length ≤ R.L.length ∧ (raiseR c f R).Q.length ≤ R.Q.length + 1 := by
  unfold raiseR
  split
  · exact ⟨List.length_filter_le _ _, putG_len _ _ _⟩
  · exact ⟨List.length_filter_le _ _, Nat.le_succ _⟩
theorem insR_len (x : On) : ∀ L : List On, (insR x L).length = L.length + 1
  | [] => rfl
  | e :: l => by
    unfold insR
    split
    · rw [List.length_cons, insR_len x l, List.length_cons]
    · rfl
theorem putR_len (x : On) (R : Rf) : (putR x R).L.length ≤ R.L.length + 1 ∧ (putR x R).Q.length ≤ R.Q.length + 1 := by
  unfold putR
  split
  · have := raiseR_len x.1 (over (sub x.1 (insR x R.L))) ⟨insR x R.L, R.Q⟩
    simp only [insR_len] at this
    exact this
  · exact ⟨Nat.le_of_eq (insR_len _ _), Nat.le_succ _⟩
theorem keepR_len (c n : Int) (r : Rp) (m : Nat) (R : Rf) : (keepR c n r m R).L.length ≤ R.L.length + 1 ∧ (keepR c n r m R).Q.length ≤ R.Q.length + 1 := by
  unfold keepR
  split
  · exact putR_len _ _
  · exact ⟨Nat.le_succ _, Nat.le_succ _⟩
section
variable {B : Nat} {w w' : World} {l : List Ob} {k rb : Nat} {R : Rf}
theorem s_rnew (h : SepO B w l) (hB : B ≤ w.heap.size) {t : TypeId} (ht : t = 78) : SepO B (w.alloc (.cells #[.slice none 0 0, .slice none 0 0] t)) (l ++ [.ref w.heap.size Rf.nil]) := by
  subst ht
  have hb : Below w.heap.size w (w.alloc (.cells #[.slice none 0 0, .slice none 0 0] 78)) := below_box _
  have hx : Box (w.alloc (.cells #[.slice none 0 0, .slice none 0 0] 78)) w.heap.size 78 #[.slice none 0 0, .slice none 0 0] := Box.made _ _ _
  refine h.new sepOb hB hb (o := .ref w.heap.size Rf.nil) ⟨.slice none 0 0, .slice none 0 0, [], ⟨.inr ⟨Nat.le_refl _, hx.lt⟩, (fun g hg => by cases hg), (fun g hg => by cases hg), fun i hi => hi.elim False.elim fun hi => hi.2, hx, OwnG.nil _ _, OwnG.nil _ _, by simp⟩, rfl⟩
theorem s_rlook (h : SepO B w l) (hk : l[k]? = some (.ref rb R)) (hl : R.L.length ≤ 40000 ∧ R.Q.length ≤ 40000) (hr : RiseG R.Q) (c n : Int) :
    Calls Try.prog 51 #[.pointer (some ⟨rb, 0, none⟩), .int .i64 c, .int .i64 n] w (RefLook (lookR c n R) w) := by
  obtain ⟨F, ⟨v, u, L, h1, h2⟩, -⟩ := h.at_ hk
  have h3 := refLook_any h1 (by omega) (by have := congrArg List.length h2; rw [List.length_map] at this; omega) hr c n
  rw [h2] at h3
  exact h3
theorem s_rfloor (h : SepO B w l) (hk : l[k]? = some (.ref rb R)) (hl : R.L.length ≤ 40000 ∧ R.Q.length ≤ 40000) (hr : RiseG R.Q) (c : Int) :
    Calls Try.prog 89 #[.pointer (some ⟨rb, 0, none⟩), .int .i64 c] w fun e w' => e = .returned (.int .i64 (flR c R.Q)) ∧ w' = w := by
  obtain ⟨F, ⟨v, u, L, h1, h2⟩, -⟩ := h.at_ hk
  exact refFloor_any h1 (by omega) hr c
theorem s_rknown (h : SepO B w l) (hk : l[k]? = some (.ref rb R)) (hl : R.L.length ≤ 40000 ∧ R.Q.length ≤ 40000) (c : Int) :
    Calls Try.prog 94 #[.pointer (some ⟨rb, 0, none⟩), .int .i64 c] w fun e w' => ∃ v, e = .returned v ∧ w'.ownsRow w.heap.size 3 1 v (sub c R.L).length ((numsG (sub c R.L)).map encZ) ∧ Below w.heap.size w w' := by
  obtain ⟨F, ⟨v, u, L, h1, h2⟩, -⟩ := h.at_ hk
  have h3 := refKnown_any h1 (by have := congrArg List.length h2; rw [List.length_map] at this; omega) c
  rw [h2] at h3
  exact h3
theorem s_rkeep (h : SepO B w l) (hB : B ≤ w.heap.size) (hk : l[k]? = some (.ref rb R)) (hl : R.L.length ≤ 40000 ∧ R.Q.length ≤ 40000) (hr : RiseG R.Q) (hx : Lex R.L) (c n : Int) (r : Rp) (A : Option Addr) (rn d m : Nat) (X : Option Addr) (y C : Nat) (hv : HasVals w C A rn r.rc) (hrn : rn ≤ maxLen) (hC : C ≤ w.heap.size) :
    Calls Try.prog 54 #[.pointer (some ⟨rb, 0, none⟩), .int .i64 c, .int .i64 n, .agg #[.int .i64 r.code, .bool r.there, .slice A rn d, .slice X m y, .int .i64 r.id]] w fun e w' =>
      e = .returned (.int .i64 (keepRE c n r m R)) ∧ SepO B w' (l.set k (.ref rb (keepR c n r m R))) ∧ Below B w w' := by
  obtain ⟨F, ⟨v, u, L, h1, h2⟩, h3, h4⟩ := h.step sepOb hB hk
  have h5 := refKeep_any h1 (by omega) (by have := congrArg List.length h2; rw [List.length_map] at this; omega) hr (by rw [h2]; exact hx) c n r A rn d m X y C hv hrn hC
  rw [h2] at h5
  refine h5.mono ?_
  rintro e w' ⟨rfl, g1, g2, g3⟩
  obtain ⟨g4, g5⟩ := h4 w' (.ref rb (keepR c n r m R)) (g2.weak fun i _ hi => by have hi2 : i = rb := hi; rw [hi2]; exact h1.rF) g3 g1
  exact ⟨rfl, g4, g5⟩
end
set_option maxRecDepth 100000 in
set_option maxHeartbeats 12800000 in
theorem same17_any {B : Nat} {w : World} {l : List Ob} {i j sb rb : Nat} {T : Tb} {R : Rf} (S : SepO B w l) (hi : l[i]? = some (.tab sb T)) (hj : l[j]? = some (.ref rb R)) (hR : Rel R T) (hl : R.L.length ≤ 40000 ∧ R.Q.length ≤ 40000)
    (A : Option Addr) (n c C : Nat) (acts : List ActO) (h : HasOas w C A n acts) (hC : C ≤ w.heap.size) (hn : n ≤ maxLen) :
    Calls Try.prog 55 #[.pointer (some ⟨sb, 0, none⟩), .pointer (some ⟨rb, 0, none⟩), .slice A n c] w fun e w' => e = .returned (.bool true) ∧ SepO B w' l ∧ Below w.heap.size w w' := by
  have HS := Lib.hid (fun wx (hb : Below w.heap.size w wx) => s_below S hb)
  have HLk := Lib.hid (fun wx (hb : Below w.heap.size w wx) (a b : Int) (ha : (Lit.int .i64 a).wf = true) (hb2 : (Lit.int .i64 b).wf = true) => s_look (k := i) (s_below S hb) hi a b ha hb2)
  have HRk := Lib.hid (fun wx (hb : Below w.heap.size w wx) (a b : Int) => s_rlook (k := j) (s_below S hb) hj hl hR.rq a b)
  have HFl := Lib.hid (fun wx (hb : Below w.heap.size w wx) (a : Int) (ha : (Lit.int .i64 a).wf = true) => s_floor (k := i) (s_below S hb) hi a ha)
  have HRf := Lib.hid (fun wx (hb : Below w.heap.size w wx) (a : Int) => s_rfloor (k := j) (s_below S hb) hj hl hR.rq a)
  have HKn := Lib.hid (fun wx (hb : Below w.heap.size w wx) (a : Int) (ha : (Lit.int .i64 a).wf = true) => s_known (k := i) (s_below S hb) hi a ha)
  have HRn := Lib.hid (fun wx (hb : Below w.heap.size w wx) (a : Int) => s_rknown (k := j) (s_below S hb) hj hl a)
  have HR := Lib.hid hR
  have HG := Lib.hid (s_good (k := i) S hi)
  have Hact : Hid (∀ (k : Nat), k < n → ∃ a o, A = some a ∧ ((Lit.int .i64 o.c).wf = true ∧ (Lit.int .i64 o.n).wf = true) ∧ ∀ wx, Below w.heap.size w wx → wx.cell? ⟨(a.add (k * 8)).block, (a.add (k * 8)).off + 1, none⟩ = some (.int .i64 (ActO.c o)) ∧ wx.cell? ⟨(a.add (k * 8)).block, (a.add (k * 8)).off + 2, none⟩ = some (.int .i64 o.n)) := Lib.hid fun k hk => by
    obtain ⟨a, o, e, hab, ho, ⟨c0, c1, c2, -⟩, hok⟩ := h.at_ hk
    have kk : ∀ wx, Below w.heap.size w wx → ∀ p : Addr, p.block = a.block → wx.cell? p = w.cell? p := fun wx hx p hp => hx.cell (by omega)
    exact ⟨a, o, e, ⟨hok.cw, hok.nw⟩, fun wx hx => ⟨(kk wx hx _ (by simp [addr_block])).trans c1, (kk wx hx _ (by simp [addr_block])).trans c2⟩⟩
  unfold maxLen at hn
  clear h S hi hj hR hl
  go_enter Try.func55, Try.ntmps55
  go_wp2
  go_loopw [7] (fun iv wr => ∃ k : Nat, k ≤ n ∧ iv = .int .i64 (k : Int) ∧ Hid (Below w.heap.size w wr)) (fun iv _ => n - (intOf iv).toNat)
  case atStart => exact ⟨0, by omega, rfl, Lib.hid (Below.refl _ _)⟩
  case round =>
    obtain ⟨k, hk, rfl, HB⟩ := hrel
    by_cases hlt : k < n
    · obtain ⟨a, o, rfl, ⟨hcw, hnw⟩, hX⟩ := Hact.out k hlt
      have hk0 : (0 : Int) ≤ (k : Int) := by omega
      have hk1 : (k : Int) < (n : Int) := by omega
      obtain ⟨oc, ho⟩ : ∃ oc, o.c = oc := ⟨_, rfl⟩
      obtain ⟨on, ho2⟩ : ∃ on, o.n = on := ⟨_, rfl⟩
      rw [ho] at hcw hX
      rw [ho2] at hnw hX
      obtain ⟨c1, c2⟩ := hX wr HB.out
      have HFq := Lib.hid (HR.out.fl oc)
      have HEq := Lib.hid (HR.out.E oc)
      have HL1 := Lib.hid (fun wx (hb : Below w.heap.size w wx) => HLk.out wx hb oc on hcw hnw)
      have HL2 := Lib.hid (fun wx (hb : Below w.heap.size w wx) => HRk.out wx hb oc on)
      have HF1 := Lib.hid (fun wx (hb : Below w.heap.size w wx) => HFl.out wx hb oc hcw)
      have HF2 := Lib.hid (fun wx (hb : Below w.heap.size w wx) => HRf.out wx hb oc)
      have HK1 := Lib.hid (fun wx (hb : Below w.heap.size w wx) => HKn.out wx hb oc hcw)
      have HK2 := Lib.hid (fun wx (hb : Below w.heap.size w wx) => HRn.out wx hb oc)
      rw [HEq.out] at HK2
      rw [HFq.out] at HF2
      rw [look_rel HR.out oc on] at HL2
      have HP := Lib.hid (HG.out.get oc)
      have h4 := HP.out.len
      obtain ⟨E, hE⟩ : ∃ E, (getT oc T).E = E := ⟨_, rfl⟩
      obtain ⟨fl, hfl⟩ : ∃ fl, (getT oc T).fl = fl := ⟨_, rfl⟩
      rw [hE] at HK1 HK2 h4
      rw [hfl] at HF1 HF2
      obtain ⟨m, hm⟩ : ∃ m, E.length = m := ⟨_, rfl⟩
      rw [hm] at HK1 HK2 h4
      have Hm := Lib.hid hm
      obtain ⟨R5, hR5⟩ : ∃ R5, lookT oc on T = R5 := ⟨_, rfl⟩
      rw [hR5] at HL1 HL2
      clear hE hfl hm hR5 HFq HEq HP hX ho ho2 hcw hnw
      obtain ⟨⟨code, there, rc, id⟩, z⟩ := R5
      go_wp2
      go_quiet (fail)
      have HB4 := Lib.hid (below_drF HB.out nq)
      clear c1 c2 HB
      generalize wr.drewN nq = w4 at *
      go_wp2_with fail
      refine (HL1.out _ HB4.out).mono ?_
      rintro e w5 ⟨⟨v5, rfl, ⟨A5, c5, rfl, o5⟩, b5⟩, -⟩
      have H5 := Lib.hid (And.intro (HB4.out.trans (b5.mono HB4.out.size)) (OwnVals.has o5).2)
      have hrc : rc.length ≤ maxLen := by obtain ⟨_, _, e, h1, h2, -⟩ := own_sliceN o5; exact Nat.le_trans h1 h2
      clear o5 b5
      obtain ⟨w6a, hw6a⟩ : ∃ wx, w5.alloc (.cells #[.int .i64 0, .bool false, .slice none 0 0, .slice none 0 0, .int .i64 0] 82) = wx := ⟨_, rfl⟩
      have xw6a : Box w6a w5.heap.size 82 #[.int .i64 0, .bool false, .slice none 0 0, .slice none 0 0, .int .i64 0] := hw6a ▸ Box.made _ _ _
      have uw6a : Below w5.heap.size w5 w6a := hw6a ▸ below_box _
      obtain ⟨w6, hw6⟩ : ∃ wx, (((((w6a.setCell ⟨w5.heap.size, 0, none⟩ (.int .i64 code)).setCell ⟨w5.heap.size, 1, none⟩ (.bool there)).setCell ⟨w5.heap.size, 2, none⟩ (.slice A5 rc.length c5)).setCell ⟨w5.heap.size, 3, none⟩ (.slice none 0 0)).setCell ⟨w5.heap.size, 4, none⟩ (.int .i64 id)) = wx := ⟨_, rfl⟩
      obtain ⟨xw6, gw6, sw6⟩ := store5 xw6a hw6
      have uw6 : Below w5.heap.size w5 w6 := uw6a.grown gw6 uw6a.size (fun g hg => by injection hg with hg; omega)
      have d0 : w6a.cell? ⟨w5.heap.size, 0, none⟩ = some (.int .i64 0) := xw6a.cell 0
      have d1 : w6a.cell? ⟨w5.heap.size, 1, none⟩ = some (.bool false) := xw6a.cell 1
      have d2 : w6a.cell? ⟨w5.heap.size, 2, none⟩ = some (.slice none 0 0) := xw6a.cell 2
      have d3 : w6a.cell? ⟨w5.heap.size, 3, none⟩ = some (.slice none 0 0) := xw6a.cell 3
      have d4 : w6a.cell? ⟨w5.heap.size, 4, none⟩ = some (.int .i64 0) := xw6a.cell 4
      have f0 : w6a.frozen? ⟨w5.heap.size, 0, none⟩ = false := xw6a.frozen 0
      have f1 : w6a.frozen? ⟨w5.heap.size, 1, none⟩ = false := xw6a.frozen 1
      have f2 : w6a.frozen? ⟨w5.heap.size, 2, none⟩ = false := xw6a.frozen 2
      have f3 : w6a.frozen? ⟨w5.heap.size, 3, none⟩ = false := xw6a.frozen 3
      have f4 : w6a.frozen? ⟨w5.heap.size, 4, none⟩ = false := xw6a.frozen 4
      have H6 := Lib.hid (And.intro (H5.out.1.trans (uw6.mono H5.out.1.size)) (And.intro xw6 ((H5.out.2).belowOf uw6 (Nat.le_refl _))))
      have HS5 : Hid (w5.heap.size ≤ w6.heap.size) := Lib.hid uw6.size
      clear xw6a uw6a xw6 gw6 sw6 uw6
      go_wp2_with fail
      refine (HL2.out _ H6.out.1).mono ?_
      rintro e w7 ⟨A7, d7, X7, y7, rfl, o7, b7⟩
      have H7 := Lib.hid (And.intro (H6.out.1.trans (b7.mono H6.out.1.size)) (And.intro (H6.out.2.1.below b7 H6.out.2.1.lt) (And.intro (H6.out.2.2.belowOf b7 HS5.out) o7)))
      have HS7 : Hid (w6.heap.size ≤ w7.heap.size) := Lib.hid b7.size
      clear o7 b7
      obtain ⟨w8a, hw8a⟩ : ∃ wx, w7.alloc (.cells #[.int .i64 0, .bool false, .slice none 0 0, .slice none 0 0, .int .i64 0] 82) = wx := ⟨_, rfl⟩
      have xw8a : Box w8a w7.heap.size 82 #[.int .i64 0, .bool false, .slice none 0 0, .slice none 0 0, .int .i64 0] := hw8a ▸ Box.made _ _ _
      have uw8a : Below w7.heap.size w7 w8a := hw8a ▸ below_box _
      obtain ⟨w8, hw8⟩ : ∃ wx, (((((w8a.setCell ⟨w7.heap.size, 0, none⟩ (.int .i64 code)).setCell ⟨w7.heap.size, 1, none⟩ (.bool there)).setCell ⟨w7.heap.size, 2, none⟩ (.slice A7 rc.length d7)).setCell ⟨w7.heap.size, 3, none⟩ (.slice X7 0 y7)).setCell ⟨w7.heap.size, 4, none⟩ (.int .i64 id)) = wx := ⟨_, rfl⟩
      obtain ⟨xw8, gw8, sw8⟩ := store5 xw8a hw8
      have uw8 : Below w7.heap.size w7 w8 := uw8a.grown gw8 uw8a.size (fun g hg => by injection hg with hg; omega)
      have p0 : w8a.cell? ⟨w7.heap.size, 0, none⟩ = some (.int .i64 0) := xw8a.cell 0
      have p1 : w8a.cell? ⟨w7.heap.size, 1, none⟩ = some (.bool false) := xw8a.cell 1
      have p2 : w8a.cell? ⟨w7.heap.size, 2, none⟩ = some (.slice none 0 0) := xw8a.cell 2
      have p3 : w8a.cell? ⟨w7.heap.size, 3, none⟩ = some (.slice none 0 0) := xw8a.cell 3
      have p4 : w8a.cell? ⟨w7.heap.size, 4, none⟩ = some (.int .i64 0) := xw8a.cell 4
      have q0 : w8a.frozen? ⟨w7.heap.size, 0, none⟩ = false := xw8a.frozen 0
      have q1 : w8a.frozen? ⟨w7.heap.size, 1, none⟩ = false := xw8a.frozen 1
      have q2 : w8a.frozen? ⟨w7.heap.size, 2, none⟩ = false := xw8a.frozen 2
      have q3 : w8a.frozen? ⟨w7.heap.size, 3, none⟩ = false := xw8a.frozen 3
      have q4 : w8a.frozen? ⟨w7.heap.size, 4, none⟩ = false := xw8a.frozen 4
      have H8 := Lib.hid (And.intro (H7.out.1.trans (uw8.mono H7.out.1.size)) (And.intro (H7.out.2.1.below uw8 H7.out.2.1.lt) (And.intro xw8 (And.intro (H7.out.2.2.1.belowOf uw8 (Nat.le_trans HS5.out HS7.out)) (H7.out.2.2.2.belowOf uw8 HS7.out)))))
      have HS8 : Hid (w7.heap.size ≤ w8.heap.size) := Lib.hid uw8.size
      have HSR := Lib.hid (sameReply17_any ⟨code, there, rc, id⟩ ⟨code, there, rc, id⟩ A5 A7 none X7 rc.length rc.length c5 d7 0 y7 _ _ w8 H8.out.2.2.2.1 H8.out.2.2.2.2 (Nat.le_trans HS5.out (Nat.le_trans HS7.out HS8.out)) (Nat.le_trans HS7.out HS8.out) hrc hrc)
      rw [decide_eq_true rfl] at HSR
      have y0 : w8.cell? ⟨w5.heap.size, 0, none⟩ = some (.int .i64 code) := H8.out.2.1.cell 0
      have y1 : w8.cell? ⟨w5.heap.size, 1, none⟩ = some (.bool there) := H8.out.2.1.cell 1
      have y2 : w8.cell? ⟨w5.heap.size, 2, none⟩ = some (.slice A5 rc.length c5) := H8.out.2.1.cell 2
      have y3 : w8.cell? ⟨w5.heap.size, 3, none⟩ = some (.slice none 0 0) := H8.out.2.1.cell 3
      have y4 : w8.cell? ⟨w5.heap.size, 4, none⟩ = some (.int .i64 id) := H8.out.2.1.cell 4
      have t0 : w8.cell? ⟨w7.heap.size, 0, none⟩ = some (.int .i64 code) := xw8.cell 0
      have t1 : w8.cell? ⟨w7.heap.size, 1, none⟩ = some (.bool there) := xw8.cell 1
      have t2 : w8.cell? ⟨w7.heap.size, 2, none⟩ = some (.slice A7 rc.length d7) := xw8.cell 2
      have t3 : w8.cell? ⟨w7.heap.size, 3, none⟩ = some (.slice X7 0 y7) := xw8.cell 3
      have t4 : w8.cell? ⟨w7.heap.size, 4, none⟩ = some (.int .i64 id) := xw8.cell 4
      clear xw8a uw8a xw8 gw8 sw8 uw8
      go_wp2_with fail
      refine HSR.out.mono ?_
      rintro e w9 ⟨rfl, b9⟩
      have H9 := Lib.hid (H8.out.1.trans (b9.mono H8.out.1.size))
      clear b9
      go_wp2_with fail
      refine (HF1.out _ H9.out).mono ?_
      rintro e w9 ⟨rfl, hq⟩
      subst hq
      go_wp2_with fail
      refine (HF2.out _ H9.out).mono ?_
      rintro e w9 ⟨rfl, hq⟩
      subst hq
      go_wp2_with fail
      refine (HK1.out _ H9.out).mono ?_
      rintro e w10 ⟨v10, rfl, o10, b10, -⟩
      obtain ⟨A10, c10, rfl, -, -, hh10⟩ := own_sliceN o10
      have H10 := Lib.hid (And.intro (H9.out.trans (b10.mono H9.out.size)) hh10)
      clear o10 b10 hh10
      go_wp2_with fail
      refine (HK2.out _ H10.out.1).mono ?_
      rintro e w11 ⟨v11, rfl, o11, b11⟩
      obtain ⟨A11, c11, rfl, -, -, hh11⟩ := own_sliceN o11
      have H11 := Lib.hid (And.intro (H10.out.1.trans (b11.mono H10.out.1.size)) (And.intro (H10.out.2.belowOf b11 (Nat.le_refl _)) hh11))
      have hs11 : w10.heap.size ≤ w11.heap.size := b11.size
      clear o11 b11 hh11
      have HSI := Lib.hid (sameInts_any A10 A11 m m c10 c11 _ _ (numsG E) (numsG E) w11 (by have h9 := H11.out.2.1; rw [Nat.mul_one] at h9; exact h9) (by have h9 := H11.out.2.2; rw [Nat.mul_one] at h9; exact h9) (by unfold numsG; rw [List.length_map]; exact Hm.out) (by unfold numsG; rw [List.length_map]; exact Hm.out) (by simp only [maxLen]; omega) (by simp only [maxLen]; omega))
      rw [decide_eq_true rfl] at HSI
      go_wp2_with fail
      refine HSI.out.mono ?_
      rintro e w12 ⟨rfl, b12⟩
      have HE := Lib.hid (H11.out.1.trans (b12.mono H11.out.1.size))
      clear b12
      go_wp2
      go_roundw
      case rel => exact ⟨k + 1, by omega, by go_num, HE⟩
      case measure => simp [intOf]; omega
    · go_wp2
      go_ret
      exact ⟨rfl, HS.out _ HB.out, HB.out⟩
end Go.Proofs.Ytdfhnjocpfjagaa

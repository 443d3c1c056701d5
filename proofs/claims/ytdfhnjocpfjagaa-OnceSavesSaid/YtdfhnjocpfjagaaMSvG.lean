/- Save, Load and the document's Same beside other tables. Condition: the tables are in memory. -/
import Derived.Test.YtdfhnjocpfjagaaMSvC
import Derived.Test.YtdfhnjocpfjagaaMSvD
import Derived.Test.YtdfhnjocpfjagaaObA
import Derived.Test.YtdfhnjocpfjagaaRfC
import Derived.Test.YtdfhnjocpfjagaaMOnP
import Derived.Deep.RegionHeld3
import Derived.Laws.StructEq
namespace Go.Proofs.Ytdfhnjocpfjagaa
open Go.RowKit

theorem store3 {w W : World} {g : Nat} {t : TypeId} {y0 y1 y2 x0 x1 x2 : Value} (h : Box w g t #[y0, y1, y2]) (hW : ((w.setCell ⟨g, 0, none⟩ x0).setCell ⟨g, 1, none⟩ x1).setCell ⟨g, 2, none⟩ x2 = W) : Box W g t #[x0, x1, x2] ∧ w.grownBy W (some g) ∧ W.heap.size = w.heap.size := by
  subst hW
  have b0 : Box _ g t #[x0, y1, y2] := h.set_ 0 x0
  have b1 : Box _ g t #[x0, x1, y2] := b0.set_ 1 x1
  exact ⟨b1.set_ 2 x2, World.grownBy.trans (World.grownBy.trans (grown_set _ g 0 x0) (grown_set _ g 1 x1)) (grown_set _ g 2 x2), by simp⟩
/-- what Load leaves -/
def LoadP (l : List UInt8) (w : World) (e : Ending) (w' : World) : Prop :=
  Below w.heap.size w w' ∧ (TGood (loadT l) ∧ TInt (loadT l) ∧ (loadT l).length ≤ 40000) ∧
  ((saveT (loadT l) = l ∧ ∃ sb, e = .returned (.tuple #[.pointer (some ⟨sb, 0, none⟩), .int .i64 0]) ∧ TabAt w' (addF (fun _ => False) w w') sb (loadT l)) ∨ (saveT (loadT l) ≠ l ∧ e = .returned (.tuple #[.pointer none, .int .i64 3])))
set_option maxRecDepth 100000 in
set_option maxHeartbeats 12800000 in
theorem onceLoad_any (s : ByteArray) (hs : s.size ≤ 100000) (w : World) : Calls Try.prog 60 #[.string s] w (LoadP s.data.toList w) := by
  have hll : s.data.toList.length = s.size := size_bytes s
  obtain ⟨l, hl⟩ : ∃ l, s.data.toList = l := ⟨_, rfl⟩
  have Hl := Lib.hid hl
  obtain ⟨T, hT⟩ : ∃ T, loadT l = T := ⟨_, rfl⟩
  obtain ⟨FIN, hFIN⟩ : ∃ FIN, outL l (rNum l (0, 0)).1 [] (rNum l (0, 0)).2 = FIN := ⟨_, rfl⟩
  have HT1 : Hid (T = FIN.1) := Lib.hid (by rw [← hT, ← hFIN]; rfl)
  have hxlt := rNum_lt (l := l) (s := (0, 0))
  obtain ⟨⟨x, s1⟩, hx⟩ : ∃ R, rNum l (0, 0) = R := ⟨_, rfl⟩
  have HX := Lib.hid hx
  rw [hx] at hFIN hxlt
  try simp only at hFIN hxlt
  have HF0 := Lib.hid hFIN
  have HI1 : Hid (Inv l [] s1) := Lib.hid ⟨by simp, fun h => ⟨Nat.zero_le _, by have h2 := (rNum_mono (l := l) (s := (0, 0)) (by rw [hx]; exact h)).2.2.1; rw [hx] at h2; exact h2⟩⟩
  have HL0 : Hid (l.length ≤ 100000 ∧ l.length = s.size) := Lib.hid (by rw [← hl]; omega)
  have HP : ∀ e w', LoadP s.data.toList w e w' ↔ (Below w.heap.size w w' ∧ (TGood T ∧ TInt T ∧ T.length ≤ 40000) ∧ ((saveT T = l ∧ ∃ sb, e = .returned (.tuple #[.pointer (some ⟨sb, 0, none⟩), .int .i64 0]) ∧ TabAt w' (addF (fun _ => False) w w') sb T) ∨ (saveT T ≠ l ∧ e = .returned (.tuple #[.pointer none, .int .i64 3])))) := fun e w' => by
    unfold LoadP
    rw [hl, hT]
  have HPo := Lib.hid HP
  clear hl hT hFIN hx HP hll
  go_enter Try.func60, Try.ntmps60
  go_wp2_with fail
  refine (onceNew_any w).mono ?_
  rintro e w1 ⟨sb, rfl, t1, b1⟩
  obtain ⟨w2, c, hcv, hc, hs2, b2, hB⟩ := conv_bytes Try.prog w1 9 22 5 s Try.underlying9 Try.underlying22 Try.underlying5
  rw [Hl.out] at hB
  have Hs2 := Lib.hid hs2
  clear hs2
  obtain ⟨w3a, hw3a⟩ : ∃ wx, w2.alloc (.cells #[.slice none 0 0, .int .i64 0, .int .i64 0] 145) = wx := ⟨_, rfl⟩
  have x3a : Box w3a w2.heap.size 145 #[.slice none 0 0, .int .i64 0, .int .i64 0] := hw3a ▸ Box.made _ _ _
  have u3a : Below w2.heap.size w2 w3a := hw3a ▸ below_box _
  obtain ⟨w3, hw3⟩ : ∃ wx, (((w3a.setCell ⟨w2.heap.size, 0, none⟩ (.slice (some ⟨w1.heap.size, 0, none⟩) s.size c)).setCell ⟨w2.heap.size, 1, none⟩ (.int .i64 0)).setCell ⟨w2.heap.size, 2, none⟩ (.int .i64 0)) = wx := ⟨_, rfl⟩
  obtain ⟨x3, g3, s3⟩ := store3 x3a hw3
  have u3 : Below w2.heap.size w2 w3 := u3a.grown g3 u3a.size (fun g hg => by injection hg with hg; omega)
  have d0 : w3a.cell? ⟨w2.heap.size, 0, none⟩ = some (.slice none 0 0) := x3a.cell 0
  have d1 : w3a.cell? ⟨w2.heap.size, 1, none⟩ = some (.int .i64 0) := x3a.cell 1
  have d2 : w3a.cell? ⟨w2.heap.size, 2, none⟩ = some (.int .i64 0) := x3a.cell 2
  have f0 : w3a.frozen? ⟨w2.heap.size, 0, none⟩ = false := x3a.frozen 0
  have f1 : w3a.frozen? ⟨w2.heap.size, 1, none⟩ = false := x3a.frozen 1
  have f2 : w3a.frozen? ⟨w2.heap.size, 2, none⟩ = false := x3a.frozen 2
  have u13 : Below w1.heap.size w1 w3 := b2.trans (u3.mono b2.size)
  have H3 : Hid (LdF w (fun i => w.heap.size ≤ i) w3 sb w2.heap.size (some ⟨w1.heap.size, 0, none⟩) s.size c l [] (0, 0)) := Lib.hid (by
    have hbs := b1.size
    have hs2 := Hs2.out
    refine ⟨addF (fun _ => False) w w1, ⟨t1.below u13, TGood.nil, TInt.nil, ⟨x3, ?_, hc, by have := HL0.out; omega⟩, fun h => h.elim id fun h => by omega, fun a ha h => ?_⟩, fun i hi => hi.elim False.elim fun hi => .inl hi.1, KeptF.of (b1.trans (u13.mono hbs)), .inl (by omega), fun a ha => ?_⟩
    · have h1 := (hB.below u3 (by omega)).has
      rw [HL0.out.2] at h1
      rw [hs2]
      exact h1
    · injection ha with ha
      subst ha
      exact h.elim id fun h => by simp only at h; omega
    · injection ha with ha
      subst ha
      have := u13.size
      have := u3.size
      simp only
      omega)
  clear t1 hc hB x3a u3a x3 g3 s3 u3 u13 b2
  have Hn := Lib.hid H3.out.num
  rw [HX.out] at Hn
  go_wp2_with fail
  refine Hn.out.mono ?_
  rintro e w4 ⟨rfl, L4⟩
  obtain ⟨g, hg⟩ : ∃ g, w2.heap.size = g := ⟨_, rfl⟩
  rw [hg] at L4 ⊢
  have H4 : Hid (LdF w (fun i => w.heap.size ≤ i) w4 sb g (some ⟨w1.heap.size, 0, none⟩) s.size c l [] s1 ∧ Inv l [] s1 ∧ outL l x [] s1 = FIN) := Lib.hid ⟨L4, HI1.out, HF0.out⟩
  clear L4 Hn H3 HF0 HI1 HX d0 d1 d2 f0 f1 f2 hw3a hw3 hcv hg b1
  go_wp2
  go_loopw [6] (fun iv wr => ∃ (k : Nat) (T' : Tb) (s' : Rs), k < 9223372036854775808 ∧ iv = .int .i64 (k : Int) ∧ Hid (LdF w (fun i => w.heap.size ≤ i) wr sb g (some ⟨w1.heap.size, 0, none⟩) s.size c l T' s' ∧ Inv l T' s' ∧ outL l k T' s' = FIN)) (fun iv _ => (intOf iv).toNat)
  case atStart => exact ⟨x, _, _, hxlt, rfl, H4⟩
  case round =>
    obtain ⟨k, T', s', hk, rfl, HR⟩ := hrel
    clear H4
    obtain ⟨-, -, q2⟩ := HR.out.1.rd.cells.1
    obtain ⟨sp, se⟩ := s'
    try simp only at q2
    have HE0 : Hid (k = 0 ∨ se ≠ 0 → LdF w (fun i => w.heap.size ≤ i) wr sb g (some ⟨w1.heap.size, 0, none⟩) s.size c l T FIN.2 ∧ Inv l T FIN.2) := Lib.hid fun h => by
      have e1 : FIN = (T', (sp, se)) := by
        rw [← HR.out.2.2]
        cases k with
        | zero => rfl
        | succ k =>
          unfold outL
          rw [if_neg (by rcases h with h | h; cases h; exact h)]
      rw [HT1.out, e1]
      exact ⟨HR.out.1, HR.out.2.1⟩
    by_cases hgo : k ≠ 0 ∧ se = 0
    · obtain ⟨hk1, rfl⟩ := hgo
      cases k with
      | zero => exact absurd rfl hk1
      | succ k =>
        have hk0 : (0 : Int) < ((k + 1 : Nat) : Int) := by omega
        have HF3 : Hid (outL l k (cliL l T' (sp, 0)).1 (cliL l T' (sp, 0)).2 = FIN) := Lib.hid (by
          have h9 := HR.out.2.2
          unfold outL at h9
          rw [if_pos rfl] at h9
          exact h9)
        have Hld := Lib.hid (load1_any HR.out.1 HR.out.2.1 rfl)
        clear HE0 hk1
        go_wp2_with fail
        refine Hld.out.mono ?_
        rintro e w5 ⟨rfl, L5, I5⟩
        have HE : Hid (LdF w (fun i => w.heap.size ≤ i) w5 sb g (some ⟨w1.heap.size, 0, none⟩) s.size c l (cliL l T' (sp, 0)).1 (cliL l T' (sp, 0)).2 ∧ Inv l (cliL l T' (sp, 0)).1 (cliL l T' (sp, 0)).2 ∧ outL l k (cliL l T' (sp, 0)).1 (cliL l T' (sp, 0)).2 = FIN) := Lib.hid ⟨L5, I5, HF3.out⟩
        clear L5 I5 Hld
        have hkk : IntKind.i64.wrap (((k + 1 : Nat) : Int) - 1) = (k : Int) := by rw [IntWalk.i64_in _ (by omega)]; omega
        go_wp2
        go_roundw
        case rel => exact ⟨k, _, _, by omega, by first | rfl | (congr 1), HE⟩
        case measure => simp [intOf] <;> omega
    · have HE := Lib.hid (HE0.out (by by_cases h : k = 0; exact .inl h; exact .inr fun e => hgo ⟨h, e⟩))
      obtain ⟨F, HSt⟩ : ∃ F, Hid (LdSt wr F sb g (some ⟨w1.heap.size, 0, none⟩) s.size c l T FIN.2 ∧ (∀ i, F i → addF (fun i => w.heap.size ≤ i) w wr i) ∧ KeptF (fun i => w.heap.size ≤ i) w wr) := by
        obtain ⟨F, q1, q2, q3, -⟩ := HE.out.1
        exact ⟨F, Lib.hid ⟨q1, q2, q3⟩⟩
      have HTl : Hid (T.length ≤ 40000) := Lib.hid (by have := HE.out.2.1; have := HL0.out; omega)
      have HBw : Hid (Below w.heap.size w wr) := Lib.hid (HSt.out.2.2.below (fun i hi => hi) (Nat.le_refl _))
      have HSv := Lib.hid (onceSave_any HSt.out.1.tab HSt.out.1.good HSt.out.1.int HTl.out)
      have HTab : Hid (∀ wx, Below wr.heap.size wr wx → TabAt wx (addF (fun _ => False) w wx) sb T) := Lib.hid fun wx hb =>
        (HSt.out.1.tab.below hb).mono (fun i hi => .inr ⟨(HSt.out.2.1 i hi).elim id fun h => h.1, Nat.lt_of_lt_of_le (HSt.out.1.tab.lt i hi) hb.size⟩) fun i hi => hi.elim False.elim fun hi => hi.2
      obtain ⟨ST, hST⟩ : ∃ ST, saveT T = ST := ⟨_, rfl⟩
      have HST := Lib.hid hST
      rw [hST] at HSv
      have heq : (ST == s.toList) = decide (ST = l) := by
        have h9 := eq_toList ⟨ST.toArray⟩ s
        rw [Hl.out, Lib.toList_data] at h9
        exact h9
      have hx : (k = 0) ∨ (k ≠ 0 ∧ se ≠ 0) := by by_cases h : k = 0; exact .inl h; exact .inr ⟨h, fun e => hgo ⟨h, e⟩⟩
      clear hST hgo HE0
      by_cases hq : ST = l
      · rw [decide_eq_true hq] at heq
        have Hq := Lib.hid hq
        clear hq
        rcases hx with rfl | ⟨hk1, hse⟩
        · have hk0 : ¬ (0 : Int) < ((0 : Nat) : Int) := by omega
          go_wp2_with fail
          refine HSv.out.mono ?_
          rintro e w6 ⟨rfl, b6⟩
          have HZ : Hid (LoadP s.data.toList w (.returned (.tuple #[.pointer (some ⟨sb, 0, none⟩), .int .i64 0])) w6) := Lib.hid ((HPo.out _ _).2 ⟨HBw.out.trans (b6.mono HBw.out.size), ⟨HSt.out.1.good, HSt.out.1.int, HTl.out⟩, .inl ⟨by rw [HST.out]; exact Hq.out, sb, rfl, HTab.out _ b6⟩⟩)
          clear b6
          go_wp2
          go_ret2
          exact HZ.out
        · have hk0 : (0 : Int) < (k : Int) := by omega
          have hse' : ((se : Int) == 0) = false := by simpa using hse
          clear hk1 hse
          go_wp2_with fail
          refine HSv.out.mono ?_
          rintro e w6 ⟨rfl, b6⟩
          have HZ : Hid (LoadP s.data.toList w (.returned (.tuple #[.pointer (some ⟨sb, 0, none⟩), .int .i64 0])) w6) := Lib.hid ((HPo.out _ _).2 ⟨HBw.out.trans (b6.mono HBw.out.size), ⟨HSt.out.1.good, HSt.out.1.int, HTl.out⟩, .inl ⟨by rw [HST.out]; exact Hq.out, sb, rfl, HTab.out _ b6⟩⟩)
          clear b6
          go_wp2
          go_ret2
          exact HZ.out
      · rw [decide_eq_false hq] at heq
        have Hq := Lib.hid hq
        clear hq
        rcases hx with rfl | ⟨hk1, hse⟩
        · have hk0 : ¬ (0 : Int) < ((0 : Nat) : Int) := by omega
          go_wp2_with fail
          refine HSv.out.mono ?_
          rintro e w6 ⟨rfl, b6⟩
          have HZ : Hid (LoadP s.data.toList w (.returned (.tuple #[.pointer none, .int .i64 3])) w6) := Lib.hid ((HPo.out _ _).2 ⟨HBw.out.trans (b6.mono HBw.out.size), ⟨HSt.out.1.good, HSt.out.1.int, HTl.out⟩, .inr ⟨by rw [HST.out]; exact Hq.out, rfl⟩⟩)
          clear b6
          go_wp2
          go_ret2
          exact HZ.out
        · have hk0 : (0 : Int) < (k : Int) := by omega
          have hse' : ((se : Int) == 0) = false := by simpa using hse
          clear hk1 hse
          go_wp2_with fail
          refine HSv.out.mono ?_
          rintro e w6 ⟨rfl, b6⟩
          have HZ : Hid (LoadP s.data.toList w (.returned (.tuple #[.pointer none, .int .i64 3])) w6) := Lib.hid ((HPo.out _ _).2 ⟨HBw.out.trans (b6.mono HBw.out.size), ⟨HSt.out.1.good, HSt.out.1.int, HTl.out⟩, .inr ⟨by rw [HST.out]; exact Hq.out, rfl⟩⟩)
          clear b6
          go_wp2
          go_ret2
          exact HZ.out
end Go.Proofs.Ytdfhnjocpfjagaa

namespace Go.Proofs.Ytdfhnjocpfjagaa
open Go.RowKit

theorem one_iff (e f : OE) : e.one = f.one ↔ e.c = f.c ∧ e.n = f.n ∧ e.p = f.p := by simp [OE.one]
set_option maxRecDepth 100000 in
set_option maxHeartbeats 6400000 in
theorem refSame_any {F G : Nat → Prop} {w : World} {r1 r2 : Nat} {v1 u1 v2 u2 : Value} {L1 L2 : List OE} {Q1 Q2 : List (Int × Int)} (h1 : RefM w F r1 v1 u1 L1 Q1) (h2 : RefM w G r2 v2 u2 L2 Q2) (hl : (L1.length ≤ 40000 ∧ L2.length ≤ 40000) ∧ Q1.length ≤ 40000 ∧ Q2.length ≤ 40000) :
    Calls Try.prog 62 #[.pointer (some ⟨r1, 0, none⟩), .pointer (some ⟨r2, 0, none⟩)] w fun e w' => e = .returned (.bool (decide (L1.map OE.one = L2.map OE.one ∧ Q1 = Q2))) ∧ Below w.heap.size w w' := by
  obtain ⟨⟨p0, p1⟩, -, -⟩ := h1.cells
  obtain ⟨⟨q0, q1⟩, -, -⟩ := h2.cells
  obtain ⟨A1, d1, rfl, -, -, hL1⟩ := h1.ones.slice
  obtain ⟨B1, e1, rfl, -, -, hQ1⟩ := h1.fls.slice
  obtain ⟨A2, d2, rfl, -, -, hL2⟩ := h2.ones.slice
  obtain ⟨B2, e2, rfl, -, -, hQ2⟩ := h2.fls.slice
  obtain ⟨D, hD⟩ : ∃ D, decide (L1.map OE.one = L2.map OE.one ∧ Q1 = Q2) = D := ⟨_, rfl⟩
  rw [hD]
  have HD := Lib.hid hD
  have HV1 : Hid (∀ wx, Below w.heap.size w wx → ∀ e ∈ L1, HasVals wx wx.heap.size e.A e.p.rc.length e.p.rc) := Lib.hid fun wx hb e he => (h1.below hb).has he
  have HV2 : Hid (∀ wx, Below w.heap.size w wx → ∀ e ∈ L2, HasVals wx wx.heap.size e.A e.p.rc.length e.p.rc) := Lib.hid fun wx hb e he => (h2.below hb).has he
  have HRl : Hid ((∀ e ∈ L1, e.p.rc.length ≤ maxLen) ∧ ∀ e ∈ L2, e.p.rc.length ≤ maxLen) := Lib.hid ⟨fun e he => by obtain ⟨_, _, q, z1, z2, -⟩ := own_sliceN (h1.rows e he); exact Nat.le_trans z1 z2, fun e he => by obtain ⟨_, _, q, z1, z2, -⟩ := own_sliceN (h2.rows e he); exact Nat.le_trans z1 z2⟩
  obtain ⟨M, hM⟩ : ∃ M, L1.length = M := ⟨_, rfl⟩
  obtain ⟨M2, hM2⟩ : ∃ M2, L2.length = M2 := ⟨_, rfl⟩
  obtain ⟨N, hN⟩ : ∃ N, Q1.length = N := ⟨_, rfl⟩
  obtain ⟨N2, hN2⟩ : ∃ N2, Q2.length = N2 := ⟨_, rfl⟩
  rw [hM] at hL1 p0 hl
  rw [hM2] at hL2 q0 hl
  rw [hN] at hQ1 p1 hl
  rw [hN2] at hQ2 q1 hl
  have HM := Lib.hid (And.intro hM hM2)
  have HN := Lib.hid (And.intro hN hN2)
  have HL1 := Lib.hid hL1
  have HL2 := Lib.hid hL2
  have HQ1 := Lib.hid hQ1
  have HQ2 := Lib.hid hQ2
  have HP : Hid (∀ wx, Below w.heap.size w wx → (wx.cell? ⟨r1, 0, none⟩ = some (.slice A1 M d1) ∧ wx.cell? ⟨r1, 1, none⟩ = some (.slice B1 N e1)) ∧ wx.cell? ⟨r2, 0, none⟩ = some (.slice A2 M2 d2) ∧ wx.cell? ⟨r2, 1, none⟩ = some (.slice B2 N2 e2)) := Lib.hid fun wx hx => ⟨⟨(hx.cell h1.box.lt).trans p0, (hx.cell h1.box.lt).trans p1⟩, (hx.cell h2.box.lt).trans q0, (hx.cell h2.box.lt).trans q1⟩
  obtain ⟨⟨hl1, hl2⟩, hl3, hl4⟩ := hl
  clear h1 h2 hL1 hL2 hQ1 hQ2 hD hM hM2 hN hN2
  by_cases hMM : M = M2
  · subst hMM
    by_cases hNN : N = N2
    · subst hNN
      go_enter Try.func62, Try.ntmps62
      go_wp2
      go_quiet (fail)
      have HB0 : Hid (Below w.heap.size w (w.drewN nq)) := Lib.hid (below_drL (Below.refl _ _) nq)
      clear p0 p1 q0 q1
      generalize w.drewN nq = w1 at *
      go_wp2
      go_loopw [5] (fun iv wr => ∃ j : Nat, j ≤ M ∧ iv = .int .i64 (j : Int) ∧ Hid ((L1.take j).map OE.one = (L2.take j).map OE.one ∧ Below w.heap.size w wr)) (fun iv _ => M - (intOf iv).toNat)
      case atStart => exact ⟨0, by omega, rfl, Lib.hid ⟨rfl, HB0.out⟩⟩
      case round =>
        obtain ⟨j, hj, rfl, HR⟩ := hrel
        obtain ⟨⟨p0, p1⟩, q0, q1⟩ := HP.out _ HR.out.2
        by_cases hlt : j < M
        · obtain ⟨a, e, rfl, -, he, -⟩ := oe_cell HL1.out hlt
          obtain ⟨b, f, rfl, -, hf, -⟩ := oe_cell HL2.out hlt
          have hj0 : (0 : Int) ≤ (j : Int) := by omega
          have hj1 : (j : Int) < (M : Int) := by omega
          have HC : Hid (∀ wx, Below w.heap.size w wx → (wx.cell? ⟨r1, 0, none⟩ = some (.slice (some a) M d1) ∧ wx.cell? (a.add (j * 7)) = some (.int .i64 e.c) ∧ wx.cell? ⟨(a.add (j * 7)).block, (a.add (j * 7)).off + 1, none⟩ = some (.int .i64 e.n) ∧ wx.cell? ⟨(a.add (j * 7)).block, (a.add (j * 7)).off + 2, none⟩ = some (.int .i64 e.p.code) ∧ wx.cell? ⟨(a.add (j * 7)).block, (a.add (j * 7)).off + 2 + 1, none⟩ = some (.bool e.p.there) ∧ wx.cell? ⟨(a.add (j * 7)).block, (a.add (j * 7)).off + 2 + 2, none⟩ = some (.slice e.A e.p.rc.length e.d) ∧ wx.cell? ⟨(a.add (j * 7)).block, (a.add (j * 7)).off + 2 + 3, none⟩ = some (.slice e.X 0 e.y) ∧ wx.cell? ⟨(a.add (j * 7)).block, (a.add (j * 7)).off + 2 + 4, none⟩ = some (.int .i64 e.p.id)) ∧ wx.cell? ⟨r2, 0, none⟩ = some (.slice (some b) M d2) ∧ wx.cell? (b.add (j * 7)) = some (.int .i64 f.c) ∧ wx.cell? ⟨(b.add (j * 7)).block, (b.add (j * 7)).off + 1, none⟩ = some (.int .i64 f.n) ∧ wx.cell? ⟨(b.add (j * 7)).block, (b.add (j * 7)).off + 2, none⟩ = some (.int .i64 f.p.code) ∧ wx.cell? ⟨(b.add (j * 7)).block, (b.add (j * 7)).off + 2 + 1, none⟩ = some (.bool f.p.there) ∧ wx.cell? ⟨(b.add (j * 7)).block, (b.add (j * 7)).off + 2 + 2, none⟩ = some (.slice f.A f.p.rc.length f.d) ∧ wx.cell? ⟨(b.add (j * 7)).block, (b.add (j * 7)).off + 2 + 3, none⟩ = some (.slice f.X 0 f.y) ∧ wx.cell? ⟨(b.add (j * 7)).block, (b.add (j * 7)).off + 2 + 4, none⟩ = some (.int .i64 f.p.id)) := Lib.hid fun wx hx => by
            obtain ⟨c0, c1, c2, c3, c4, c5, c6⟩ := oe_fix HL1.out hlt he wx hx
            obtain ⟨g0, g1, g2, g3, g4, g5, g6⟩ := oe_fix HL2.out hlt hf wx hx
            exact ⟨⟨(HP.out wx hx).1.1, c0, c1, c2, c3, c4, c5, c6⟩, (HP.out wx hx).2.1, g0, g1, g2, g3, g4, g5, g6⟩
          have He := Lib.hid he
          have Hf := Lib.hid hf
          have hDf : e.one ≠ f.one → D = false := fun hne => by
            rw [← HD.out]
            refine decide_eq_false fun h => hne ?_
            have h9 := congrArg (fun l => l[j]?) h.1
            simp only [List.getElem?_map, He.out, Hf.out, Option.map_some] at h9
            injection h9
          have HDf := Lib.hid hDf
          have HW : Hid (HasVals w w.heap.size e.A e.p.rc.length e.p.rc ∧ HasVals w w.heap.size f.A f.p.rc.length f.p.rc ∧ e.p.rc.length ≤ maxLen ∧ f.p.rc.length ≤ maxLen) := Lib.hid ⟨HV1.out w (Below.refl _ _) e (List.mem_of_getElem? he), HV2.out w (Below.refl _ _) f (List.mem_of_getElem? hf), HRl.out.1 e (List.mem_of_getElem? he), HRl.out.2 f (List.mem_of_getElem? hf)⟩
          clear he hf hDf
          obtain ⟨⟨-, c1, c2, c3, c4, c5, c6, c7⟩, -, g1, g2, g3, g4, g5, g6, g7⟩ := HC.out _ HR.out.2
          by_cases k1 : e.c = f.c
          · have b1 : (e.c == f.c) = true := by simpa using k1
            have b1' : (e.c != f.c) = false := by simp [k1]
            by_cases k2 : e.n = f.n
            · have b2 : (e.n == f.n) = true := by simpa using k2
              have b2' : (e.n != f.n) = false := by simp [k2]
              obtain ⟨z, hz⟩ : ∃ z, decide (e.p = f.p) = z := ⟨_, rfl⟩
              have HZ : Hid ((z = false → D = false) ∧ (z = true → e.one = f.one)) := Lib.hid ⟨fun h => HDf.out fun h2 => by rw [h] at hz; exact of_decide_eq_false hz ((one_iff e f).1 h2).2.2, fun h => (one_iff e f).2 ⟨k1, k2, by rw [h] at hz; exact of_decide_eq_true hz⟩⟩
              have hdr : Below wr.heap.size wr wr.drew := (Below.refl _ _).drew
              have HDr := Lib.hid (HR.out.2.trans (hdr.mono HR.out.2.size))
              have HSR := Lib.hid (sameReply17_any e.p f.p e.A f.A e.X f.X e.p.rc.length f.p.rc.length e.d f.d e.y f.y _ _ wr.drew (HW.out.1.belowOf HDr.out (Nat.le_refl _)) (HW.out.2.1.belowOf HDr.out (Nat.le_refl _)) HDr.out.size HDr.out.size HW.out.2.2.1 HW.out.2.2.2)
              rw [hz] at HSR
              clear hz k1 k2 hdr c1 c2 c3 c4 c5 c6 c7 g1 g2 g3 g4 g5 g6 g7 HW
              go_wp2
              go_region_held3 (fun wx => (wx.cell? ⟨r1, 0, none⟩ = some (.slice (some a) M d1) ∧ wx.cell? (a.add (j * 7)) = some (.int .i64 e.c) ∧ wx.cell? ⟨(a.add (j * 7)).block, (a.add (j * 7)).off + 1, none⟩ = some (.int .i64 e.n) ∧ wx.cell? ⟨(a.add (j * 7)).block, (a.add (j * 7)).off + 2, none⟩ = some (.int .i64 e.p.code) ∧ wx.cell? ⟨(a.add (j * 7)).block, (a.add (j * 7)).off + 2 + 1, none⟩ = some (.bool e.p.there) ∧ wx.cell? ⟨(a.add (j * 7)).block, (a.add (j * 7)).off + 2 + 2, none⟩ = some (.slice e.A e.p.rc.length e.d) ∧ wx.cell? ⟨(a.add (j * 7)).block, (a.add (j * 7)).off + 2 + 3, none⟩ = some (.slice e.X 0 e.y) ∧ wx.cell? ⟨(a.add (j * 7)).block, (a.add (j * 7)).off + 2 + 4, none⟩ = some (.int .i64 e.p.id)) ∧ wx.cell? ⟨r2, 0, none⟩ = some (.slice (some b) M d2) ∧ wx.cell? (b.add (j * 7)) = some (.int .i64 f.c) ∧ wx.cell? ⟨(b.add (j * 7)).block, (b.add (j * 7)).off + 1, none⟩ = some (.int .i64 f.n) ∧ wx.cell? ⟨(b.add (j * 7)).block, (b.add (j * 7)).off + 2, none⟩ = some (.int .i64 f.p.code) ∧ wx.cell? ⟨(b.add (j * 7)).block, (b.add (j * 7)).off + 2 + 1, none⟩ = some (.bool f.p.there) ∧ wx.cell? ⟨(b.add (j * 7)).block, (b.add (j * 7)).off + 2 + 2, none⟩ = some (.slice f.A f.p.rc.length f.d) ∧ wx.cell? ⟨(b.add (j * 7)).block, (b.add (j * 7)).off + 2 + 3, none⟩ = some (.slice f.X 0 f.y) ∧ wx.cell? ⟨(b.add (j * 7)).block, (b.add (j * 7)).off + 2 + 4, none⟩ = some (.int .i64 f.p.id))
                (first | exact HC.out _ HDr.out | exact HC.out _ cS)
                (first | (go_at_call 52; refine HSR.out.mono ?_; rintro e' wS ⟨rfl, bS⟩; have cS : Below w.heap.size w wS := HDr.out.trans (bS.mono HDr.out.size)))
              have HS := Lib.hid cS
              clear cS bS
              cases z with
              | false =>
                have HE := Lib.hid (HZ.out.1 rfl)
                go_wp2
                go_ret
                exact ⟨ret_bool (by rw [HE.out]), HS.out⟩
              | true =>
                have HE := Lib.hid (HZ.out.2 rfl)
                go_wp2
                go_roundw
                case rel => exact ⟨j + 1, by omega, by go_num, Lib.hid ⟨by rw [List.take_add_one, List.take_add_one, He.out, Hf.out, List.map_append, List.map_append, HR.out.1]; simp [HE.out], HS.out⟩⟩
                case measure => simp [intOf]; omega
            · have b2 : (e.n == f.n) = false := by simpa using k2
              have b2' : (e.n != f.n) = true := by simpa using k2
              have HE := Lib.hid (HDf.out fun h => k2 ((one_iff e f).1 h).2.1)
              clear k1 k2
              go_wp2
              go_quiet (fail)
              go_wp2
              go_ret
              exact ⟨ret_bool (by rw [HE.out]), below_drL HR.out.2 _⟩
          · have b1 : (e.c == f.c) = false := by simpa using k1
            have b1' : (e.c != f.c) = true := by simpa using k1
            have HE := Lib.hid (HDf.out fun h => k1 ((one_iff e f).1 h).1)
            clear k1
            go_wp2
            go_quiet (fail)
            go_wp2
            go_ret
            exact ⟨ret_bool (by rw [HE.out]), below_drL HR.out.2 _⟩
        · have HLe : Hid (L1.map OE.one = L2.map OE.one) := Lib.hid (by
            have h9 := HR.out.1
            rwa [List.take_of_length_le (by have := HM.out.1; omega), List.take_of_length_le (by have := HM.out.2; omega)] at h9)
          have HBr := Lib.hid HR.out.2
          clear HR HB0
          go_wp2
          go_loopw [6] (fun iv wr => ∃ i : Nat, i ≤ N ∧ iv = .int .i64 (i : Int) ∧ Hid (Q1.take i = Q2.take i ∧ Below w.heap.size w wr)) (fun iv _ => N - (intOf iv).toNat)
          case atStart => exact ⟨0, by omega, rfl, Lib.hid ⟨rfl, HBr.out⟩⟩
          case round =>
            obtain ⟨i, hi, rfl, HI⟩ := hrel
            clear p0 p1 q0 q1
            obtain ⟨⟨p0, p1⟩, q0, q1⟩ := HP.out _ HI.out.2
            by_cases hli : i < N
            · obtain ⟨a, e, rfl, -, he, -⟩ := fl_cell HQ1.out hli
              obtain ⟨b, f, rfl, -, hf, -⟩ := fl_cell HQ2.out hli
              have hi0 : (0 : Int) ≤ (i : Int) := by omega
              have hi1 : (i : Int) < (N : Int) := by omega
              obtain ⟨c0, c1⟩ := fl_fix HQ1.out hli he _ HI.out.2
              obtain ⟨g0, g1⟩ := fl_fix HQ2.out hli hf _ HI.out.2
              have He := Lib.hid he
              have Hf := Lib.hid hf
              clear he hf
              obtain ⟨ec, en⟩ := e
              obtain ⟨fc, fn⟩ := f
              simp only at c0 c1 g0 g1
              by_cases k1 : ec = fc ∧ en = fn
              · obtain ⟨rfl, rfl⟩ := k1
                go_wp2
                go_quiet (fail)
                go_wp2
                go_roundw
                case rel => exact ⟨i + 1, by omega, by go_num, Lib.hid ⟨by rw [List.take_add_one, List.take_add_one, He.out, Hf.out, HI.out.1], below_drL HI.out.2 _⟩⟩
                case measure => simp [intOf]; omega
              · have HE : Hid (D = false) := Lib.hid (by
                  rw [← HD.out]
                  refine decide_eq_false fun h => k1 ?_
                  have h9 := congrArg (fun l => l[i]?) h.2
                  simp only [He.out, Hf.out] at h9
                  injection h9 with h9
                  injection h9 with z1 z2
                  exact ⟨z1, z2⟩)
                by_cases k2 : ec = fc
                · subst k2
                  have hb : (en == fn) = false := beq_false_of_ne fun e => k1 ⟨rfl, e⟩
                  clear k1
                  go_wp2
                  go_quiet (fail)
                  go_wp2
                  go_ret
                  exact ⟨ret_bool (by rw [HE.out]), below_drL HI.out.2 _⟩
                · have hb : (ec == fc) = false := beq_false_of_ne k2
                  clear k1 k2
                  go_wp2
                  go_quiet (fail)
                  go_wp2
                  go_ret
                  exact ⟨ret_bool (by rw [HE.out]), below_drL HI.out.2 _⟩
            · have HE : Hid (D = true) := Lib.hid (by
                rw [← HD.out]
                refine decide_eq_true ⟨HLe.out, ?_⟩
                have h9 := HI.out.1
                rwa [List.take_of_length_le (by have := HN.out.1; omega), List.take_of_length_le (by have := HN.out.2; omega)] at h9)
              go_wp2
              go_ret
              exact ⟨ret_bool (by rw [HE.out]), HI.out.2⟩
    · have HE : Hid (D = false) := Lib.hid (by
        rw [← HD.out]
        refine decide_eq_false fun h => hNN ?_
        have h9 := congrArg List.length h.2
        have := HN.out
        omega)
      have b1 : ((M : Int) != (M : Int)) = false := by simp
      have b2 : ((N : Int) != (N2 : Int)) = true := by simp; omega
      go_enter Try.func62, Try.ntmps62
      go_wp2
      go_quiet (fail)
      go_wp2
      go_ret
      exact ⟨ret_bool (by rw [HE.out]), below_drL (Below.refl _ _) _⟩
  · have HE : Hid (D = false) := Lib.hid (by
      rw [← HD.out]
      refine decide_eq_false fun h => hMM ?_
      have h9 := congrArg List.length h.1
      rw [List.length_map, List.length_map] at h9
      have := HM.out
      omega)
    have b1 : ((M : Int) != (M2 : Int)) = true := by simp; omega
    go_enter Try.func62, Try.ntmps62
    go_wp2
    go_quiet (fail)
    go_wp2
    go_ret
    exact ⟨ret_bool (by rw [HE.out]), below_drL (Below.refl _ _) _⟩
end Go.Proofs.Ytdfhnjocpfjagaa

namespace Go.Proofs.Ytdfhnjocpfjagaa
open Go.RowKit

section
variable {B : Nat} {w : World} {l : List Ob} {k sb : Nat} {T : Tb}
theorem s_save (h : SepO B w l) (hk : l[k]? = some (.tab sb T)) (hi : TInt T) (hl : T.length ≤ 40000) : Calls Try.prog 61 #[.pointer (some ⟨sb, 0, none⟩)] w fun e w' => e = .returned (.string ⟨(saveT T).toArray⟩) ∧ SepO B w' l ∧ Below w.heap.size w w' := by
  obtain ⟨F, ⟨h1, h2⟩, -⟩ := h.at_ hk
  refine (onceSave_any h1 h2 hi hl).mono ?_
  rintro e w' ⟨rfl, b⟩
  exact ⟨rfl, s_below h b, b⟩
theorem s_load (h : SepO B w l) (hB : B ≤ w.heap.size) (s : ByteArray) (hs : s.size ≤ 100000) : Calls Try.prog 60 #[.string s] w fun e w' => Below w.heap.size w w' ∧ (TInt (loadT s.data.toList) ∧ (loadT s.data.toList).length ≤ 40000) ∧
    ((saveT (loadT s.data.toList) = s.data.toList ∧ ∃ sb, e = .returned (.tuple #[.pointer (some ⟨sb, 0, none⟩), .int .i64 0]) ∧ SepO B w' (l ++ [.tab sb (loadT s.data.toList)])) ∨ (saveT (loadT s.data.toList) ≠ s.data.toList ∧ e = .returned (.tuple #[.pointer none, .int .i64 3]))) := by
  refine (onceLoad_any s hs w).mono ?_
  rintro e w' ⟨b, ⟨g1, g2, g3⟩, h1⟩
  refine ⟨b, ⟨g2, g3⟩, ?_⟩
  rcases h1 with ⟨q1, sb, rfl, q2⟩ | ⟨q1, rfl⟩
  · exact .inl ⟨q1, sb, rfl, h.new sepOb hB b (o := .tab sb (loadT s.data.toList)) ⟨q2, g1⟩⟩
  · exact .inr ⟨q1, rfl⟩
theorem s_same {i j ra rb : Nat} {RA RB : Rf} (h : SepO B w l) (hi : l[i]? = some (.ref ra RA)) (hj : l[j]? = some (.ref rb RB)) (hl : (RA.L.length ≤ 40000 ∧ RB.L.length ≤ 40000) ∧ RA.Q.length ≤ 40000 ∧ RB.Q.length ≤ 40000) :
    Calls Try.prog 62 #[.pointer (some ⟨ra, 0, none⟩), .pointer (some ⟨rb, 0, none⟩)] w fun e w' => e = .returned (.bool (decide (RA.L = RB.L ∧ RA.Q = RB.Q))) ∧ SepO B w' l ∧ Below w.heap.size w w' := by
  obtain ⟨F, ⟨va, ua, LA, mA, eA⟩, -⟩ := h.at_ hi
  obtain ⟨G, ⟨vb, ub, LB, mB, eB⟩, -⟩ := h.at_ hj
  have h3 := refSame_any mA mB ⟨⟨by have := congrArg List.length eA; rw [List.length_map] at this; omega, by have := congrArg List.length eB; rw [List.length_map] at this; omega⟩, hl.2⟩
  refine h3.mono ?_
  rintro e w' ⟨rfl, b⟩
  exact ⟨ret_bool (by congr 1; rw [eA, eB]), s_below h b, b⟩
end
/-- the document's tables are the same just if they say the same of each client -/
theorem ref_ext {R R' : Rf} {T T' : Tb} (h : Rel R T) (h' : Rel R' T') (g : TGood T) (g' : TGood T') : (R.L = R'.L ∧ R.Q = R'.Q) ↔ T = T' := by
  constructor
  · rintro ⟨e1, e2⟩
    refine tb_ext g g' fun k => ?_
    have a1 := h.fl k
    have a2 := h'.fl k
    have b1 := h.E k
    have b2 := h'.E k
    rw [e2] at a1
    rw [e1] at b1
    obtain ⟨f1, E1⟩ : ∃ p, getT k T = p := ⟨_, rfl⟩
    cases hp : getT k T
    cases hp' : getT k T'
    rw [hp] at a1 b1
    rw [hp'] at a2 b2
    simp only at a1 a2 b1 b2
    rw [← a1, ← a2, ← b1, ← b2]
  · rintro rfl
    refine ⟨?_, extG h.rq h'.rq fun k => ?_⟩
    · -- the answers stand in one order
      have hm : ∀ e : On, e ∈ R.L ↔ e ∈ R'.L := fun e => by
        have s1 := sub_mem (c := e.1) (L := R.L) (p := e.2)
        have s2 := sub_mem (c := e.1) (L := R'.L) (p := e.2)
        rw [h.E] at s1
        rw [h'.E] at s2
        exact s1.symm.trans s2
      have key : ∀ (a b : List On), Lex a → Lex b → (∀ e, e ∈ a ↔ e ∈ b) → a = b := by
        intro a
        induction a with
        | nil =>
          intro b _ _ he
          cases b with
          | nil => rfl
          | cons y b => exact absurd ((he y).2 (by simp)) (by simp)
        | cons x a ih =>
          intro b ha hb he
          cases b with
          | nil => exact absurd ((he x).1 (by simp)) (by simp)
          | cons y b =>
            obtain ⟨a1, a2⟩ := List.pairwise_cons.1 ha
            obtain ⟨b1, b2⟩ := List.pairwise_cons.1 hb
            have hxy : x = y := by
              have q1 := (he x).1 (by simp)
              have q2 := (he y).2 (by simp)
              rcases List.mem_cons.1 q1 with q1 | q1
              · exact q1
              · rcases List.mem_cons.1 q2 with q2 | q2
                · exact q2.symm
                · have z1 := b1 x q1
                  have z2 := a1 y q2
                  omega
            subst hxy
            congr 1
            refine ih b a2 b2 fun e => ?_
            constructor
            · intro hea
              rcases List.mem_cons.1 ((he e).1 (by simp [hea])) with q | q
              · subst q
                have := a1 e hea
                omega
              · exact q
            · intro heb
              rcases List.mem_cons.1 ((he e).2 (by simp [heb])) with q | q
              · subst q
                have := b1 e heb
                omega
              · exact q
      exact key _ _ h.lex h'.lex hm
    · have a1 := h.fl k
      have a2 := h'.fl k
      have p1 := fun x (hx : getG k R.Q = some x) => h.pos _ (getG_mem hx)
      have p2 := fun x (hx : getG k R'.Q = some x) => h'.pos _ (getG_mem hx)
      unfold flR at a1 a2
      cases hx : getG k R.Q with
      | none =>
        cases hy : getG k R'.Q with
        | none => rfl
        | some y =>
          have := p2 y hy
          rw [hx] at a1
          rw [hy] at a2
          simp only [Option.getD_none, Option.getD_some] at a1 a2
          simp only at this
          omega
      | some x =>
        cases hy : getG k R'.Q with
        | none =>
          have := p1 x hx
          rw [hx] at a1
          rw [hy] at a2
          simp only [Option.getD_none, Option.getD_some] at a1 a2
          simp only at this
          omega
        | some y =>
          rw [hx] at a1
          rw [hy] at a2
          simp only [Option.getD_some] at a1 a2
          rw [a1, a2]
end Go.Proofs.Ytdfhnjocpfjagaa

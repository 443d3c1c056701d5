/- Layer 17: the document's table beside others; the law's same. Condition: the tables are in memory, the document's says what the clients' pasts say. -/
import Derived.Test.YtdfhnjocpfjagaaRfD
import Derived.Test.YtdfhnjocpfjagaaOnH
namespace Go.Proofs.Ytdfhnjocpfjagaa
open Go.RowKit

theorem raiseR_len (c f : Int) (R : Rf) : (raiseR c f R).L.length ≤ R.L.length ∧ (raiseR c f R).Q.length ≤ R.Q.length + 1 := by
  unfold raiseR
  split
  · exact ⟨List.length_filter_le _ _, putG_len _ _ _⟩
  · exact ⟨List.length_filter_le _ _, Nat.le_succ _⟩
theorem insR_len (x : On) : ∀ L : List On, (insR x L).length = L.length + 1
  | [] => rfl
  | e :: l => by
    unfold insR
    split
    · rw [List.length_cons, insR_len x l, List.length_cons]
    · rfl
theorem putR_len (x : On) (R : Rf) : (putR x R).L.length ≤ R.L.length + 1 ∧ (putR x R).Q.length ≤ R.Q.length + 1 := by
  unfold putR
  split
  · have := raiseR_len x.1 (over (sub x.1 (insR x R.L))) ⟨insR x R.L, R.Q⟩
    simp only [insR_len] at this
    exact this
  · exact ⟨Nat.le_of_eq (insR_len _ _), Nat.le_succ _⟩
theorem keepR_len (c n : Int) (r : Rp) (m : Nat) (R : Rf) : (keepR c n r m R).L.length ≤ R.L.length + 1 ∧ (keepR c n r m R).Q.length ≤ R.Q.length + 1 := by
  unfold keepR
  split
  · exact putR_len _ _
  · exact ⟨Nat.le_succ _, Nat.le_succ _⟩
section
variable {B : Nat} {w w' : World} {l : List Ob} {k rb : Nat} {R : Rf}
theorem s_rnew (h : SepO B w l) (hB : B ≤ w.heap.size) {t : TypeId} (ht : t = 78) : SepO B (w.alloc (.cells #[.slice none 0 0, .slice none 0 0] t)) (l ++ [.ref w.heap.size Rf.nil]) := by
  subst ht
  have hb : Below w.heap.size w (w.alloc (.cells #[.slice none 0 0, .slice none 0 0] 78)) := below_box _
  have hx : Box (w.alloc (.cells #[.slice none 0 0, .slice none 0 0] 78)) w.heap.size 78 #[.slice none 0 0, .slice none 0 0] := Box.made _ _ _
  refine h.new sepOb hB hb (o := .ref w.heap.size Rf.nil) ⟨.slice none 0 0, .slice none 0 0, [], ⟨.inr ⟨Nat.le_refl _, hx.lt⟩, (fun g hg => by cases hg), (fun g hg => by cases hg), fun i hi => hi.elim False.elim fun hi => hi.2, hx, OwnG.nil _ _, OwnG.nil _ _, by simp⟩, rfl⟩
theorem s_rlook (h : SepO B w l) (hk : l[k]? = some (.ref rb R)) (hl : R.L.length ≤ 40000 ∧ R.Q.length ≤ 40000) (hr : RiseG R.Q) (c n : Int) :
    Calls Try.prog 51 #[.pointer (some ⟨rb, 0, none⟩), .int .i64 c, .int .i64 n] w (RefLook (lookR c n R) w) := by
  obtain ⟨F, ⟨v, u, L, h1, h2⟩, -⟩ := h.at_ hk
  have h3 := refLook_any h1 (by omega) (by have := congrArg List.length h2; rw [List.length_map] at this; omega) hr c n
  rw [h2] at h3
  exact h3
theorem s_rfloor (h : SepO B w l) (hk : l[k]? = some (.ref rb R)) (hl : R.L.length ≤ 40000 ∧ R.Q.length ≤ 40000) (hr : RiseG R.Q) (c : Int) :
    Calls Try.prog 89 #[.pointer (some ⟨rb, 0, none⟩), .int .i64 c] w fun e w' => e = .returned (.int .i64 (flR c R.Q)) ∧ w' = w := by
  obtain ⟨F, ⟨v, u, L, h1, h2⟩, -⟩ := h.at_ hk
  exact refFloor_any h1 (by omega) hr c
theorem s_rknown (h : SepO B w l) (hk : l[k]? = some (.ref rb R)) (hl : R.L.length ≤ 40000 ∧ R.Q.length ≤ 40000) (c : Int) :
    Calls Try.prog 94 #[.pointer (some ⟨rb, 0, none⟩), .int .i64 c] w fun e w' => ∃ v, e = .returned v ∧ w'.ownsRow w.heap.size 3 1 v (sub c R.L).length ((numsG (sub c R.L)).map encZ) ∧ Below w.heap.size w w' := by
  obtain ⟨F, ⟨v, u, L, h1, h2⟩, -⟩ := h.at_ hk
  have h3 := refKnown_any h1 (by have := congrArg List.length h2; rw [List.length_map] at this; omega) c
  rw [h2] at h3
  exact h3
theorem s_rkeep (h : SepO B w l) (hB : B ≤ w.heap.size) (hk : l[k]? = some (.ref rb R)) (hl : R.L.length ≤ 40000 ∧ R.Q.length ≤ 40000) (hr : RiseG R.Q) (hx : Lex R.L) (c n : Int) (r : Rp) (A : Option Addr) (rn d m : Nat) (X : Option Addr) (y C : Nat) (hv : HasVals w C A rn r.rc) (hrn : rn ≤ maxLen) (hC : C ≤ w.heap.size) :
    Calls Try.prog 54 #[.pointer (some ⟨rb, 0, none⟩), .int .i64 c, .int .i64 n, .agg #[.int .i64 r.code, .bool r.there, .slice A rn d, .slice X m y, .int .i64 r.id]] w fun e w' =>
      e = .returned (.int .i64 (keepRE c n r m R)) ∧ SepO B w' (l.set k (.ref rb (keepR c n r m R))) ∧ Below B w w' := by
  obtain ⟨F, ⟨v, u, L, h1, h2⟩, h3, h4⟩ := h.step sepOb hB hk
  have h5 := refKeep_any h1 (by omega) (by have := congrArg List.length h2; rw [List.length_map] at this; omega) hr (by rw [h2]; exact hx) c n r A rn d m X y C hv hrn hC
  rw [h2] at h5
  refine h5.mono ?_
  rintro e w' ⟨rfl, g1, g2, g3⟩
  obtain ⟨g4, g5⟩ := h4 w' (.ref rb (keepR c n r m R)) (g2.weak fun i _ hi => by have hi2 : i = rb := hi; rw [hi2]; exact h1.rF) g3 g1
  exact ⟨rfl, g4, g5⟩
end
set_option maxRecDepth 100000 in
set_option maxHeartbeats 12800000 in
theorem same17_any {B : Nat} {w : World} {l : List Ob} {i j sb rb : Nat} {T : Tb} {R : Rf} (S : SepO B w l) (hi : l[i]? = some (.tab sb T)) (hj : l[j]? = some (.ref rb R)) (hR : Rel R T) (hl : R.L.length ≤ 40000 ∧ R.Q.length ≤ 40000)
    (A : Option Addr) (n c C : Nat) (acts : List ActO) (h : HasOas w C A n acts) (hC : C ≤ w.heap.size) (hn : n ≤ maxLen) :
    Calls Try.prog 55 #[.pointer (some ⟨sb, 0, none⟩), .pointer (some ⟨rb, 0, none⟩), .slice A n c] w fun e w' => e = .returned (.bool true) ∧ SepO B w' l ∧ Below w.heap.size w w' := by
  have HS := Lib.hid (fun wx (hb : Below w.heap.size w wx) => s_below S hb)
  have HLk := Lib.hid (fun wx (hb : Below w.heap.size w wx) (a b : Int) (ha : (Lit.int .i64 a).wf = true) (hb2 : (Lit.int .i64 b).wf = true) => s_look (k := i) (s_below S hb) hi a b ha hb2)
  have HRk := Lib.hid (fun wx (hb : Below w.heap.size w wx) (a b : Int) => s_rlook (k := j) (s_below S hb) hj hl hR.rq a b)
  have HFl := Lib.hid (fun wx (hb : Below w.heap.size w wx) (a : Int) (ha : (Lit.int .i64 a).wf = true) => s_floor (k := i) (s_below S hb) hi a ha)
  have HRf := Lib.hid (fun wx (hb : Below w.heap.size w wx) (a : Int) => s_rfloor (k := j) (s_below S hb) hj hl hR.rq a)
  have HKn := Lib.hid (fun wx (hb : Below w.heap.size w wx) (a : Int) (ha : (Lit.int .i64 a).wf = true) => s_known (k := i) (s_below S hb) hi a ha)
  have HRn := Lib.hid (fun wx (hb : Below w.heap.size w wx) (a : Int) => s_rknown (k := j) (s_below S hb) hj hl a)
  have HR := Lib.hid hR
  have HG := Lib.hid (s_good (k := i) S hi)
  have Hact : Hid (∀ (k : Nat), k < n → ∃ a o, A = some a ∧ ((Lit.int .i64 o.c).wf = true ∧ (Lit.int .i64 o.n).wf = true) ∧ ∀ wx, Below w.heap.size w wx → wx.cell? ⟨(a.add (k * 8)).block, (a.add (k * 8)).off + 1, none⟩ = some (.int .i64 (ActO.c o)) ∧ wx.cell? ⟨(a.add (k * 8)).block, (a.add (k * 8)).off + 2, none⟩ = some (.int .i64 o.n)) := Lib.hid fun k hk => by
    obtain ⟨a, o, e, hab, ho, ⟨c0, c1, c2, -⟩, hok⟩ := h.at_ hk
    have kk : ∀ wx, Below w.heap.size w wx → ∀ p : Addr, p.block = a.block → wx.cell? p = w.cell? p := fun wx hx p hp => hx.cell (by omega)
    exact ⟨a, o, e, ⟨hok.cw, hok.nw⟩, fun wx hx => ⟨(kk wx hx _ (by simp [addr_block])).trans c1, (kk wx hx _ (by simp [addr_block])).trans c2⟩⟩
  unfold maxLen at hn
  clear h S hi hj hR hl
  go_enter Try.func55, Try.ntmps55
  go_wp2
  go_loopw [7] (fun iv wr => ∃ k : Nat, k ≤ n ∧ iv = .int .i64 (k : Int) ∧ Hid (Below w.heap.size w wr)) (fun iv _ => n - (intOf iv).toNat)
  case atStart => exact ⟨0, by omega, rfl, Lib.hid (Below.refl _ _)⟩
  case round =>
    obtain ⟨k, hk, rfl, HB⟩ := hrel
    by_cases hlt : k < n
    · obtain ⟨a, o, rfl, ⟨hcw, hnw⟩, hX⟩ := Hact.out k hlt
      have hk0 : (0 : Int) ≤ (k : Int) := by omega
      have hk1 : (k : Int) < (n : Int) := by omega
      obtain ⟨oc, ho⟩ : ∃ oc, o.c = oc := ⟨_, rfl⟩
      obtain ⟨on, ho2⟩ : ∃ on, o.n = on := ⟨_, rfl⟩
      rw [ho] at hcw hX
      rw [ho2] at hnw hX
      obtain ⟨c1, c2⟩ := hX wr HB.out
      have HFq := Lib.hid (HR.out.fl oc)
      have HEq := Lib.hid (HR.out.E oc)
      have HL1 := Lib.hid (fun wx (hb : Below w.heap.size w wx) => HLk.out wx hb oc on hcw hnw)
      have HL2 := Lib.hid (fun wx (hb : Below w.heap.size w wx) => HRk.out wx hb oc on)
      have HF1 := Lib.hid (fun wx (hb : Below w.heap.size w wx) => HFl.out wx hb oc hcw)
      have HF2 := Lib.hid (fun wx (hb : Below w.heap.size w wx) => HRf.out wx hb oc)
      have HK1 := Lib.hid (fun wx (hb : Below w.heap.size w wx) => HKn.out wx hb oc hcw)
      have HK2 := Lib.hid (fun wx (hb : Below w.heap.size w wx) => HRn.out wx hb oc)
      rw [HEq.out] at HK2
      rw [HFq.out] at HF2
      rw [look_rel HR.out oc on] at HL2
      have HP := Lib.hid (HG.out.get oc)
      have h4 := HP.out.len
      obtain ⟨E, hE⟩ : ∃ E, (getT oc T).E = E := ⟨_, rfl⟩
      obtain ⟨fl, hfl⟩ : ∃ fl, (getT oc T).fl = fl := ⟨_, rfl⟩
      rw [hE] at HK1 HK2 h4
      rw [hfl] at HF1 HF2
      obtain ⟨m, hm⟩ : ∃ m, E.length = m := ⟨_, rfl⟩
      rw [hm] at HK1 HK2 h4
      have Hm := Lib.hid hm
      obtain ⟨R5, hR5⟩ : ∃ R5, lookT oc on T = R5 := ⟨_, rfl⟩
      rw [hR5] at HL1 HL2
      clear hE hfl hm hR5 HFq HEq HP hX ho ho2 hcw hnw
      obtain ⟨⟨code, there, rc, id⟩, z⟩ := R5
      go_wp2
      go_quiet (fail)
      have HB4 := Lib.hid (below_drF HB.out nq)
      clear c1 c2 HB
      generalize wr.drewN nq = w4 at *
      go_wp2_with fail
      refine (HL1.out _ HB4.out).mono ?_
      rintro e w5 ⟨⟨v5, rfl, ⟨A5, c5, rfl, o5⟩, b5⟩, -⟩
      have H5 := Lib.hid (And.intro (HB4.out.trans (b5.mono HB4.out.size)) (OwnVals.has o5).2)
      have hrc : rc.length ≤ maxLen := by obtain ⟨_, _, e, h1, h2, -⟩ := own_sliceN o5; exact Nat.le_trans h1 h2
      clear o5 b5
      obtain ⟨w6a, hw6a⟩ : ∃ wx, w5.alloc (.cells #[.int .i64 0, .bool false, .slice none 0 0, .slice none 0 0, .int .i64 0] 82) = wx := ⟨_, rfl⟩
      have xw6a : Box w6a w5.heap.size 82 #[.int .i64 0, .bool false, .slice none 0 0, .slice none 0 0, .int .i64 0] := hw6a ▸ Box.made _ _ _
      have uw6a : Below w5.heap.size w5 w6a := hw6a ▸ below_box _
      obtain ⟨w6, hw6⟩ : ∃ wx, (((((w6a.setCell ⟨w5.heap.size, 0, none⟩ (.int .i64 code)).setCell ⟨w5.heap.size, 1, none⟩ (.bool there)).setCell ⟨w5.heap.size, 2, none⟩ (.slice A5 rc.length c5)).setCell ⟨w5.heap.size, 3, none⟩ (.slice none 0 0)).setCell ⟨w5.heap.size, 4, none⟩ (.int .i64 id)) = wx := ⟨_, rfl⟩
      obtain ⟨xw6, gw6, sw6⟩ := store5 xw6a hw6
      have uw6 : Below w5.heap.size w5 w6 := uw6a.grown gw6 uw6a.size (fun g hg => by injection hg with hg; omega)
      have d0 : w6a.cell? ⟨w5.heap.size, 0, none⟩ = some (.int .i64 0) := xw6a.cell 0
      have d1 : w6a.cell? ⟨w5.heap.size, 1, none⟩ = some (.bool false) := xw6a.cell 1
      have d2 : w6a.cell? ⟨w5.heap.size, 2, none⟩ = some (.slice none 0 0) := xw6a.cell 2
      have d3 : w6a.cell? ⟨w5.heap.size, 3, none⟩ = some (.slice none 0 0) := xw6a.cell 3
      have d4 : w6a.cell? ⟨w5.heap.size, 4, none⟩ = some (.int .i64 0) := xw6a.cell 4
      have f0 : w6a.frozen? ⟨w5.heap.size, 0, none⟩ = false := xw6a.frozen 0
      have f1 : w6a.frozen? ⟨w5.heap.size, 1, none⟩ = false := xw6a.frozen 1
      have f2 : w6a.frozen? ⟨w5.heap.size, 2, none⟩ = false := xw6a.frozen 2
      have f3 : w6a.frozen? ⟨w5.heap.size, 3, none⟩ = false := xw6a.frozen 3
      have f4 : w6a.frozen? ⟨w5.heap.size, 4, none⟩ = false := xw6a.frozen 4
      have H6 := Lib.hid (And.intro (H5.out.1.trans (uw6.mono H5.out.1.size)) (And.intro xw6 ((H5.out.2).belowOf uw6 (Nat.le_refl _))))
      have HS5 : Hid (w5.heap.size ≤ w6.heap.size) := Lib.hid uw6.size
      clear xw6a uw6a xw6 gw6 sw6 uw6
      go_wp2_with fail
      refine (HL2.out _ H6.out.1).mono ?_
      rintro e w7 ⟨A7, d7, X7, y7, rfl, o7, b7⟩
      have H7 := Lib.hid (And.intro (H6.out.1.trans (b7.mono H6.out.1.size)) (And.intro (H6.out.2.1.below b7 H6.out.2.1.lt) (And.intro (H6.out.2.2.belowOf b7 HS5.out) o7)))
      have HS7 : Hid (w6.heap.size ≤ w7.heap.size) := Lib.hid b7.size
      clear o7 b7
      obtain ⟨w8a, hw8a⟩ : ∃ wx, w7.alloc (.cells #[.int .i64 0, .bool false, .slice none 0 0, .slice none 0 0, .int .i64 0] 82) = wx := ⟨_, rfl⟩
      have xw8a : Box w8a w7.heap.size 82 #[.int .i64 0, .bool false, .slice none 0 0, .slice none 0 0, .int .i64 0] := hw8a ▸ Box.made _ _ _
      have uw8a : Below w7.heap.size w7 w8a := hw8a ▸ below_box _
      obtain ⟨w8, hw8⟩ : ∃ wx, (((((w8a.setCell ⟨w7.heap.size, 0, none⟩ (.int .i64 code)).setCell ⟨w7.heap.size, 1, none⟩ (.bool there)).setCell ⟨w7.heap.size, 2, none⟩ (.slice A7 rc.length d7)).setCell ⟨w7.heap.size, 3, none⟩ (.slice X7 0 y7)).setCell ⟨w7.heap.size, 4, none⟩ (.int .i64 id)) = wx := ⟨_, rfl⟩
      obtain ⟨xw8, gw8, sw8⟩ := store5 xw8a hw8
      have uw8 : Below w7.heap.size w7 w8 := uw8a.grown gw8 uw8a.size (fun g hg => by injection hg with hg; omega)
      have p0 : w8a.cell? ⟨w7.heap.size, 0, none⟩ = some (.int .i64 0) := xw8a.cell 0
      have p1 : w8a.cell? ⟨w7.heap.size, 1, none⟩ = some (.bool false) := xw8a.cell 1
      have p2 : w8a.cell? ⟨w7.heap.size, 2, none⟩ = some (.slice none 0 0) := xw8a.cell 2
      have p3 : w8a.cell? ⟨w7.heap.size, 3, none⟩ = some (.slice none 0 0) := xw8a.cell 3
      have p4 : w8a.cell? ⟨w7.heap.size, 4, none⟩ = some (.int .i64 0) := xw8a.cell 4
      have q0 : w8a.frozen? ⟨w7.heap.size, 0, none⟩ = false := xw8a.frozen 0
      have q1 : w8a.frozen? ⟨w7.heap.size, 1, none⟩ = false := xw8a.frozen 1
      have q2 : w8a.frozen? ⟨w7.heap.size, 2, none⟩ = false := xw8a.frozen 2
      have q3 : w8a.frozen? ⟨w7.heap.size, 3, none⟩ = false := xw8a.frozen 3
      have q4 : w8a.frozen? ⟨w7.heap.size, 4, none⟩ = false := xw8a.frozen 4
      have H8 := Lib.hid (And.intro (H7.out.1.trans (uw8.mono H7.out.1.size)) (And.intro (H7.out.2.1.below uw8 H7.out.2.1.lt) (And.intro xw8 (And.intro (H7.out.2.2.1.belowOf uw8 (Nat.le_trans HS5.out HS7.out)) (H7.out.2.2.2.belowOf uw8 HS7.out)))))
      have HS8 : Hid (w7.heap.size ≤ w8.heap.size) := Lib.hid uw8.size
      have HSR := Lib.hid (sameReply17_any ⟨code, there, rc, id⟩ ⟨code, there, rc, id⟩ A5 A7 none X7 rc.length rc.length c5 d7 0 y7 _ _ w8 H8.out.2.2.2.1 H8.out.2.2.2.2 (Nat.le_trans HS5.out (Nat.le_trans HS7.out HS8.out)) (Nat.le_trans HS7.out HS8.out) hrc hrc)
      rw [decide_eq_true rfl] at HSR
      have y0 : w8.cell? ⟨w5.heap.size, 0, none⟩ = some (.int .i64 code) := H8.out.2.1.cell 0
      have y1 : w8.cell? ⟨w5.heap.size, 1, none⟩ = some (.bool there) := H8.out.2.1.cell 1
      have y2 : w8.cell? ⟨w5.heap.size, 2, none⟩ = some (.slice A5 rc.length c5) := H8.out.2.1.cell 2
      have y3 : w8.cell? ⟨w5.heap.size, 3, none⟩ = some (.slice none 0 0) := H8.out.2.1.cell 3
      have y4 : w8.cell? ⟨w5.heap.size, 4, none⟩ = some (.int .i64 id) := H8.out.2.1.cell 4
      have t0 : w8.cell? ⟨w7.heap.size, 0, none⟩ = some (.int .i64 code) := xw8.cell 0
      have t1 : w8.cell? ⟨w7.heap.size, 1, none⟩ = some (.bool there) := xw8.cell 1
      have t2 : w8.cell? ⟨w7.heap.size, 2, none⟩ = some (.slice A7 rc.length d7) := xw8.cell 2
      have t3 : w8.cell? ⟨w7.heap.size, 3, none⟩ = some (.slice X7 0 y7) := xw8.cell 3
      have t4 : w8.cell? ⟨w7.heap.size, 4, none⟩ = some (.int .i64 id) := xw8.cell 4
      clear xw8a uw8a xw8 gw8 sw8 uw8
      go_wp2_with fail
      refine HSR.out.mono ?_
      rintro e w9 ⟨rfl, b9⟩
      have H9 := Lib.hid (H8.out.1.trans (b9.mono H8.out.1.size))
      clear b9
      go_wp2_with fail
      refine (HF1.out _ H9.out).mono ?_
      rintro e w9 ⟨rfl, hq⟩
      subst hq
      go_wp2_with fail
      refine (HF2.out _ H9.out).mono ?_
      rintro e w9 ⟨rfl, hq⟩
      subst hq
      go_wp2_with fail
      refine (HK1.out _ H9.out).mono ?_
      rintro e w10 ⟨v10, rfl, o10, b10, -⟩
      obtain ⟨A10, c10, rfl, -, -, hh10⟩ := own_sliceN o10
      have H10 := Lib.hid (And.intro (H9.out.trans (b10.mono H9.out.size)) hh10)
      clear o10 b10 hh10
      go_wp2_with fail
      refine (HK2.out _ H10.out.1).mono ?_
      rintro e w11 ⟨v11, rfl, o11, b11⟩
      obtain ⟨A11, c11, rfl, -, -, hh11⟩ := own_sliceN o11
      have H11 := Lib.hid (And.intro (H10.out.1.trans (b11.mono H10.out.1.size)) (And.intro (H10.out.2.belowOf b11 (Nat.le_refl _)) hh11))
      have hs11 : w10.heap.size ≤ w11.heap.size := b11.size
      clear o11 b11 hh11
      have HSI := Lib.hid (sameInts_any A10 A11 m m c10 c11 _ _ (numsG E) (numsG E) w11 (by have h9 := H11.out.2.1; rw [Nat.mul_one] at h9; exact h9) (by have h9 := H11.out.2.2; rw [Nat.mul_one] at h9; exact h9) (by unfold numsG; rw [List.length_map]; exact Hm.out) (by unfold numsG; rw [List.length_map]; exact Hm.out) (by simp only [maxLen]; omega) (by simp only [maxLen]; omega))
      rw [decide_eq_true rfl] at HSI
      go_wp2_with fail
      refine HSI.out.mono ?_
      rintro e w12 ⟨rfl, b12⟩
      have HE := Lib.hid (H11.out.1.trans (b12.mono H11.out.1.size))
      clear b12
      go_wp2
      go_roundw
      case rel => exact ⟨k + 1, by omega, by go_num, HE⟩
      case measure => simp [intOf]; omega
    · go_wp2
      go_ret
      exact ⟨rfl, HS.out _ HB.out, HB.out⟩
end Go.Proofs.Ytdfhnjocpfjagaa

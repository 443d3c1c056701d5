/- engine's put, in one of four cases. Condition: the engine is in memory; the change is short. -/
import Derived.Test.YteioopcacpihpaaMEngH
namespace Go.Proofs.Yteioopcacpihpaa
open Go.RowKit
open Go.Lib (strCells compareBytes)

set_option maxRecDepth 100000 in
set_option maxHeartbeats 12800000 in
theorem put_ft {w : World} {e H : Nat} {lim pairs : Int} {tv rv : Value} {T : List Chg} {rs : Crs} (h : EngAt w e lim pairs tv rv T rs) (hp : EngP H lim pairs T (crLists rs)) (hH : H ≤ 8000) (c : Chg) (hc : c.k.size ≤ 4000 ∧ c.v.size ≤ 4000) (hn : (newC c.k (T :: crLists rs)).g = false) (hg : c.g = true) :
    Calls Try.prog 54 #[.pointer (some ⟨e, 0, none⟩), cagg c] w (PutPost2 e H lim tv rv T rs c w) := by
  have hnum := hp.num
  have hplen := len_mergeS (T :: crLists rs)
  have hptot := hp.total
  have hlive := live_len (mergeL (T :: crLists rs))
  have hpb : 0 ≤ pairs ∧ pairs ≤ 9000 := by unfold absL at hnum; omega
  have hlim1 := hp.lim1
  obtain ⟨M, hM⟩ : ∃ M, absL (T :: crLists rs) = M := ⟨_, rfl⟩
  have HM := Lib.hid hM
  have hold := newC_live hp.runs c.k
  rw [hM] at hold
  have HP := Lib.hid hp
  have hbox : Below w.heap.size w (w.alloc (.cells #[.string c.k, .string c.v, .bool c.g] 38)) := below_box _
  have HS1 : Hid (PutS w e w.heap.size lim pairs tv rv T rs c (w.alloc (.cells #[.string c.k, .string c.v, .bool c.g] 38))) := Lib.hid ⟨Box.made _ _ _, h.below hbox, Frm.of hbox, by omega, Nat.le_refl _⟩
  have Hnew := Lib.hid (newest_any HS1.out.eng hp (by omega) c.k)
  have hne : w.heap.size ≠ e := by have := h.box.lt; omega
  obtain ⟨At, ct, htv, htc, htm, -⟩ := h.tab.slice
  have Hgo := Lib.hid (fun p (hpp : p = pairsN pairs (look c.kb M).isSome (!c.g)) => put_pure hp hM hc hpp)
  have Hown := Lib.hid (fun wx => own_any c wx (by omega) (by omega))
  have hTl := hp.len (r := T) (by simp)
  have HpM := Lib.hid (fun i f (hpi : PlaceIs T c.kb i f) => putC_at hpi)
  have HPC : Hid (c.kb = c.k.data.toList) := Lib.hid rfl
  have HrT := Lib.hid (hp.runs T (by simp))
  have Hcs := Lib.hid hc
  have hfld : ∀ (a b : ByteArray) (g : Bool) (wx : World), (Instr.field 38 (.agg #[.string a, .string b, .bool g]) 2).run Try.prog wx = .ok (.bool g) wx := fun a b g wx => by kernel_rfl
  obtain ⟨⟨nk, nv, ng⟩, hnc⟩ : ∃ x, newC c.k (T :: crLists rs) = x := ⟨_, rfl⟩
  rw [hnc] at Hnew hold hn
  obtain ⟨nT, hnT⟩ : ∃ n, T.length = n := ⟨_, rfl⟩
  have HnT := Lib.hid hnT
  rw [hnT] at htv htc hTl
  obtain ⟨ck, cv, cg⟩ := c
  unfold cagg at Hnew Hown ⊢
  simp only at Hnew hold Hown HPC
  have Hold := Lib.hid hold
  subst htv
  unfold maxLen at htm
  simp only at hn hg
  subst hn
  subst hg
  clear h hp hM hnum hplen hptot hlive hbox hnc hnT hold hc
  go_enter Try.func54, Try.ntmps54
  go_wp2_with fail
  refine Hnew.out.mono ?_
  rintro e' w2 ⟨rfl, hb2⟩
  have HS2 := Lib.hid (HS1.out.below hb2)
  obtain ⟨⟨⟨e0, e1, e2, e3⟩, f1, f2, f3⟩, b0, b1, b2⟩ := HS2.out.cells
  simp only at b0 b1 b2
  have HS := Lib.hid (HS2.out.set1 hne (pairs - 1))
  obtain ⟨⟨⟨g0, g1, g2, g3⟩, k1, k2, k3⟩, d0, d1, d2⟩ := HS.out.cells
  obtain ⟨W, hW⟩ : ∃ W1, w2.setCell ⟨e, 1, none⟩ (.int .i64 (pairs - 1)) = W1 := ⟨_, rfl⟩
  rw [hW] at HS g0 g1 g2 g3 k1 k2 k3 d0 d1 d2
  simp only at d0 d1 d2
  clear hb2
  go_wp2
  clear e0 e1 e2 e3 f1 f2 f3 b0 b1 b2 g0 g1 g2 g3 k1 k2 k3 d0 d1 d2 hW HS2
  have hTd : tidy ⟨ck, cv, true⟩ = ⟨ck, ⟨#[]⟩, true⟩ := rfl
  rw [hTd] at Hown
  have hpp : (pairs - 1) = pairsN pairs (look (Chg.kb ⟨ck, cv, true⟩) M).isSome (!true) := by rw [show (look (Chg.kb ⟨ck, cv, true⟩) M).isSome = (!false) from Hold.out]; simp [pairsN, one]
  have Hpp := Lib.hid hpp
  have Hpl : Hid (∀ wx, Below W.heap.size W wx → Calls Try.prog 70 #[.slice At nT ct, .string ck] wx (PlacePost T ck.data.toList wx)) := Lib.hid fun wx hx => by
    obtain ⟨A', c', e', -, -, hh⟩ := (HS.out.eng.below hx).tab.slice
    rw [HnT.out] at e' hh
    injection e' with e1 _ e2
    subst e1
    subst e2
    exact place_any At nT ct _ T ck wx hh (Nat.le_refl _) (by omega) HrT.out
  clear hpp hTd
  go_region_held3 (fun wx => (wx.cell? ⟨e, 2, none⟩ = some (.slice At nT ct) ∧ wx.cell? ⟨w.heap.size, 0, none⟩ = some (.string ck)) ∧ PutS w e w.heap.size lim (pairs - 1) (.slice At nT ct) rv T rs ⟨ck, cv, true⟩ wx)
    (first | exact PutS.s5 (HS.out.below (Below.refl _ _).drew) | exact PutS.s5 (PutS.below (And.right (by assumption)) hb5))
    (first | (go_at_call 70; refine (Hpl.out _ (Below.refl _ _).drew).mono ?_; rintro e' w5 ⟨i, f, rfl, hb5, hpi⟩))
  all_goals
    have hS5 := (‹_ ∧ PutS w e w.heap.size lim (pairs - 1) (.slice At nT ct) rv T rs ⟨ck, cv, true⟩ w5›).2
    have HS5 := Lib.hid hS5
    have Hpi := Lib.hid (HpM.out i f (by rw [HPC.out]; exact hpi))
    have hinT := hpi.1
    rw [HnT.out] at hinT
    clear hb5 hpi hS5
    clear ‹_ ∧ PutS w e w.heap.size lim (pairs - 1) (.slice At nT ct) rv T rs ⟨ck, cv, true⟩ w5›
    obtain ⟨⟨⟨e0, e1, e2, e3⟩, f1, f2, f3⟩, b0, b1, b2⟩ := HS5.out.cells
    simp only at b0 b1 b2
    cases f with
    | true =>
      obtain ⟨hiT, hset⟩ := Hpi.out.1 rfl
      rw [HnT.out] at hiT
      obtain ⟨tg, tc, htv, -⟩ := tab_mem HS5.out.eng (i := i) (by rw [HnT.out]; exact hiT) ⟨ck, ⟨#[]⟩, true⟩
      injection htv with htv _ _
      subst htv
      have Hput := Lib.hid (Hgo.out _ Hpp.out)
      rw [hset] at Hput
      have Hset := Lib.hid hset
      have hi0 : (0 : Int) ≤ (i : Int) := by omega
      have hi1 : (i : Int) < (nT : Int) := by omega
      have HiT : Hid (i < T.length) := Lib.hid (by rw [HnT.out]; exact hiT)
      clear hset
      go_wp2
      go_region_with (go_at_call 80; refine (Hown.out _).mono ?_; rintro e' w6 ⟨rfl, hb6⟩; have hS6 := HS5.out.below ((Below.refl _ _).drew.trans hb6); obtain ⟨⟨⟨e0, e1, e2, e3⟩, f1, f2, f3⟩, b0, b1, b2⟩ := hS6.cells; simp only at b0 b1 b2; obtain ⟨⟨⟨u0, x0⟩, ⟨u1, x1⟩, ⟨u2, x2⟩⟩, ⟨y0, y1, y2⟩, hEF⟩ := tab_mem2 hS6.eng HiT.out ⟨ck, ⟨#[]⟩, true⟩; simp only at x0 x1 x2 y0 y1 y2)
      all_goals
        have HE := Lib.hid (And.intro hEF hS6.frm)
        clear hEF hS6 hb6
        go_wp2
        refine bodyPost_ret (results_none rfl _ _ _) rfl ?_
        refine ⟨rfl, _, _, _, _, _, HE.out.1.1, Hput.out.1, Hput.out.2.trans (by rw [HM.out]), (HE.out.2.mono fun j hj => .inl hj).trans HE.out.1.2 fun j hj => .inl (hj.imp id fun h5 => congrArg some h5), .inl rfl, fun _ => ⟨rfl, rfl, Hset.out.symm⟩, NewB.same _ _ _⟩
    | false =>
      have Hput := Lib.hid (Hpi.out.2 rfl)
      by_cases hsp : lim ≤ (nT : Int)
      · have Hspl := Lib.hid (fun wx (hx : Below w5.heap.size w5 wx) => spill_any (HS5.out.eng.below hx) HP.out (by omega))
        go_wp2
        go_quiet (fail)
        go_wp2_with fail
        refine (Hspl.out _ (below_dr (Below.refl _ _) _)).mono ?_
        rintro e' w7 ⟨rfl, rv7, rs7, hE7, hP7, ha7, hF7, hN7⟩
        have HN7 : Hid (NewB w rv rv7 rs rs7) := Lib.hid (hN7.mono HS5.out.frm.size)
        have hcb7 : Box w7 w.heap.size 38 #[.string ck, .string cv, .bool true] := (HS5.out.cbox.below (below_dr (Below.refl _ _) _) HS5.out.cbox.lt).frm hF7 hne
        have HS7 : Hid (PutS w e w.heap.size lim (pairs - 1) (.slice none 0 0) rv7 [] rs7 ⟨ck, cv, true⟩ w7) := Lib.hid ⟨hcb7, hE7, (HS5.out.frm.then (below_dr (Below.refl _ _) _)).trans hF7 fun j hj => .inl hj, by omega, Nat.le_refl _⟩
        have Hgo7 := Lib.hid (put_pure hP7 (ha7.trans HM.out) Hcs.out Hpp.out)
        have hTd : tidy ⟨ck, cv, true⟩ = ⟨ck, ⟨#[]⟩, true⟩ := rfl
        rw [hTd] at Hgo7
        have Hins : Hid (∀ wx, PutS w e w.heap.size lim (pairs - 1) (.slice none 0 0) rv7 [] rs7 ⟨ck, cv, true⟩ wx → Calls Try.prog 82 #[.slice none 0 0, .int .i64 0, .slice (some ⟨wx.heap.size, 0, none⟩) 1 1] (wx.alloc (.cells #[.string ck, .string ⟨#[]⟩, .bool true] 38)) (InsPost 0 (.slice none 0 0) [⟨ck, ⟨#[]⟩, true⟩] (wx.alloc (.cells #[.string ck, .string ⟨#[]⟩, .bool true] 38)))) := Lib.hid fun wx hx =>
          insert_any (.slice none 0 0) 0 wx.heap.size 0 0 [] ⟨ck, ⟨#[]⟩, true⟩ _ (OwnChs.nil _ _) rfl (Nat.le_refl _) (Nat.zero_le _) (by omega) (by intro h5; cases h5) (Box.made _ _ _)
        clear hE7 hP7 ha7 hF7 hN7 hcb7 e0 e1 e2 e3 f1 f2 f3 b0 b1 b2 Hspl Hput
        obtain ⟨⟨⟨e0, e1, e2, e3⟩, f1, f2, f3⟩, b0, b1, b2⟩ := HS7.out.cells
        simp only at b0 b1 b2
        go_wp2
        go_region_with (first | (go_at_call 80; refine (Hown.out _).mono ?_; rintro e' w8 ⟨rfl, hb8⟩; have hS8 := HS7.out.below ((Below.refl _ _).drew.trans hb8); have HS8 := Lib.hid hS8; obtain ⟨⟨⟨e0, e1, e2, e3⟩, f1, f2, f3⟩, b0, b1, b2⟩ := hS8.cells; simp only at b0 b1 b2; have e2a := fun o => (World.cell?_alloc_lt w8 o _ HS8.out.eng.box.lt).trans e2) | (go_at_call 82; refine (Hins.out _ HS8.out).mono ?_; rintro e' w9 ⟨v9, rfl, o9, g9, n9⟩; obtain ⟨A9, c9, rfl, -⟩ := o9.slice; have him := ins_mem (HS8.out.eng.below (below_box _)) o9 g9 n9; have bx9 := (HS8.out.eng.below (below_box (Obj.cells #[.string ck, .string ⟨#[]⟩, .bool true] 38))).box.frm (Frm.grown g9) (by intro h5; cases h5); have e9 := (eng_cells bx9).1.2.2.1; have f9 := (eng_cells bx9).2.2.1))
        all_goals
          have HE := Lib.hid (And.intro him (And.intro n9 HS8.out.frm))
          have hsz8 := HS8.out.frm.size
          clear him hb8 hS8 o9 g9 n9 bx9
          go_wp2
          go_end0
          refine ⟨rfl, _, _, _, _, _, HE.out.1.1, Hgo7.out.1, Hgo7.out.2.trans (by rw [HM.out]), ((HE.out.2.2.mono fun j hj => .inl hj).then (below_box _)).trans HE.out.1.2 fun j hj => .inl (.inl (hj.elim id fun h5 => by cases h5)), .inr fun g hg => ?_, fun h5 => by rw [HnT.out] at h5; omega, HN7.out⟩
          rcases HE.out.2.1 with h5 | ⟨q, hq, h5⟩
          · rw [h5] at hg; cases hg
          · rw [h5] at hg
            injection hg with hg
            subst hg
            exact Nat.le_trans hsz8 (Nat.le_trans (by simp) hq)
      · have Hput2 := Lib.hid (Hgo.out _ Hpp.out)
        have hTd : tidy ⟨ck, cv, true⟩ = ⟨ck, ⟨#[]⟩, true⟩ := rfl
        rw [Hput.out, hTd] at Hput2
        rw [hTd] at Hput
        have Hins : Hid (∀ wx, PutS w e w.heap.size lim (pairs - 1) (.slice At nT ct) rv T rs ⟨ck, cv, true⟩ wx → Calls Try.prog 82 #[.slice At nT ct, .int .i64 (i : Int), .slice (some ⟨wx.heap.size, 0, none⟩) 1 1] (wx.alloc (.cells #[.string ck, .string ⟨#[]⟩, .bool true] 38)) (InsPost 0 (.slice At nT ct) (T.take i ++ ([⟨ck, ⟨#[]⟩, true⟩] ++ T.drop i)) (wx.alloc (.cells #[.string ck, .string ⟨#[]⟩, .bool true] 38)))) := Lib.hid fun wx hx =>
          insert_any (.slice At nT ct) 0 wx.heap.size nT i T ⟨ck, ⟨#[]⟩, true⟩ _ (hx.eng.tab.below (below_box _)) HnT.out hinT (Nat.zero_le _) (by omega) (fun h5 => by have := (hx.eng.tab.lt _ h5).2; omega) (Box.made _ _ _)
        obtain ⟨L, hL⟩ : ∃ L, T.take i ++ ([⟨ck, ⟨#[]⟩, true⟩] ++ T.drop i) = L := ⟨_, rfl⟩
        rw [hL] at Hput Hput2 Hins
        clear hL
        go_wp2
        go_quiet (fail)
        go_wp2
        go_region_with (first | (go_at_call 80; refine (Hown.out _).mono ?_; rintro e' w8 ⟨rfl, hb8⟩; have hS8 := HS5.out.below ((below_dr (Below.refl _ _) _).drew.trans hb8); have HS8 := Lib.hid hS8; obtain ⟨⟨⟨e0, e1, e2, e3⟩, f1, f2, f3⟩, b0, b1, b2⟩ := hS8.cells; simp only at b0 b1 b2; have e2a := fun o => (World.cell?_alloc_lt w8 o _ HS8.out.eng.box.lt).trans e2) | (go_at_call 82; refine (Hins.out _ HS8.out).mono ?_; rintro e' w9 ⟨v9, rfl, o9, g9, n9⟩; obtain ⟨A9, c9, rfl, -⟩ := o9.slice; have him := ins_mem (HS8.out.eng.below (below_box _)) o9 g9 n9; have bx9 := (HS8.out.eng.below (below_box (Obj.cells #[.string ck, .string ⟨#[]⟩, .bool true] 38))).box.frm (Frm.grown g9) HS8.out.eng.apart; have e9 := (eng_cells bx9).1.2.2.1; have f9 := (eng_cells bx9).2.2.1))
        all_goals
          have HE := Lib.hid (And.intro him (And.intro n9 HS8.out.frm))
          have hsz8 := HS8.out.frm.size
          clear him hb8 hS8 o9 g9 n9 bx9
          go_wp2
          go_end0
          refine ⟨rfl, _, _, _, _, _, HE.out.1.1, Hput2.out.1, Hput2.out.2.trans (by rw [HM.out]), ((HE.out.2.2.mono fun j hj => .inl hj).then (below_box _)).trans HE.out.1.2 fun j hj => .inl hj, HE.out.2.1.imp id fun ⟨q, hq, h5⟩ g hg => ?_, fun _ => ⟨rfl, rfl, Hput.out.symm⟩, NewB.same _ _ _⟩
          rw [h5] at hg
          injection hg with hg
          subst hg
          exact Nat.le_trans hsz8 (Nat.le_trans (by simp) hq)
end Go.Proofs.Yteioopcacpihpaa

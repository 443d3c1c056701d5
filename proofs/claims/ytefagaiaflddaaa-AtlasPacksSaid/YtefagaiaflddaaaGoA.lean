/- What becomes of a map by a plan: goOn with each plan, and Split, Merge, Move. Condition: the map is in memory. -/
import Derived.Test.YtefagaiaflddaaaHowC
import Derived.Test.YtefagaiaflddaaaClone
namespace Go.Proofs.Ytefagaiaflddaaa
open Go.RowKit
open Go.Lib (strCells compareBytes)

/-- the call's own copy of a map, and the cell of its result -/
theorem go_boxes {w wx : World} {ep : Int} {A : Option Addr} {n c : Nat} (h : Below ((w.alloc (.cells #[.int .i64 ep, .slice A n c] 24)).alloc (.cells #[.int .i64 0, .slice none 0 0] 24)).heap.size ((w.alloc (.cells #[.int .i64 ep, .slice A n c] 24)).alloc (.cells #[.int .i64 0, .slice none 0 0] 24)) wx) :
    Box wx w.heap.size 24 #[.int .i64 ep, .slice A n c] ∧ Box wx (w.heap.size + 1) 24 #[.int .i64 0, .slice none 0 0] ∧ Below w.heap.size w wx ∧ w.heap.size + 2 ≤ wx.heap.size := by
  have h1 : Box ((w.alloc (.cells #[.int .i64 ep, .slice A n c] 24)).alloc (.cells #[.int .i64 0, .slice none 0 0] 24)) w.heap.size 24 #[.int .i64 ep, .slice A n c] := (Box.made w _ _).alloc _
  have h2 : Box ((w.alloc (.cells #[.int .i64 ep, .slice A n c] 24)).alloc (.cells #[.int .i64 0, .slice none 0 0] 24)) (w.heap.size + 1) 24 #[.int .i64 0, .slice none 0 0] := by
    have := Box.made (w.alloc (.cells #[.int .i64 ep, .slice A n c] 24)) 24 #[.int .i64 0, .slice none 0 0]
    rwa [World.size_alloc] at this
  have hs := h.size
  simp only [World.size_alloc] at hs
  exact ⟨h1.below h (by simp; omega), h2.below h (by simp), ((below_box _).alloc (by simp) _).trans (h.mono (by simp; omega)), by omega⟩
/-- the result is stored -/
theorem go_res {w wx : World} {x y : Value} (x' y' : Value) (h : Box wx (w.heap.size + 1) 24 #[x, y]) (hb : Below w.heap.size w wx) :
    ((wx.setCell ⟨w.heap.size + 1, 0, none⟩ x').setCell ⟨w.heap.size + 1, 1, none⟩ y').cell? ⟨w.heap.size + 1, 0, none⟩ = some x' ∧ ((wx.setCell ⟨w.heap.size + 1, 0, none⟩ x').setCell ⟨w.heap.size + 1, 1, none⟩ y').cell? ⟨w.heap.size + 1, 1, none⟩ = some y' ∧
      Below w.heap.size w ((wx.setCell ⟨w.heap.size + 1, 0, none⟩ x').setCell ⟨w.heap.size + 1, 1, none⟩ y') := by
  have h1 := set2q x' y' h
  exact ⟨h1.cell 0, h1.cell 1, (hb.setCell (Nat.le_succ _) _).setCell (Nat.le_succ _) _⟩
set_option maxRecDepth 100000 in
set_option maxHeartbeats 6400000 in
theorem goSplit_any (ep : Int) (A : Option Addr) (n c C bx : Nat) (l : List Pt) (s : ByteArray) (w : World) (h : HasPts w C A n l) (hC : C ≤ w.heap.size) (hn : n ≤ maxLen) (hs : ∀ p ∈ l, p.lo.size ≤ maxLen) (hbx : Box w bx 9 #[.string s]) (hsz : s.size ≤ maxLen) :
    Calls Try.prog 36 #[.agg #[.int .i64 ep, .slice A n c], .func (.func 37) #[] #[.pointer (some ⟨bx, 0, none⟩)]] w (MapPost (goT ep l (splitP l s)) w) := by
  have Hc := Lib.hid (check_any ep A n c C l ((w.alloc (.cells #[.int .i64 ep, .slice A n c] 24)).alloc (.cells #[.int .i64 0, .slice none 0 0] 24)) ((h.alloc hC _).alloc (by simp; omega) _) (by simp; omega) hn hs)
  have HM := Lib.hid (fun wx (hx : Below ((w.alloc (.cells #[.int .i64 ep, .slice A n c] 24)).alloc (.cells #[.int .i64 0, .slice none 0 0] 24)).heap.size ((w.alloc (.cells #[.int .i64 ep, .slice A n c] 24)).alloc (.cells #[.int .i64 0, .slice none 0 0] 24)) wx) => go_boxes hx)
  have HA : Hid (∀ wx, Below ((w.alloc (.cells #[.int .i64 ep, .slice A n c] 24)).alloc (.cells #[.int .i64 0, .slice none 0 0] 24)).heap.size ((w.alloc (.cells #[.int .i64 ep, .slice A n c] 24)).alloc (.cells #[.int .i64 0, .slice none 0 0] 24)) wx → HasPts wx C A n l) := Lib.hid fun wx hx => h.belowOf (go_boxes hx).2.2.1 hC
  have HB : Hid (∀ wx, Below w.heap.size w wx → Box wx bx 9 #[.string s]) := Lib.hid fun wx hx => hbx.below hx hbx.lt
  have Hl := Lib.hid h.1
  have Hsz := Lib.hid hsz
  obtain ⟨z, hz⟩ : ∃ z, checkT ep l = z := ⟨_, rfl⟩
  have Hz := Lib.hid hz
  obtain ⟨r, hr⟩ : ∃ r, splitP l s = r := ⟨_, rfl⟩
  have Hr := Lib.hid hr
  obtain ⟨m, hm⟩ : ∃ m, goT ep l r = m := ⟨_, rfl⟩
  have Hm := Lib.hid hm
  rw [hr, hm]
  unfold CheckPost at Hc
  rw [hz] at Hc
  clear h hs hbx hz hr hm hsz
  go_enter Try.func36, Try.ntmps36
  go_wp2_with fail
  refine Hc.out.mono ?_
  rintro e w1 ⟨rfl, hb1⟩
  have Hb1 := Lib.hid hb1
  obtain ⟨hx1, hx2, hbw, hsz1⟩ := HM.out w1 hb1
  have HW1 := Lib.hid hbw
  have HX2 := Lib.hid hx2
  have q0 : w1.cell? ⟨w.heap.size, 0, none⟩ = some (.int .i64 ep) := hx1.cell 0
  have q1 : w1.cell? ⟨w.heap.size, 1, none⟩ = some (.slice A n c) := hx1.cell 1
  have r0 : w1.cell? ⟨w.heap.size + 1, 0, none⟩ = some (.int .i64 0) := hx2.cell 0
  have r1 : w1.cell? ⟨w.heap.size + 1, 1, none⟩ = some (.slice none 0 0) := hx2.cell 1
  have f0 : w1.frozen? ⟨w.heap.size + 1, 0, none⟩ = false := hx2.frozen 0
  have f1 : w1.frozen? ⟨w.heap.size + 1, 1, none⟩ = false := hx2.frozen 1
  clear hx1 hx2 hbw
  by_cases h0 : z = 0
  · subst h0
    have HR : Hid (1 ≤ ep ∧ ep ≤ 1099511627776 ∧ RightP l) := Lib.hid (check_zero.1 Hz.out)
    have Hcl := Lib.hid (cloneP_any A n c C l w1 (HA.out w1 hb1) (by have := HR.out.2.2.most; have := Hl.out; omega) (by omega))
    clear hb1 Hc
    go_wp2_with fail
    refine Hcl.out.mono ?_
    rintro e w2 ⟨v2, rfl, o2, hb2⟩
    have Hb2 := Lib.hid hb2
    have hs2 : w1.heap.size ≤ w2.heap.size := hb2.size
    have HW2 : Hid (Below w.heap.size w w2) := Lib.hid (HW1.out.trans (hb2.mono (by omega)))
    have Hh := Lib.hid (howSplit_any w1.heap.size bx v2 l s  w2 o2 hs2 HR.out.2.2 (HB.out w2 HW2.out) Hsz.out)
    rw [Hr.out] at Hh
    clear o2 hb2 Hcl
    go_wp2_with fail
    refine Hh.out.mono ?_
    rintro e w3 ⟨hb3, hcs⟩
    clear Hh
    have Hb13 : Hid (Below w1.heap.size w1 w3) := Lib.hid (Hb2.out.trans hb3)
    have hs3 : w1.heap.size ≤ w3.heap.size := Hb13.out.size
    obtain ⟨hx1, hx2, hbw, -⟩ := HM.out w3 (Hb1.out.trans (Hb13.out.mono Hb1.out.size))
    have HW3 := Lib.hid hbw
    have HX3 := Lib.hid hx2
    have q0 : w3.cell? ⟨w.heap.size, 0, none⟩ = some (.int .i64 ep) := hx1.cell 0
    have r0 : w3.cell? ⟨w.heap.size + 1, 0, none⟩ = some (.int .i64 0) := hx2.cell 0
    have r1 : w3.cell? ⟨w.heap.size + 1, 1, none⟩ = some (.slice none 0 0) := hx2.cell 1
    have f0 : w3.frozen? ⟨w.heap.size + 1, 0, none⟩ = false := hx2.frozen 0
    have f1 : w3.frozen? ⟨w.heap.size + 1, 1, none⟩ = false := hx2.frozen 1
    have HC0 : Hid (¬ checkT ep l ≠ 0) := Lib.hid fun h => h Hz.out
    clear hx1 hx2 hbw hb3
    rcases hcs with ⟨hrn, rfl⟩ | ⟨l', v', hrn, rfl, o4⟩
    · obtain rfl : m = (0, [], 14) := by rw [← Hm.out]; unfold goT; rw [if_neg HC0.out, hrn]
      obtain ⟨p0, p1, hbe⟩ := go_res (.int .i64 0) (.slice none 0 0) HX3.out HW3.out
      have HBE := Lib.hid hbe
      obtain ⟨W3, hW3⟩ : ∃ W3, ((w3.setCell ⟨w.heap.size + 1, 0, none⟩ (.int .i64 0)).setCell ⟨w.heap.size + 1, 1, none⟩ (.slice none 0 0)) = W3 := ⟨_, rfl⟩
      rw [hW3] at p0 p1 HBE
      clear hbe
      go_wp2
      refine bodyPost_ret (v := .tuple #[.agg #[.int .i64 0, .slice none 0 0], .int .i64 14]) ?_ rfl (MapPost.err 14 HBE.out)
      simp [results, Try.results36, go_sem, p0, p1]
    · by_cases he : ep = 1099511627776
      · have hd : (ep == 1099511627776) = true := by simpa using he
        obtain rfl : m = (0, [], 4) := by rw [← Hm.out]; unfold goT; rw [if_neg HC0.out, hrn]; exact if_pos he
        clear he o4
        obtain ⟨p0, p1, hbe⟩ := go_res (.int .i64 0) (.slice none 0 0) HX3.out HW3.out
        have HBE := Lib.hid hbe
        obtain ⟨W3, hW3⟩ : ∃ W3, ((w3.setCell ⟨w.heap.size + 1, 0, none⟩ (.int .i64 0)).setCell ⟨w.heap.size + 1, 1, none⟩ (.slice none 0 0)) = W3 := ⟨_, rfl⟩
        rw [hW3] at p0 p1 HBE
        clear hbe
        go_wp2
        refine bodyPost_ret (v := .tuple #[.agg #[.int .i64 0, .slice none 0 0], .int .i64 4]) ?_ rfl (MapPost.err 4 HBE.out)
        simp [results, Try.results36, go_sem, p0, p1]
      · have hd : (ep == 1099511627776) = false := by simpa using he
        obtain rfl : m = (ep + 1, l', 0) := by rw [← Hm.out]; unfold goT; rw [if_neg HC0.out, hrn]; exact if_neg he
        have HR' : Hid (RightP l') := Lib.hid (split_right HR.out.2.2 (Hr.out.trans hrn))
        have hwe : IntKind.i64.wrap (ep + 1) = ep + 1 := IntWalk.i64_in _ (by have := HR.out; omega)
        obtain ⟨A4, c4, rfl, -, -, -⟩ := o4.slice
        obtain ⟨N, hN⟩ : ∃ N, l'.length = N := ⟨_, rfl⟩
        have HNl := Lib.hid hN
        have hN8 : N ≤ 8 := by rw [← hN]; exact HR'.out.most
        have HO4 : Hid (w3.ownsRow w1.heap.size 46 2 (.slice A4 N c4) N (ptCells l')) := Lib.hid (by rw [← hN]; exact o4)
        rw [hN]
        clear o4 he hN r0 r1 f0 f1
        go_wp2
        go_loopw [9, 10, 34] (fun _ _ iv wr => ∃ k : Nat, k ≤ N ∧ iv = .int .i64 (k : Int) ∧ wr.ownsRow w1.heap.size 46 2 (.slice A4 N c4) N (ptCells l') ∧ Below w1.heap.size w3 wr) (fun _ _ iv _ => N - (intOf iv).toNat)
        case atStart => exact ⟨0, by omega, rfl, HO4.out, Below.refl _ _⟩
        case round =>
          obtain ⟨k, hk, rfl, ho, hb⟩ := hrel
          have Hbk := Lib.hid hb
          have Ho := Lib.hid ho
          have hsk : w1.heap.size ≤ wr.heap.size := Nat.le_trans hs3 hb.size
          by_cases hlt : k < N
          · obtain ⟨p, hp⟩ : ∃ p, l'[k]? = some p := ⟨_, List.getElem?_eq_getElem (by have := HNl.out; omega)⟩
            have hpe := HR'.out.each p (List.mem_of_getElem? hp)
            obtain ⟨g, rfl, hg1⟩ := own_head ho (by omega)
            have hgl := (ho.lt g rfl).2
            have d0 : wr.cell? ⟨g, k * 2, none⟩ = some (.string p.lo) := (ho.cellAt (k * 2) (by omega)).trans (ptCells_at l' k p hp).1
            have d1 : wr.cell? ⟨g, k * 2 + 1, none⟩ = some (.int .i64 p.n) := (ho.cellAt (k * 2 + 1) (by omega)).trans (ptCells_at l' k p hp).2
            have Hps : Hid ((ptCells l').set (k * 2) (.string p.lo) = ptCells l') := Lib.hid (ptCells_setL l' k p hp)
            have hsz' : p.lo.size ≤ 100 := by have := hpe.1; rw [lo_size] at this; exact this
            obtain ⟨plo, pn⟩ := p
            simp only at d0 d1 hsz' Hps
            have Hcl := Lib.hid (clone_any plo (wr.alloc (.cells #[.string plo, .int .i64 pn] 46)) (by omega))
            have hk0 : (0 : Int) ≤ (k : Int) := by omega
            have hk1 : (k : Int) < (N : Int) := by omega
            have Hal := Lib.hid (below_box (w := wr) (Obj.cells #[.string plo, .int .i64 pn] 46))
            clear hp hpe hb ho
            go_wp2_with fail
            refine Hcl.out.mono ?_
            rintro e w5 ⟨rfl, hb5⟩
            have hbr : Below wr.heap.size wr w5 := Hal.out.trans (hb5.mono Hal.out.size)
            have ho5 := own_belowN Ho.out hbr
            have y0 : w5.cell? ⟨g, k * 2, none⟩ = some (.string plo) := by
              obtain ⟨u, hu⟩ : ∃ u, (ptCells l')[k * 2]? = some u := ⟨_, List.getElem?_eq_getElem (by have := ho5.1; omega)⟩
              have h8 := (Ho.out.cellAt (k * 2) (by omega)).symm.trans d0
              rw [(ho5.cellAt (k * 2) (by omega)), h8]
            have x0 : w5.frozen? ⟨g, k * 2, none⟩ = false := ho5.frozenAt _
            have hst := ho5.stored (k * 2) (.string plo)
            rw [Hps.out] at hst
            have HE : Hid ((w5.setCell ⟨g, k * 2, none⟩ (.string plo)).ownsRow w1.heap.size 46 2 (.slice (some ⟨g, 0, none⟩) N c4) N (ptCells l') ∧ Below w1.heap.size w3 (w5.setCell ⟨g, k * 2, none⟩ (.string plo))) := Lib.hid ⟨hst.1, (Hbk.out.trans (hbr.mono hsk)).setCell hg1 _⟩
            clear hb5 hbr ho5 hst d0 d1
            go_wp2
            go_roundw
            case rel => exact ⟨k + 1, by omega, by go_num, HE.out.1, HE.out.2⟩
            case measure => simp [intOf]; omega
          · obtain rfl : N = k := by omega
            have HX4 := Lib.hid (HX3.out.below (Hbk.out) (by omega))
            have hb14 : Below w1.heap.size w1 wr := Hb13.out.trans Hbk.out
            obtain ⟨hx1, hx2, hbw, -⟩ := HM.out wr (Hb1.out.trans (hb14.mono Hb1.out.size))
            have q0 : wr.cell? ⟨w.heap.size, 0, none⟩ = some (.int .i64 ep) := hx1.cell 0
            have r0 : wr.cell? ⟨w.heap.size + 1, 0, none⟩ = some (.int .i64 0) := hx2.cell 0
            have r1 : wr.cell? ⟨w.heap.size + 1, 1, none⟩ = some (.slice none 0 0) := hx2.cell 1
            have f0 : wr.frozen? ⟨w.heap.size + 1, 0, none⟩ = false := hx2.frozen 0
            have f1 : wr.frozen? ⟨w.heap.size + 1, 1, none⟩ = false := hx2.frozen 1
            obtain ⟨p0, p1, hbe⟩ := go_res (.int .i64 (ep + 1)) (.slice A4 N c4) hx2 hbw
            have hno : (Value.slice A4 N c4).ownBlock ≠ some (w.heap.size + 1) := fun e => by have := (ho.lt _ e).1; omega
            have hO5 : OwnPts wr w1.heap.size (.slice A4 N c4) l' := by unfold OwnPts; rw [HNl.out]; exact ho
            have HBE := Lib.hid (And.intro hbe (((hO5.far (i := 0) (u := .int .i64 (ep + 1)) hno).far (i := 1) (u := .slice A4 N c4) hno).base (B' := w.heap.size) (by omega)))
            obtain ⟨W3, hW3⟩ : ∃ W3, ((wr.setCell ⟨w.heap.size + 1, 0, none⟩ (.int .i64 (ep + 1))).setCell ⟨w.heap.size + 1, 1, none⟩ (.slice A4 N c4)) = W3 := ⟨_, rfl⟩
            rw [hW3] at p0 p1 HBE
            clear hb ho hx1 hx2 hbw hbe hno hO5 hb14
            go_wp2
            refine bodyPost_ret (v := .tuple #[.agg #[.int .i64 (ep + 1), .slice A4 N c4], .int .i64 0]) ?_ rfl ⟨_, rfl, HBE.out.2, HBE.out.1⟩
            simp [results, Try.results36, go_sem, p0, p1]
  · have h0' : (z == 0) = false := by simpa using h0
    have h0'' : (z != 0) = true := by simpa using h0
    obtain rfl : m = (0, [], z) := by rw [← Hm.out]; unfold goT; rw [Hz.out, if_pos h0]
    obtain ⟨p0, p1, hbe⟩ := go_res (.int .i64 0) (.slice none 0 0) HX2.out HW1.out
    have HBE := Lib.hid hbe
    obtain ⟨W3, hW3⟩ : ∃ W3, ((w1.setCell ⟨w.heap.size + 1, 0, none⟩ (.int .i64 0)).setCell ⟨w.heap.size + 1, 1, none⟩ (.slice none 0 0)) = W3 := ⟨_, rfl⟩
    rw [hW3] at p0 p1 HBE
    clear h0 hb1 hbe
    go_wp2
    refine bodyPost_ret (v := .tuple #[.agg #[.int .i64 0, .slice none 0 0], .int .i64 z]) ?_ rfl (MapPost.err z HBE.out)
    simp [results, Try.results36, go_sem, p0, p1]
set_option maxRecDepth 100000 in
set_option maxHeartbeats 6400000 in
theorem goMerge_any (ep : Int) (A : Option Addr) (n c C bx : Nat) (l : List Pt) (s : ByteArray) (w : World) (h : HasPts w C A n l) (hC : C ≤ w.heap.size) (hn : n ≤ maxLen) (hs : ∀ p ∈ l, p.lo.size ≤ maxLen) (hbx : Box w bx 9 #[.string s]) :
    Calls Try.prog 36 #[.agg #[.int .i64 ep, .slice A n c], .func (.func 39) #[] #[.pointer (some ⟨bx, 0, none⟩)]] w (MapPost (goT ep l (mergeP l s)) w) := by
  have Hc := Lib.hid (check_any ep A n c C l ((w.alloc (.cells #[.int .i64 ep, .slice A n c] 24)).alloc (.cells #[.int .i64 0, .slice none 0 0] 24)) ((h.alloc hC _).alloc (by simp; omega) _) (by simp; omega) hn hs)
  have HM := Lib.hid (fun wx (hx : Below ((w.alloc (.cells #[.int .i64 ep, .slice A n c] 24)).alloc (.cells #[.int .i64 0, .slice none 0 0] 24)).heap.size ((w.alloc (.cells #[.int .i64 ep, .slice A n c] 24)).alloc (.cells #[.int .i64 0, .slice none 0 0] 24)) wx) => go_boxes hx)
  have HA : Hid (∀ wx, Below ((w.alloc (.cells #[.int .i64 ep, .slice A n c] 24)).alloc (.cells #[.int .i64 0, .slice none 0 0] 24)).heap.size ((w.alloc (.cells #[.int .i64 ep, .slice A n c] 24)).alloc (.cells #[.int .i64 0, .slice none 0 0] 24)) wx → HasPts wx C A n l) := Lib.hid fun wx hx => h.belowOf (go_boxes hx).2.2.1 hC
  have HB : Hid (∀ wx, Below w.heap.size w wx → Box wx bx 9 #[.string s]) := Lib.hid fun wx hx => hbx.below hx hbx.lt
  have Hl := Lib.hid h.1
  obtain ⟨z, hz⟩ : ∃ z, checkT ep l = z := ⟨_, rfl⟩
  have Hz := Lib.hid hz
  obtain ⟨r, hr⟩ : ∃ r, mergeP l s = r := ⟨_, rfl⟩
  have Hr := Lib.hid hr
  obtain ⟨m, hm⟩ : ∃ m, goT ep l r = m := ⟨_, rfl⟩
  have Hm := Lib.hid hm
  rw [hr, hm]
  unfold CheckPost at Hc
  rw [hz] at Hc
  clear h hs hbx hz hr hm
  go_enter Try.func36, Try.ntmps36
  go_wp2_with fail
  refine Hc.out.mono ?_
  rintro e w1 ⟨rfl, hb1⟩
  have Hb1 := Lib.hid hb1
  obtain ⟨hx1, hx2, hbw, hsz1⟩ := HM.out w1 hb1
  have HW1 := Lib.hid hbw
  have HX2 := Lib.hid hx2
  have q0 : w1.cell? ⟨w.heap.size, 0, none⟩ = some (.int .i64 ep) := hx1.cell 0
  have q1 : w1.cell? ⟨w.heap.size, 1, none⟩ = some (.slice A n c) := hx1.cell 1
  have r0 : w1.cell? ⟨w.heap.size + 1, 0, none⟩ = some (.int .i64 0) := hx2.cell 0
  have r1 : w1.cell? ⟨w.heap.size + 1, 1, none⟩ = some (.slice none 0 0) := hx2.cell 1
  have f0 : w1.frozen? ⟨w.heap.size + 1, 0, none⟩ = false := hx2.frozen 0
  have f1 : w1.frozen? ⟨w.heap.size + 1, 1, none⟩ = false := hx2.frozen 1
  clear hx1 hx2 hbw
  by_cases h0 : z = 0
  · subst h0
    have HR : Hid (1 ≤ ep ∧ ep ≤ 1099511627776 ∧ RightP l) := Lib.hid (check_zero.1 Hz.out)
    have Hcl := Lib.hid (cloneP_any A n c C l w1 (HA.out w1 hb1) (by have := HR.out.2.2.most; have := Hl.out; omega) (by omega))
    clear hb1 Hc
    go_wp2_with fail
    refine Hcl.out.mono ?_
    rintro e w2 ⟨v2, rfl, o2, hb2⟩
    have Hb2 := Lib.hid hb2
    have hs2 : w1.heap.size ≤ w2.heap.size := hb2.size
    have HW2 : Hid (Below w.heap.size w w2) := Lib.hid (HW1.out.trans (hb2.mono (by omega)))
    have Hh := Lib.hid (howMerge_any w1.heap.size bx v2 l s  w2 o2 hs2 HR.out.2.2 (HB.out w2 HW2.out))
    rw [Hr.out] at Hh
    clear o2 hb2 Hcl
    go_wp2_with fail
    refine Hh.out.mono ?_
    rintro e w3 ⟨hb3, hcs⟩
    clear Hh
    have Hb13 : Hid (Below w1.heap.size w1 w3) := Lib.hid (Hb2.out.trans hb3)
    have hs3 : w1.heap.size ≤ w3.heap.size := Hb13.out.size
    obtain ⟨hx1, hx2, hbw, -⟩ := HM.out w3 (Hb1.out.trans (Hb13.out.mono Hb1.out.size))
    have HW3 := Lib.hid hbw
    have HX3 := Lib.hid hx2
    have q0 : w3.cell? ⟨w.heap.size, 0, none⟩ = some (.int .i64 ep) := hx1.cell 0
    have r0 : w3.cell? ⟨w.heap.size + 1, 0, none⟩ = some (.int .i64 0) := hx2.cell 0
    have r1 : w3.cell? ⟨w.heap.size + 1, 1, none⟩ = some (.slice none 0 0) := hx2.cell 1
    have f0 : w3.frozen? ⟨w.heap.size + 1, 0, none⟩ = false := hx2.frozen 0
    have f1 : w3.frozen? ⟨w.heap.size + 1, 1, none⟩ = false := hx2.frozen 1
    have HC0 : Hid (¬ checkT ep l ≠ 0) := Lib.hid fun h => h Hz.out
    clear hx1 hx2 hbw hb3
    rcases hcs with ⟨hrn, rfl⟩ | ⟨l', v', hrn, rfl, o4⟩
    · obtain rfl : m = (0, [], 14) := by rw [← Hm.out]; unfold goT; rw [if_neg HC0.out, hrn]
      obtain ⟨p0, p1, hbe⟩ := go_res (.int .i64 0) (.slice none 0 0) HX3.out HW3.out
      have HBE := Lib.hid hbe
      obtain ⟨W3, hW3⟩ : ∃ W3, ((w3.setCell ⟨w.heap.size + 1, 0, none⟩ (.int .i64 0)).setCell ⟨w.heap.size + 1, 1, none⟩ (.slice none 0 0)) = W3 := ⟨_, rfl⟩
      rw [hW3] at p0 p1 HBE
      clear hbe
      go_wp2
      refine bodyPost_ret (v := .tuple #[.agg #[.int .i64 0, .slice none 0 0], .int .i64 14]) ?_ rfl (MapPost.err 14 HBE.out)
      simp [results, Try.results36, go_sem, p0, p1]
    · by_cases he : ep = 1099511627776
      · have hd : (ep == 1099511627776) = true := by simpa using he
        obtain rfl : m = (0, [], 4) := by rw [← Hm.out]; unfold goT; rw [if_neg HC0.out, hrn]; exact if_pos he
        clear he o4
        obtain ⟨p0, p1, hbe⟩ := go_res (.int .i64 0) (.slice none 0 0) HX3.out HW3.out
        have HBE := Lib.hid hbe
        obtain ⟨W3, hW3⟩ : ∃ W3, ((w3.setCell ⟨w.heap.size + 1, 0, none⟩ (.int .i64 0)).setCell ⟨w.heap.size + 1, 1, none⟩ (.slice none 0 0)) = W3 := ⟨_, rfl⟩
        rw [hW3] at p0 p1 HBE
        clear hbe
        go_wp2
        refine bodyPost_ret (v := .tuple #[.agg #[.int .i64 0, .slice none 0 0], .int .i64 4]) ?_ rfl (MapPost.err 4 HBE.out)
        simp [results, Try.results36, go_sem, p0, p1]
      · have hd : (ep == 1099511627776) = false := by simpa using he
        obtain rfl : m = (ep + 1, l', 0) := by rw [← Hm.out]; unfold goT; rw [if_neg HC0.out, hrn]; exact if_neg he
        have HR' : Hid (RightP l') := Lib.hid (merge_right HR.out.2.2 (Hr.out.trans hrn))
        have hwe : IntKind.i64.wrap (ep + 1) = ep + 1 := IntWalk.i64_in _ (by have := HR.out; omega)
        obtain ⟨A4, c4, rfl, -, -, -⟩ := o4.slice
        obtain ⟨N, hN⟩ : ∃ N, l'.length = N := ⟨_, rfl⟩
        have HNl := Lib.hid hN
        have hN8 : N ≤ 8 := by rw [← hN]; exact HR'.out.most
        have HO4 : Hid (w3.ownsRow w1.heap.size 46 2 (.slice A4 N c4) N (ptCells l')) := Lib.hid (by rw [← hN]; exact o4)
        rw [hN]
        clear o4 he hN r0 r1 f0 f1
        go_wp2
        go_loopw [9, 10, 34] (fun _ _ iv wr => ∃ k : Nat, k ≤ N ∧ iv = .int .i64 (k : Int) ∧ wr.ownsRow w1.heap.size 46 2 (.slice A4 N c4) N (ptCells l') ∧ Below w1.heap.size w3 wr) (fun _ _ iv _ => N - (intOf iv).toNat)
        case atStart => exact ⟨0, by omega, rfl, HO4.out, Below.refl _ _⟩
        case round =>
          obtain ⟨k, hk, rfl, ho, hb⟩ := hrel
          have Hbk := Lib.hid hb
          have Ho := Lib.hid ho
          have hsk : w1.heap.size ≤ wr.heap.size := Nat.le_trans hs3 hb.size
          by_cases hlt : k < N
          · obtain ⟨p, hp⟩ : ∃ p, l'[k]? = some p := ⟨_, List.getElem?_eq_getElem (by have := HNl.out; omega)⟩
            have hpe := HR'.out.each p (List.mem_of_getElem? hp)
            obtain ⟨g, rfl, hg1⟩ := own_head ho (by omega)
            have hgl := (ho.lt g rfl).2
            have d0 : wr.cell? ⟨g, k * 2, none⟩ = some (.string p.lo) := (ho.cellAt (k * 2) (by omega)).trans (ptCells_at l' k p hp).1
            have d1 : wr.cell? ⟨g, k * 2 + 1, none⟩ = some (.int .i64 p.n) := (ho.cellAt (k * 2 + 1) (by omega)).trans (ptCells_at l' k p hp).2
            have Hps : Hid ((ptCells l').set (k * 2) (.string p.lo) = ptCells l') := Lib.hid (ptCells_setL l' k p hp)
            have hsz' : p.lo.size ≤ 100 := by have := hpe.1; rw [lo_size] at this; exact this
            obtain ⟨plo, pn⟩ := p
            simp only at d0 d1 hsz' Hps
            have Hcl := Lib.hid (clone_any plo (wr.alloc (.cells #[.string plo, .int .i64 pn] 46)) (by omega))
            have hk0 : (0 : Int) ≤ (k : Int) := by omega
            have hk1 : (k : Int) < (N : Int) := by omega
            have Hal := Lib.hid (below_box (w := wr) (Obj.cells #[.string plo, .int .i64 pn] 46))
            clear hp hpe hb ho
            go_wp2_with fail
            refine Hcl.out.mono ?_
            rintro e w5 ⟨rfl, hb5⟩
            have hbr : Below wr.heap.size wr w5 := Hal.out.trans (hb5.mono Hal.out.size)
            have ho5 := own_belowN Ho.out hbr
            have y0 : w5.cell? ⟨g, k * 2, none⟩ = some (.string plo) := by
              obtain ⟨u, hu⟩ : ∃ u, (ptCells l')[k * 2]? = some u := ⟨_, List.getElem?_eq_getElem (by have := ho5.1; omega)⟩
              have h8 := (Ho.out.cellAt (k * 2) (by omega)).symm.trans d0
              rw [(ho5.cellAt (k * 2) (by omega)), h8]
            have x0 : w5.frozen? ⟨g, k * 2, none⟩ = false := ho5.frozenAt _
            have hst := ho5.stored (k * 2) (.string plo)
            rw [Hps.out] at hst
            have HE : Hid ((w5.setCell ⟨g, k * 2, none⟩ (.string plo)).ownsRow w1.heap.size 46 2 (.slice (some ⟨g, 0, none⟩) N c4) N (ptCells l') ∧ Below w1.heap.size w3 (w5.setCell ⟨g, k * 2, none⟩ (.string plo))) := Lib.hid ⟨hst.1, (Hbk.out.trans (hbr.mono hsk)).setCell hg1 _⟩
            clear hb5 hbr ho5 hst d0 d1
            go_wp2
            go_roundw
            case rel => exact ⟨k + 1, by omega, by go_num, HE.out.1, HE.out.2⟩
            case measure => simp [intOf]; omega
          · obtain rfl : N = k := by omega
            have HX4 := Lib.hid (HX3.out.below (Hbk.out) (by omega))
            have hb14 : Below w1.heap.size w1 wr := Hb13.out.trans Hbk.out
            obtain ⟨hx1, hx2, hbw, -⟩ := HM.out wr (Hb1.out.trans (hb14.mono Hb1.out.size))
            have q0 : wr.cell? ⟨w.heap.size, 0, none⟩ = some (.int .i64 ep) := hx1.cell 0
            have r0 : wr.cell? ⟨w.heap.size + 1, 0, none⟩ = some (.int .i64 0) := hx2.cell 0
            have r1 : wr.cell? ⟨w.heap.size + 1, 1, none⟩ = some (.slice none 0 0) := hx2.cell 1
            have f0 : wr.frozen? ⟨w.heap.size + 1, 0, none⟩ = false := hx2.frozen 0
            have f1 : wr.frozen? ⟨w.heap.size + 1, 1, none⟩ = false := hx2.frozen 1
            obtain ⟨p0, p1, hbe⟩ := go_res (.int .i64 (ep + 1)) (.slice A4 N c4) hx2 hbw
            have hno : (Value.slice A4 N c4).ownBlock ≠ some (w.heap.size + 1) := fun e => by have := (ho.lt _ e).1; omega
            have hO5 : OwnPts wr w1.heap.size (.slice A4 N c4) l' := by unfold OwnPts; rw [HNl.out]; exact ho
            have HBE := Lib.hid (And.intro hbe (((hO5.far (i := 0) (u := .int .i64 (ep + 1)) hno).far (i := 1) (u := .slice A4 N c4) hno).base (B' := w.heap.size) (by omega)))
            obtain ⟨W3, hW3⟩ : ∃ W3, ((wr.setCell ⟨w.heap.size + 1, 0, none⟩ (.int .i64 (ep + 1))).setCell ⟨w.heap.size + 1, 1, none⟩ (.slice A4 N c4)) = W3 := ⟨_, rfl⟩
            rw [hW3] at p0 p1 HBE
            clear hb ho hx1 hx2 hbw hbe hno hO5 hb14
            go_wp2
            refine bodyPost_ret (v := .tuple #[.agg #[.int .i64 (ep + 1), .slice A4 N c4], .int .i64 0]) ?_ rfl ⟨_, rfl, HBE.out.2, HBE.out.1⟩
            simp [results, Try.results36, go_sem, p0, p1]
  · have h0' : (z == 0) = false := by simpa using h0
    have h0'' : (z != 0) = true := by simpa using h0
    obtain rfl : m = (0, [], z) := by rw [← Hm.out]; unfold goT; rw [Hz.out, if_pos h0]
    obtain ⟨p0, p1, hbe⟩ := go_res (.int .i64 0) (.slice none 0 0) HX2.out HW1.out
    have HBE := Lib.hid hbe
    obtain ⟨W3, hW3⟩ : ∃ W3, ((w1.setCell ⟨w.heap.size + 1, 0, none⟩ (.int .i64 0)).setCell ⟨w.heap.size + 1, 1, none⟩ (.slice none 0 0)) = W3 := ⟨_, rfl⟩
    rw [hW3] at p0 p1 HBE
    clear h0 hb1 hbe
    go_wp2
    refine bodyPost_ret (v := .tuple #[.agg #[.int .i64 0, .slice none 0 0], .int .i64 z]) ?_ rfl (MapPost.err z HBE.out)
    simp [results, Try.results36, go_sem, p0, p1]
set_option maxRecDepth 100000 in
set_option maxHeartbeats 6400000 in
theorem goMove_any (ep : Int) (A : Option Addr) (n c C bx by_ : Nat) (l : List Pt) (s : ByteArray) (node : Int) (w : World) (h : HasPts w C A n l) (hC : C ≤ w.heap.size) (hn : n ≤ maxLen) (hs : ∀ p ∈ l, p.lo.size ≤ maxLen) (hbx : Box w bx 9 #[.string s]) (hby : Box w by_ 3 #[.int .i64 node]) :
    Calls Try.prog 36 #[.agg #[.int .i64 ep, .slice A n c], .func (.func 41) #[] #[.pointer (some ⟨bx, 0, none⟩), .pointer (some ⟨by_, 0, none⟩)]] w (MapPost (goT ep l (moveP l s node)) w) := by
  have Hc := Lib.hid (check_any ep A n c C l ((w.alloc (.cells #[.int .i64 ep, .slice A n c] 24)).alloc (.cells #[.int .i64 0, .slice none 0 0] 24)) ((h.alloc hC _).alloc (by simp; omega) _) (by simp; omega) hn hs)
  have HM := Lib.hid (fun wx (hx : Below ((w.alloc (.cells #[.int .i64 ep, .slice A n c] 24)).alloc (.cells #[.int .i64 0, .slice none 0 0] 24)).heap.size ((w.alloc (.cells #[.int .i64 ep, .slice A n c] 24)).alloc (.cells #[.int .i64 0, .slice none 0 0] 24)) wx) => go_boxes hx)
  have HA : Hid (∀ wx, Below ((w.alloc (.cells #[.int .i64 ep, .slice A n c] 24)).alloc (.cells #[.int .i64 0, .slice none 0 0] 24)).heap.size ((w.alloc (.cells #[.int .i64 ep, .slice A n c] 24)).alloc (.cells #[.int .i64 0, .slice none 0 0] 24)) wx → HasPts wx C A n l) := Lib.hid fun wx hx => h.belowOf (go_boxes hx).2.2.1 hC
  have HB : Hid (∀ wx, Below w.heap.size w wx → Box wx bx 9 #[.string s] ∧ Box wx by_ 3 #[.int .i64 node]) := Lib.hid fun wx hx => ⟨hbx.below hx hbx.lt, hby.below hx hby.lt⟩
  have Hl := Lib.hid h.1
  obtain ⟨z, hz⟩ : ∃ z, checkT ep l = z := ⟨_, rfl⟩
  have Hz := Lib.hid hz
  obtain ⟨r, hr⟩ : ∃ r, moveP l s node = r := ⟨_, rfl⟩
  have Hr := Lib.hid hr
  obtain ⟨m, hm⟩ : ∃ m, goT ep l r = m := ⟨_, rfl⟩
  have Hm := Lib.hid hm
  rw [hr, hm]
  unfold CheckPost at Hc
  rw [hz] at Hc
  clear h hs hbx hby hz hr hm
  go_enter Try.func36, Try.ntmps36
  go_wp2_with fail
  refine Hc.out.mono ?_
  rintro e w1 ⟨rfl, hb1⟩
  have Hb1 := Lib.hid hb1
  obtain ⟨hx1, hx2, hbw, hsz1⟩ := HM.out w1 hb1
  have HW1 := Lib.hid hbw
  have HX2 := Lib.hid hx2
  have q0 : w1.cell? ⟨w.heap.size, 0, none⟩ = some (.int .i64 ep) := hx1.cell 0
  have q1 : w1.cell? ⟨w.heap.size, 1, none⟩ = some (.slice A n c) := hx1.cell 1
  have r0 : w1.cell? ⟨w.heap.size + 1, 0, none⟩ = some (.int .i64 0) := hx2.cell 0
  have r1 : w1.cell? ⟨w.heap.size + 1, 1, none⟩ = some (.slice none 0 0) := hx2.cell 1
  have f0 : w1.frozen? ⟨w.heap.size + 1, 0, none⟩ = false := hx2.frozen 0
  have f1 : w1.frozen? ⟨w.heap.size + 1, 1, none⟩ = false := hx2.frozen 1
  clear hx1 hx2 hbw
  by_cases h0 : z = 0
  · subst h0
    have HR : Hid (1 ≤ ep ∧ ep ≤ 1099511627776 ∧ RightP l) := Lib.hid (check_zero.1 Hz.out)
    have Hcl := Lib.hid (cloneP_any A n c C l w1 (HA.out w1 hb1) (by have := HR.out.2.2.most; have := Hl.out; omega) (by omega))
    clear hb1 Hc
    go_wp2_with fail
    refine Hcl.out.mono ?_
    rintro e w2 ⟨v2, rfl, o2, hb2⟩
    have Hb2 := Lib.hid hb2
    have hs2 : w1.heap.size ≤ w2.heap.size := hb2.size
    have HW2 : Hid (Below w.heap.size w w2) := Lib.hid (HW1.out.trans (hb2.mono (by omega)))
    have Hh := Lib.hid (howMove_any w1.heap.size bx by_ v2 l s node w2 o2 hs2 HR.out.2.2 (HB.out w2 HW2.out).1 (HB.out w2 HW2.out).2)
    rw [Hr.out] at Hh
    clear o2 hb2 Hcl
    go_wp2_with fail
    refine Hh.out.mono ?_
    rintro e w3 ⟨hb3, hcs⟩
    clear Hh
    have Hb13 : Hid (Below w1.heap.size w1 w3) := Lib.hid (Hb2.out.trans hb3)
    have hs3 : w1.heap.size ≤ w3.heap.size := Hb13.out.size
    obtain ⟨hx1, hx2, hbw, -⟩ := HM.out w3 (Hb1.out.trans (Hb13.out.mono Hb1.out.size))
    have HW3 := Lib.hid hbw
    have HX3 := Lib.hid hx2
    have q0 : w3.cell? ⟨w.heap.size, 0, none⟩ = some (.int .i64 ep) := hx1.cell 0
    have r0 : w3.cell? ⟨w.heap.size + 1, 0, none⟩ = some (.int .i64 0) := hx2.cell 0
    have r1 : w3.cell? ⟨w.heap.size + 1, 1, none⟩ = some (.slice none 0 0) := hx2.cell 1
    have f0 : w3.frozen? ⟨w.heap.size + 1, 0, none⟩ = false := hx2.frozen 0
    have f1 : w3.frozen? ⟨w.heap.size + 1, 1, none⟩ = false := hx2.frozen 1
    have HC0 : Hid (¬ checkT ep l ≠ 0) := Lib.hid fun h => h Hz.out
    clear hx1 hx2 hbw hb3
    rcases hcs with ⟨hrn, rfl⟩ | ⟨l', v', hrn, rfl, o4⟩
    · obtain rfl : m = (0, [], 14) := by rw [← Hm.out]; unfold goT; rw [if_neg HC0.out, hrn]
      obtain ⟨p0, p1, hbe⟩ := go_res (.int .i64 0) (.slice none 0 0) HX3.out HW3.out
      have HBE := Lib.hid hbe
      obtain ⟨W3, hW3⟩ : ∃ W3, ((w3.setCell ⟨w.heap.size + 1, 0, none⟩ (.int .i64 0)).setCell ⟨w.heap.size + 1, 1, none⟩ (.slice none 0 0)) = W3 := ⟨_, rfl⟩
      rw [hW3] at p0 p1 HBE
      clear hbe
      go_wp2
      refine bodyPost_ret (v := .tuple #[.agg #[.int .i64 0, .slice none 0 0], .int .i64 14]) ?_ rfl (MapPost.err 14 HBE.out)
      simp [results, Try.results36, go_sem, p0, p1]
    · by_cases he : ep = 1099511627776
      · have hd : (ep == 1099511627776) = true := by simpa using he
        obtain rfl : m = (0, [], 4) := by rw [← Hm.out]; unfold goT; rw [if_neg HC0.out, hrn]; exact if_pos he
        clear he o4
        obtain ⟨p0, p1, hbe⟩ := go_res (.int .i64 0) (.slice none 0 0) HX3.out HW3.out
        have HBE := Lib.hid hbe
        obtain ⟨W3, hW3⟩ : ∃ W3, ((w3.setCell ⟨w.heap.size + 1, 0, none⟩ (.int .i64 0)).setCell ⟨w.heap.size + 1, 1, none⟩ (.slice none 0 0)) = W3 := ⟨_, rfl⟩
        rw [hW3] at p0 p1 HBE
        clear hbe
        go_wp2
        refine bodyPost_ret (v := .tuple #[.agg #[.int .i64 0, .slice none 0 0], .int .i64 4]) ?_ rfl (MapPost.err 4 HBE.out)
        simp [results, Try.results36, go_sem, p0, p1]
      · have hd : (ep == 1099511627776) = false := by simpa using he
        obtain rfl : m = (ep + 1, l', 0) := by rw [← Hm.out]; unfold goT; rw [if_neg HC0.out, hrn]; exact if_neg he
        have HR' : Hid (RightP l') := Lib.hid (move_right HR.out.2.2 (Hr.out.trans hrn))
        have hwe : IntKind.i64.wrap (ep + 1) = ep + 1 := IntWalk.i64_in _ (by have := HR.out; omega)
        obtain ⟨A4, c4, rfl, -, -, -⟩ := o4.slice
        obtain ⟨N, hN⟩ : ∃ N, l'.length = N := ⟨_, rfl⟩
        have HNl := Lib.hid hN
        have hN8 : N ≤ 8 := by rw [← hN]; exact HR'.out.most
        have HO4 : Hid (w3.ownsRow w1.heap.size 46 2 (.slice A4 N c4) N (ptCells l')) := Lib.hid (by rw [← hN]; exact o4)
        rw [hN]
        clear o4 he hN r0 r1 f0 f1
        go_wp2
        go_loopw [9, 10, 34] (fun _ _ iv wr => ∃ k : Nat, k ≤ N ∧ iv = .int .i64 (k : Int) ∧ wr.ownsRow w1.heap.size 46 2 (.slice A4 N c4) N (ptCells l') ∧ Below w1.heap.size w3 wr) (fun _ _ iv _ => N - (intOf iv).toNat)
        case atStart => exact ⟨0, by omega, rfl, HO4.out, Below.refl _ _⟩
        case round =>
          obtain ⟨k, hk, rfl, ho, hb⟩ := hrel
          have Hbk := Lib.hid hb
          have Ho := Lib.hid ho
          have hsk : w1.heap.size ≤ wr.heap.size := Nat.le_trans hs3 hb.size
          by_cases hlt : k < N
          · obtain ⟨p, hp⟩ : ∃ p, l'[k]? = some p := ⟨_, List.getElem?_eq_getElem (by have := HNl.out; omega)⟩
            have hpe := HR'.out.each p (List.mem_of_getElem? hp)
            obtain ⟨g, rfl, hg1⟩ := own_head ho (by omega)
            have hgl := (ho.lt g rfl).2
            have d0 : wr.cell? ⟨g, k * 2, none⟩ = some (.string p.lo) := (ho.cellAt (k * 2) (by omega)).trans (ptCells_at l' k p hp).1
            have d1 : wr.cell? ⟨g, k * 2 + 1, none⟩ = some (.int .i64 p.n) := (ho.cellAt (k * 2 + 1) (by omega)).trans (ptCells_at l' k p hp).2
            have Hps : Hid ((ptCells l').set (k * 2) (.string p.lo) = ptCells l') := Lib.hid (ptCells_setL l' k p hp)
            have hsz' : p.lo.size ≤ 100 := by have := hpe.1; rw [lo_size] at this; exact this
            obtain ⟨plo, pn⟩ := p
            simp only at d0 d1 hsz' Hps
            have Hcl := Lib.hid (clone_any plo (wr.alloc (.cells #[.string plo, .int .i64 pn] 46)) (by omega))
            have hk0 : (0 : Int) ≤ (k : Int) := by omega
            have hk1 : (k : Int) < (N : Int) := by omega
            have Hal := Lib.hid (below_box (w := wr) (Obj.cells #[.string plo, .int .i64 pn] 46))
            clear hp hpe hb ho
            go_wp2_with fail
            refine Hcl.out.mono ?_
            rintro e w5 ⟨rfl, hb5⟩
            have hbr : Below wr.heap.size wr w5 := Hal.out.trans (hb5.mono Hal.out.size)
            have ho5 := own_belowN Ho.out hbr
            have y0 : w5.cell? ⟨g, k * 2, none⟩ = some (.string plo) := by
              obtain ⟨u, hu⟩ : ∃ u, (ptCells l')[k * 2]? = some u := ⟨_, List.getElem?_eq_getElem (by have := ho5.1; omega)⟩
              have h8 := (Ho.out.cellAt (k * 2) (by omega)).symm.trans d0
              rw [(ho5.cellAt (k * 2) (by omega)), h8]
            have x0 : w5.frozen? ⟨g, k * 2, none⟩ = false := ho5.frozenAt _
            have hst := ho5.stored (k * 2) (.string plo)
            rw [Hps.out] at hst
            have HE : Hid ((w5.setCell ⟨g, k * 2, none⟩ (.string plo)).ownsRow w1.heap.size 46 2 (.slice (some ⟨g, 0, none⟩) N c4) N (ptCells l') ∧ Below w1.heap.size w3 (w5.setCell ⟨g, k * 2, none⟩ (.string plo))) := Lib.hid ⟨hst.1, (Hbk.out.trans (hbr.mono hsk)).setCell hg1 _⟩
            clear hb5 hbr ho5 hst d0 d1
            go_wp2
            go_roundw
            case rel => exact ⟨k + 1, by omega, by go_num, HE.out.1, HE.out.2⟩
            case measure => simp [intOf]; omega
          · obtain rfl : N = k := by omega
            have HX4 := Lib.hid (HX3.out.below (Hbk.out) (by omega))
            have hb14 : Below w1.heap.size w1 wr := Hb13.out.trans Hbk.out
            obtain ⟨hx1, hx2, hbw, -⟩ := HM.out wr (Hb1.out.trans (hb14.mono Hb1.out.size))
            have q0 : wr.cell? ⟨w.heap.size, 0, none⟩ = some (.int .i64 ep) := hx1.cell 0
            have r0 : wr.cell? ⟨w.heap.size + 1, 0, none⟩ = some (.int .i64 0) := hx2.cell 0
            have r1 : wr.cell? ⟨w.heap.size + 1, 1, none⟩ = some (.slice none 0 0) := hx2.cell 1
            have f0 : wr.frozen? ⟨w.heap.size + 1, 0, none⟩ = false := hx2.frozen 0
            have f1 : wr.frozen? ⟨w.heap.size + 1, 1, none⟩ = false := hx2.frozen 1
            obtain ⟨p0, p1, hbe⟩ := go_res (.int .i64 (ep + 1)) (.slice A4 N c4) hx2 hbw
            have hno : (Value.slice A4 N c4).ownBlock ≠ some (w.heap.size + 1) := fun e => by have := (ho.lt _ e).1; omega
            have hO5 : OwnPts wr w1.heap.size (.slice A4 N c4) l' := by unfold OwnPts; rw [HNl.out]; exact ho
            have HBE := Lib.hid (And.intro hbe (((hO5.far (i := 0) (u := .int .i64 (ep + 1)) hno).far (i := 1) (u := .slice A4 N c4) hno).base (B' := w.heap.size) (by omega)))
            obtain ⟨W3, hW3⟩ : ∃ W3, ((wr.setCell ⟨w.heap.size + 1, 0, none⟩ (.int .i64 (ep + 1))).setCell ⟨w.heap.size + 1, 1, none⟩ (.slice A4 N c4)) = W3 := ⟨_, rfl⟩
            rw [hW3] at p0 p1 HBE
            clear hb ho hx1 hx2 hbw hbe hno hO5 hb14
            go_wp2
            refine bodyPost_ret (v := .tuple #[.agg #[.int .i64 (ep + 1), .slice A4 N c4], .int .i64 0]) ?_ rfl ⟨_, rfl, HBE.out.2, HBE.out.1⟩
            simp [results, Try.results36, go_sem, p0, p1]
  · have h0' : (z == 0) = false := by simpa using h0
    have h0'' : (z != 0) = true := by simpa using h0
    obtain rfl : m = (0, [], z) := by rw [← Hm.out]; unfold goT; rw [Hz.out, if_pos h0]
    obtain ⟨p0, p1, hbe⟩ := go_res (.int .i64 0) (.slice none 0 0) HX2.out HW1.out
    have HBE := Lib.hid hbe
    obtain ⟨W3, hW3⟩ : ∃ W3, ((w1.setCell ⟨w.heap.size + 1, 0, none⟩ (.int .i64 0)).setCell ⟨w.heap.size + 1, 1, none⟩ (.slice none 0 0)) = W3 := ⟨_, rfl⟩
    rw [hW3] at p0 p1 HBE
    clear h0 hb1 hbe
    go_wp2
    refine bodyPost_ret (v := .tuple #[.agg #[.int .i64 0, .slice none 0 0], .int .i64 z]) ?_ rfl (MapPost.err z HBE.out)
    simp [results, Try.results36, go_sem, p0, p1]
end Go.Proofs.Ytefagaiaflddaaa

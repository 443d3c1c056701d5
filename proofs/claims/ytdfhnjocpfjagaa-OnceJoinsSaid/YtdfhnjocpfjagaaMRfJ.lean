/- The document's Join beside other tables. Condition: the tables are in memory, the document's say what the clients' pasts say. -/
import Derived.Test.YtdfhnjocpfjagaaRfC
import Derived.Test.YtdfhnjocpfjagaaStep
import Derived.Deep.RegionLaw
import Derived.Test.YtdfhnjocpfjagaaSpecRef
import Derived.Deep.RegionHeld3
import Derived.Test.YtdfhnjocpfjagaaObA
namespace Go.Proofs.Ytdfhnjocpfjagaa
open Go.RowKit

theorem refM_made (w w1 : World) (hw1 : w.alloc (.cells #[.slice none 0 0, .slice none 0 0] 78) = w1) : RefM w1.drew (addF (fun _ => False) w w1.drew) w.heap.size (.slice none 0 0) (.slice none 0 0) [] [] ∧ Below w.heap.size w w1.drew := by
  subst hw1
  have hb : Below w.heap.size w (w.alloc (.cells #[.slice none 0 0, .slice none 0 0] 78)) := below_box _
  have hx : Box (w.alloc (.cells #[.slice none 0 0, .slice none 0 0] 78)) w.heap.size 78 #[.slice none 0 0, .slice none 0 0] := Box.made _ _ _
  exact ⟨⟨.inr ⟨Nat.le_refl _, hx.lt⟩, (fun g hg => by cases hg), (fun g hg => by cases hg), fun i hi => hi.elim False.elim fun hi => hi.2, hx, OwnG.nil _ _, OwnG.nil _ _, by simp⟩, hb.drew⟩
section
variable {F : Nat → Prop} {w : World} {rb : Nat} {v u : Value} {L : List OE} {Q : List (Int × Int)}
set_option maxRecDepth 100000 in
set_option maxHeartbeats 6400000 in
theorem refCopy_any (h : RefM w F rb v u L Q) (hQ : Q.length ≤ 40000) (hL : L.length ≤ 40000) :
    Calls Try.prog 96 #[.pointer (some ⟨rb, 0, none⟩)] w fun e w' => ∃ cb, e = .returned (.pointer (some ⟨cb, 0, none⟩)) ∧ RefAt w' (addF (fun _ => False) w w') cb ⟨L.map OE.one, Q⟩ ∧ Below w.heap.size w w' := by
  obtain ⟨w1, hw1⟩ : ∃ w1, w.alloc (.cells #[.slice none 0 0, .slice none 0 0] 78) = w1 := ⟨_, rfl⟩
  obtain ⟨m1, b1⟩ := refM_made w w1 hw1
  obtain ⟨g, hg⟩ : ∃ g, w.heap.size = g := ⟨_, rfl⟩
  obtain ⟨⟨p0, p1⟩, -, -⟩ := h.cells
  obtain ⟨AL, dl, rfl, hLd, -, hLG⟩ := h.ones.slice
  obtain ⟨AQ, dq, rfl, hQd, -, hQG⟩ := h.fls.slice
  obtain ⟨M, hM⟩ : ∃ M, L.length = M := ⟨_, rfl⟩
  obtain ⟨N, hN⟩ : ∃ N, Q.length = N := ⟨_, rfl⟩
  rw [hM] at hLG p0 hL hLd
  rw [hN] at hQG p1 hQ hQd
  rw [hg] at m1
  have hgs : w.heap.size < w1.heap.size := by rw [← hw1]; simp
  have HL0 := Lib.hid hLG
  have HQ0 := Lib.hid hQG
  have HM := Lib.hid hM
  have HN := Lib.hid hN
  have HR := Lib.hid h.rows
  have Hg := Lib.hid hg
  have H1 := Lib.hid (And.intro m1 b1)
  have HP : Hid (∀ wx, Below w.heap.size w wx → wx.cell? ⟨rb, 0, none⟩ = some (.slice AL M dl) ∧ wx.cell? ⟨rb, 1, none⟩ = some (.slice AQ N dq)) := Lib.hid fun wx hx => ⟨(hx.cell h.box.lt).trans p0, (hx.cell h.box.lt).trans p1⟩
  obtain ⟨q0, q1⟩ := HP.out _ b1
  obtain ⟨⟨x0, x1⟩, y0, y1⟩ := m1.cells
  have HO := Lib.hid (World.ownsRow_nil w1.drew w1.drew.heap.size 133 7)
  have HLs := Lib.hid (hLG.belowOf b1 (Nat.le_refl _)).2
  clear h hLG hQG hM hN p0 p1 m1 b1 hg
  go_enter Try.func96, Try.ntmps96
  go_wp2
  rw [Hg.out]
  go_region_law (first | (refine step_append_hasN (by rfl) _ _ _ (by rfl) 133 oe_elem (by omega) Try.underlying75 (by rfl) HO.out (by rfl) HLs.out (gCells_one oe_cells _) (by simp only [maxLen]; omega) (by omega) (Nat.le_refl _) ?_; intro v7 w7 o7 g7 z7; rw [List.nil_append, Nat.zero_add] at o7; have b7 : Below w1.drew.heap.size w1.drew w7 := (Below.refl _ w1.drew).grown g7 (Nat.le_refl _) (fun g hg => by cases hg); have m7 := H1.out.1.below b7; obtain ⟨A7, c7, rfl, -, -, -⟩ := own_sliceN o7; have x7 := m7.cells.1.1; have y7 := m7.cells.2.1))
  all_goals
    have HA := Lib.hid (ref_putL (L' := L) H1.out.1 b7 (by rw [HM.out]; exact o7) (fun e he => (KV.of H1.out.2).own (HR.out e he)))
    obtain ⟨w8, hw8⟩ : ∃ w8, w7.setCell ⟨g, 0, none⟩ (.slice A7 M c7) = w8 := ⟨_, rfl⟩
    rw [hw8] at HA ⊢
    have H8 : Hid (RefM w8.drew (addF (fun _ => False) w w8.drew) g (.slice A7 M c7) (.slice none 0 0) L [] ∧ Below w.heap.size w w8.drew) := Lib.hid ⟨by
      have h8 := HA.out.1.two H1.out.2.size HA.out.2.1.size
      have e8 : addF (fun _ => False) w w8.drew = addF (fun _ => False) w w8 := rfl
      rw [e8]
      exact h8.below (Below.refl _ _).drew, (H1.out.2.trans (HA.out.2.1.below (fun i hi => by rw [hi, ← Hg.out]; exact Nat.le_refl _) H1.out.2.size)).drew⟩
    have HO2 := Lib.hid (World.ownsRow_nil w8.drew w8.drew.heap.size 142 2)
    have HQs := Lib.hid (HQ0.out.belowOf H8.out.2 (Nat.le_refl _)).2
    obtain ⟨r0, r1⟩ := HP.out _ H8.out.2
    obtain ⟨⟨x0', x1'⟩, y0', y1'⟩ := H8.out.1.cells
    clear q0 q1 x0 x1 y0 y1 g7 b7 m7 o7 z7 x7 y7 hw8 HO HLs
    go_wp2
    go_region_law (first | (refine step_append_hasN (by rfl) _ _ _ (by rfl) 142 fl_elem (by omega) Try.underlying76 (by rfl) HO2.out (by rfl) HQs.out (gCells_one fl_cells _) (by simp only [maxLen]; omega) (by omega) (Nat.le_refl _) ?_; intro v9 w9 o9 g9 z9; rw [List.nil_append, Nat.zero_add] at o9; have b9 : Below w8.drew.heap.size w8.drew w9 := (Below.refl _ w8.drew).grown g9 (Nat.le_refl _) (fun g hg => by cases hg); have m9 := H8.out.1.below b9; obtain ⟨A9, c9, rfl, -, -, -⟩ := own_sliceN o9; have x9 := m9.cells.1.2; have y9 := m9.cells.2.2))
    all_goals
      have HB := Lib.hid (ref_putQ (Q' := Q) H8.out.1 b9 (by rw [HN.out]; exact o9))
      obtain ⟨wZ, hwZ⟩ : ∃ wZ, w9.setCell ⟨g, 1, none⟩ (.slice A9 N c9) = wZ := ⟨_, rfl⟩
      rw [hwZ] at HB ⊢
      clear r0 r1 x0' x1' y0' y1' g9 b9 m9 o9 z9 x9 y9 hwZ HO2 HQs
      go_wp2
      go_ret
      exact ⟨g, rfl, ⟨_, _, L, HB.out.1.two H8.out.2.size HB.out.2.1.size, rfl⟩, H8.out.2.trans (HB.out.2.1.below (fun i hi => by rw [hi, ← Hg.out]; exact Nat.le_refl _) H8.out.2.size)⟩
end
end Go.Proofs.Ytdfhnjocpfjagaa

namespace Go.Proofs.Ytdfhnjocpfjagaa
open Go.RowKit

def joinQ (R : Rf) (Q : List (Int × Int)) : Rf := Q.foldl (fun R e => raiseR e.1 e.2 R) R
def stepJ (x : On) (R : Rf) : Rf := if (lookR x.1 x.2.1 R).2 = 7 then putR x R else R
/-- from the last to the first -/
def joinL (R : Rf) (L : List On) : Rf := L.foldr stepJ R
def joinR (a b : Rf) : Rf := joinL (joinQ a b.Q) b.L
/-- of what stands above f the greatest four, and the floor -/
def nn (f : Int) (U : List (Int × Rp)) : Pa := narrowT (riseT f ⟨0, U⟩)

theorem over_of {W : List (Int × Rp)} (h : RiseG W) {e : Int × Rp} (he : e ∈ W) (hl : (W.filter fun x => decide (e.1 < x.1)).length = 4) : over W = e.1 := by
  obtain ⟨i, hi, hie⟩ := List.mem_iff_getElem.1 he
  have hi' : W[i]? = some e := by rw [List.getElem?_eq_getElem hi, hie]
  rw [above_drop W i e h hi', List.length_drop] at hl
  have h5 : W.length - 5 = i := by omega
  unfold over numsG
  rw [h5, List.getD_eq_getElem?_getD, List.getElem?_map, hi']
  rfl
theorem over_mem {W : List (Int × Rp)} (h : RiseG W) (hl : 4 < W.length) : ∃ e ∈ W, over W = e.1 ∧ (W.filter fun x => decide (over W < x.1)).length = 4 := by
  obtain ⟨e, he, ho⟩ := over_at hl
  refine ⟨e, List.mem_of_getElem? he, ho, ?_⟩
  rw [ho, above_drop W _ e h he, List.length_drop]
  omega
theorem filt_get (f k : Int) (W : List (Int × Rp)) : getG k (W.filter fun x => decide (f < x.1)) = if f < k then getG k W else none := by
  rw [getG_filter (fun x => decide (f < x))]
  by_cases h : f < k <;> simp [h]
theorem filt_rise {f : Int} {W : List (Int × Rp)} (h : RiseG W) : RiseG (W.filter fun x => decide (f < x.1)) := List.Pairwise.filter _ h
theorem nn_le {f : Int} {U : List (Int × Rp)} (h : (U.filter fun x => decide (f < x.1)).length ≤ 4) : nn f U = ⟨f, U.filter fun x => decide (f < x.1)⟩ := by
  unfold nn narrowT riseT
  rw [if_neg (by simp only; omega)]
theorem nn_gt {f : Int} {U : List (Int × Rp)} (h : 4 < (U.filter fun x => decide (f < x.1)).length) : nn f U = ⟨over (U.filter fun x => decide (f < x.1)), (U.filter fun x => decide (f < x.1)).filter fun x => decide (over (U.filter fun x => decide (f < x.1)) < x.1)⟩ := by
  unfold nn narrowT riseT
  rw [if_pos (by simp only; omega)]
theorem nn_fl {f : Int} {U : List (Int × Rp)} (hU : RiseG U) : f ≤ (nn f U).fl ∧ RiseG (nn f U).E ∧ ∀ e ∈ (nn f U).E, (nn f U).fl < e.1 := by
  by_cases h : 4 < (U.filter fun x => decide (f < x.1)).length
  · rw [nn_gt h]
    obtain ⟨e, he, ho, -⟩ := over_mem (filt_rise hU) h
    refine ⟨?_, filt_rise (filt_rise hU), fun x hx => of_decide_eq_true (List.mem_filter.1 hx).2⟩
    have := of_decide_eq_true (List.mem_filter.1 he).2
    simp only
    omega
  · rw [nn_le (by omega)]
    exact ⟨Int.le_refl _, filt_rise hU, fun x hx => of_decide_eq_true (List.mem_filter.1 hx).2⟩
theorem nn_get {f : Int} {U : List (Int × Rp)} (hU : RiseG U) (n : Int) : getG n (nn f U).E = if (nn f U).fl < n then getG n U else none := by
  have h0 := (nn_fl (f := f) hU).1
  by_cases h : 4 < (U.filter fun x => decide (f < x.1)).length
  · rw [nn_gt h] at h0 ⊢
    simp only at h0 ⊢
    rw [filt_get, filt_get]
    by_cases h1 : over (U.filter fun x => decide (f < x.1)) < n
    · rw [if_pos h1, if_pos h1, if_pos (by omega)]
    · rw [if_neg h1, if_neg h1]
  · rw [nn_le (by omega)]
    exact filt_get _ _ _
/-- one more -/
theorem nn_step {f : Int} {U : List (Int × Rp)} {n : Int} {r : Rp} (hU : RiseG U) (hn : getG n U = none) : nn f (putG n r U) = if n ≤ (nn f U).fl then nn f U else narrowT ⟨(nn f U).fl, putG n r (nn f U).E⟩ := by
  have hV : RiseG (U.filter fun x => decide (f < x.1)) := filt_rise hU
  by_cases hf : n ≤ f
  · have h0 := (nn_fl (f := f) hU).1
    rw [if_pos (by omega)]
    have e : (putG n r U).filter (fun x => decide (f < x.1)) = U.filter fun x => decide (f < x.1) := extG (filt_rise (riseG_put hU)) hV fun k => by
      rw [filt_get, filt_get, getG_put]
      by_cases hk : f < k
      · rw [if_pos hk, if_pos hk, if_neg (by omega)]
      · rw [if_neg hk, if_neg hk]
    unfold nn riseT
    simp only [e]
  · have e : (putG n r U).filter (fun x => decide (f < x.1)) = putG n r (U.filter fun x => decide (f < x.1)) := extG (filt_rise (riseG_put hU)) (riseG_put hV) fun k => by
      rw [filt_get, getG_put, getG_put, filt_get]
      by_cases hk : f < k
      · rw [if_pos hk, if_pos hk]
      · rw [if_neg hk, if_neg hk, if_neg (by omega)]
    have hnV : getG n (U.filter fun x => decide (f < x.1)) = none := by rw [filt_get, hn]; simp
    have hlen : (putG n r (U.filter fun x => decide (f < x.1))).length = (U.filter fun x => decide (f < x.1)).length + 1 := by
      unfold putG
      rw [insG_len, delG_none hnV]
    have hP : nn f (putG n r U) = narrowT ⟨f, putG n r (U.filter fun x => decide (f < x.1))⟩ := by
      unfold nn riseT
      simp only [e]
    rw [hP]
    obtain ⟨V, hVe⟩ : ∃ V, (U.filter fun x => decide (f < x.1)) = V := ⟨_, rfl⟩
    by_cases hl : 4 < (U.filter fun x => decide (f < x.1)).length
    · rw [nn_gt hl]
      rw [hVe] at hV hnV hlen hl ⊢
      simp only
      obtain ⟨x, hx, hox, h4⟩ := over_mem hV hl
      have hxn : n ≠ over V := fun e => getG_none.1 hnV x hx (by omega)
      have hR := riseG_put (k := n) (a := r) hV
      have hN : narrowT ⟨f, putG n r V⟩ = ⟨over (putG n r V), (putG n r V).filter fun x => decide (over (putG n r V) < x.1)⟩ := by
        unfold narrowT riseT
        rw [if_pos (by simp only; omega)]
      rw [hN]
      by_cases ho : n ≤ over V
      · rw [if_pos ho]
        have e1 : ((putG n r V).filter fun x => decide (over V < x.1)) = V.filter fun x => decide (over V < x.1) := extG (filt_rise hR) (filt_rise hV) fun k => by
          rw [filt_get, filt_get, getG_put]
          by_cases hk : over V < k
          · rw [if_pos hk, if_pos hk, if_neg (by omega)]
          · rw [if_neg hk, if_neg hk]
        have e2 : over (putG n r V) = over V := by
          rw [hox]
          refine over_of hR (e := x) (mem_putG.2 (.inr ⟨hx, fun e => hxn (by omega)⟩)) ?_
          rw [← hox, e1]
          exact h4
        rw [e2, e1]
      · rw [if_neg ho]
        have hE : RiseG (V.filter fun x => decide (over V < x.1)) := filt_rise hV
        have hnE : getG n (V.filter fun x => decide (over V < x.1)) = none := by rw [filt_get, hnV]; simp
        have hE5 : (putG n r (V.filter fun x => decide (over V < x.1))).length = 5 := by
          unfold putG
          rw [insG_len, delG_none hnE, h4]
        obtain ⟨y, hy, hoy, hy4⟩ := over_mem (riseG_put (k := n) (a := r) hE) (by omega)
        have hgt : over V < y.1 := by
          rcases mem_putG.1 hy with rfl | ⟨hy, -⟩
          · simp only; omega
          · exact of_decide_eq_true (List.mem_filter.1 hy).2
        have e1 : ((putG n r V).filter fun x => decide (y.1 < x.1)) = (putG n r (V.filter fun x => decide (over V < x.1))).filter fun x => decide (y.1 < x.1) := extG (filt_rise hR) (filt_rise (riseG_put hE)) fun k => by
          rw [filt_get, filt_get, getG_put, getG_put, filt_get]
          by_cases hk : y.1 < k
          · rw [if_pos hk, if_pos hk, if_pos (show over V < k by omega)]
          · rw [if_neg hk, if_neg hk]
        have hyV : y ∈ putG n r V := by
          rcases mem_putG.1 hy with rfl | ⟨hy, hyn⟩
          · exact mem_putG.2 (.inl rfl)
          · exact mem_putG.2 (.inr ⟨(List.mem_filter.1 hy).1, hyn⟩)
        have e2 : over (putG n r V) = y.1 := by
          refine over_of hR hyV ?_
          rw [e1, ← hoy]
          exact hy4
        have hN2 : narrowT ⟨over V, putG n r (V.filter fun x => decide (over V < x.1))⟩ = ⟨y.1, (putG n r (V.filter fun x => decide (over V < x.1))).filter fun x => decide (y.1 < x.1)⟩ := by
          unfold narrowT riseT
          rw [if_pos (by simp only; omega)]
          simp only [hoy]
        rw [hN2, e2, e1]
    · rw [nn_le (by omega)]
      simp only
      rw [if_neg hf]

/-- the document's table says of each client what g says -/
structure RelF (R : Rf) (g : Int → Pa) : Prop where
  lex : Lex R.L
  rq : RiseG R.Q
  pos : ∀ e ∈ R.Q, 0 < e.2
  fl : ∀ c, flR c R.Q = (g c).fl
  E : ∀ c, sub c R.L = (g c).E
theorem RelF.of {R : Rf} {T : Tb} (h : Rel R T) : RelF R fun k => getT k T := ⟨h.lex, h.rq, h.pos, h.fl, h.E⟩
theorem RelF.to {R : Rf} {T : Tb} {g : Int → Pa} (h : RelF R g) (e : ∀ k, g k = getT k T) : Rel R T := ⟨h.lex, h.rq, h.pos, fun c => by rw [h.fl, e], fun c => by rw [h.E, e]⟩
theorem RelF.eq {R : Rf} {g g' : Int → Pa} (h : RelF R g) (e : ∀ k, g k = g' k) : RelF R g' := ⟨h.lex, h.rq, h.pos, fun c => by rw [h.fl, e], fun c => by rw [h.E, e]⟩
theorem RelF.raise {R : Rf} {g : Int → Pa} (h : RelF R g) {c f : Int} (hf : 0 < f) : RelF (raiseR c f R) fun k => if k = c then riseT (max f (g c).fl) (g c) else g k := by
  obtain ⟨r1, r2, r3, r4, r5⟩ := raise_rel (R := R) (c := c) (f := f) h.lex h.rq h.pos (.inl hf)
  refine ⟨r1, r2, r3, fun k => ?_, fun k => ?_⟩
  · rw [r4]
    by_cases hk : k = c
    · rw [if_pos hk, if_pos hk, h.fl]; rfl
    · rw [if_neg hk, if_neg hk, h.fl]
  · rw [r5]
    by_cases hk : k = c
    · rw [if_pos hk, if_pos hk, h.fl, h.E]; rfl
    · rw [if_neg hk, if_neg hk, h.E]
theorem RelF.put {R : Rf} {g : Int → Pa} (h : RelF R g) {c n : Int} {r : Rp} (h0 : 0 ≤ (g c).fl) (hE : ∀ e ∈ (g c).E, (g c).fl < e.1) (k3 : (g c).fl < n) (k4 : getG n (g c).E = none) :
    RelF (putR (c, n, r) R) fun k => if k = c then narrowT ⟨(g c).fl, putG n r (g c).E⟩ else g k := by
  have hnone : getG n (sub c R.L) = none := by rw [h.E]; exact k4
  have hlex : Lex (insR (c, n, r) R.L) := insR_lex h.lex fun e he hh => by
    have : (n, e.2.2) ∈ sub c R.L := sub_mem.2 (by
      have e0 : e = (c, n, e.2.2) := by obtain ⟨h1, h2⟩ := hh; simp only at h1 h2; rw [← h1, ← h2]
      rw [← e0]
      exact he)
    exact getG_none.1 hnone _ this rfl
  have hsub := fun k => sub_ins (x := (c, n, r)) h.lex hnone k
  simp only at hsub
  have hc : sub c (insR (c, n, r) R.L) = putG n r (g c).E := by rw [hsub c, if_pos rfl, h.E]
  unfold putR
  simp only
  rw [hc]
  by_cases hl : 4 < (putG n r (g c).E).length
  · rw [if_pos hl]
    have hover : (g c).fl < over (putG n r (g c).E) := by
      obtain ⟨e, he, ho⟩ := over_at hl
      rw [ho]
      rcases mem_putG.1 (List.mem_of_getElem? he) with rfl | ⟨he, -⟩
      · exact k3
      · exact hE e he
    obtain ⟨r1, r2, r3, r4, r5⟩ := raise_rel (R := ⟨insR (c, n, r) R.L, R.Q⟩) (c := c) (f := over (putG n r (g c).E)) hlex h.rq h.pos (.inl (by omega))
    simp only at r4 r5
    have hmx : max (over (putG n r (g c).E)) (flR c R.Q) = over (putG n r (g c).E) := by rw [h.fl]; omega
    refine ⟨r1, r2, r3, fun k => ?_, fun k => ?_⟩
    · rw [r4]
      unfold narrowT
      rw [if_pos hl]
      by_cases hk : k = c
      · rw [if_pos hk, if_pos hk, hmx]; rfl
      · rw [if_neg hk, if_neg hk, h.fl]
    · rw [r5]
      unfold narrowT
      rw [if_pos hl]
      by_cases hk : k = c
      · rw [if_pos hk, if_pos hk, hmx, hc]; rfl
      · rw [if_neg hk, if_neg hk, hsub k, if_neg hk, h.E]
  · rw [if_neg hl]
    refine ⟨hlex, h.rq, h.pos, fun k => ?_, fun k => ?_⟩
    · unfold narrowT
      rw [if_neg hl]
      by_cases hk : k = c
      · rw [if_pos hk, hk]; exact h.fl c
      · rw [if_neg hk]; exact h.fl k
    · unfold narrowT
      rw [if_neg hl]
      by_cases hk : k = c
      · rw [if_pos hk, hk]; exact hc
      · rw [if_neg hk]
        show sub k (insR (c, n, r) R.L) = _
        rw [hsub k, if_neg hk, h.E]
theorem relF_joinQ : ∀ {Q : List (Int × Int)} {R : Rf} {g : Int → Pa}, RelF R g → RiseG Q → (∀ e ∈ Q, 0 < e.2) → RelF (joinQ R Q) fun k => match getG k Q with | some f => riseT (max f (g k).fl) (g k) | none => g k
  | [], _, _, h, _, _ => h
  | e :: Q, R, g, h, hQ, hp => by
    obtain ⟨h1, h2⟩ := List.pairwise_cons.1 hQ
    have ih := relF_joinQ (Q := Q) (h.raise (c := e.1) (f := e.2) (hp e (by simp))) h2 fun x hx => hp x (by simp [hx])
    refine ih.eq fun k => ?_
    rw [getG_cons]
    by_cases hk : k = e.1
    · have : getG k Q = none := getG_none.2 fun q hq => by have := h1 q hq; omega
      rw [this, if_pos hk.symm, if_pos hk]
      simp only [hk]
    · simp only [if_neg hk]
      rw [if_neg (fun e' => hk e'.symm)]
theorem look7 {c n : Int} {R : Rf} {g : Int → Pa} (h : RelF R g) (hb : ¬ badT c n) : (lookR c n R).2 = if n ≤ (g c).fl then 12 else if (getG n (g c).E).isSome then 0 else 7 := by
  unfold lookR
  rw [if_neg hb, h.fl, h.E]
  split
  · rfl
  · cases getG n (g c).E <;> rfl
theorem relF_joinL {R : Rf} {g : Int → Pa} {M : Int → Int} {A : Int → List (Int × Rp)} (h : RelF R g) (hg : ∀ k, g k = nn (M k) (A k)) (hM : ∀ k, 0 ≤ M k) (hA : ∀ k, RiseG (A k)) :
    ∀ {L : List On}, Lex L → (∀ x ∈ L, ¬ badT x.1 x.2.1) → RelF (joinL R L) fun k => nn (M k) (unionA (A k) (sub k L))
  | [], _, _ => h.eq fun k => by
    rw [hg]
    have : unionA (A k) (sub k []) = A k := extG (unionA_rise _ _ List.Pairwise.nil) (hA k) fun n => by
      rw [sub_nil, unionA_get n _ _ (hA k)]
      simp [getG_nil]
    rw [this]
  | x :: L, hL, hb => by
    obtain ⟨c, n, r⟩ := x
    obtain ⟨h1, h2⟩ := List.pairwise_cons.1 hL
    have ih := relF_joinL h hg hM hA h2 fun x hx => hb x (by simp [hx])
    have hS : RiseG (sub c L) := sub_rise h2 c
    have hS1 : RiseG (sub c ((c, n, r) :: L)) := sub_rise hL c
    have hn : getG n (sub c L) = none := getG_none.2 fun e he => by
      have hm := sub_mem.1 he
      have := h1 _ hm
      simp only at this
      omega
    have hsub : ∀ k, sub k ((c, n, r) :: L) = if k = c then (n, r) :: sub c L else sub k L := fun k => by
      rw [sub_cons]
      by_cases hk : k = c
      · subst hk; simp
      · rw [if_neg hk, if_neg (fun e => hk e.symm)]
    have hU : RiseG (unionA (A c) (sub c L)) := unionA_rise _ _ hS
    have hlook := look7 (c := c) (n := n) ih (hb (c, n, r) (by simp))
    have e0 : joinL R ((c, n, r) :: L) = stepJ (c, n, r) (joinL R L) := rfl
    have hfl := nn_fl (f := M c) hU
    have hM0 := hM c
    rw [e0]
    unfold stepJ
    simp only
    rw [hlook]
    by_cases hA1 : (getG n (A c)).isSome
    · have hUe : unionA (A c) (sub c ((c, n, r) :: L)) = unionA (A c) (sub c L) := extG (unionA_rise _ _ hS1) hU fun k => by
        rw [unionA_get k _ _ (hA c), unionA_get k _ _ (hA c), hsub, if_pos rfl, getG_cons]
        by_cases hk : n = k
        · subst hk
          obtain ⟨y, hy⟩ := Option.isSome_iff_exists.1 hA1
          rw [hy]; rfl
        · rw [if_neg hk]
      have hne : ¬ ((if n ≤ (nn (M c) (unionA (A c) (sub c L))).fl then (12 : Int) else if (getG n (nn (M c) (unionA (A c) (sub c L))).E).isSome then 0 else 7) = 7) := by
        split
        · decide
        · next hlt =>
          have : (getG n (nn (M c) (unionA (A c) (sub c L))).E).isSome := by
            rw [nn_get hU, if_pos (by omega), unionA_get n _ _ (hA c)]
            obtain ⟨y, hy⟩ := Option.isSome_iff_exists.1 hA1
            rw [hy]; rfl
          rw [if_pos this]
          decide
      rw [if_neg hne]
      refine ih.eq fun k => ?_
      by_cases hk : k = c
      · subst hk; rw [hUe]
      · rw [hsub, if_neg hk]
    · have hAn : getG n (A c) = none := by cases hq : getG n (A c) with | none => rfl | some y => rw [hq] at hA1; exact absurd rfl hA1
      have hUn : getG n (unionA (A c) (sub c L)) = none := by rw [unionA_get n _ _ (hA c), hAn, hn]; rfl
      have hUe : unionA (A c) (sub c ((c, n, r) :: L)) = putG n r (unionA (A c) (sub c L)) := extG (unionA_rise _ _ hS1) (riseG_put hU) fun k => by
        rw [unionA_get k _ _ (hA c), getG_put, unionA_get k _ _ (hA c), hsub, if_pos rfl, getG_cons]
        by_cases hk : n = k
        · subst hk
          rw [hAn, if_pos rfl, if_pos rfl]; rfl
        · rw [if_neg hk, if_neg hk]
      have hst := nn_step (f := M c) (n := n) (r := r) hU hUn
      have hEn : getG n (nn (M c) (unionA (A c) (sub c L))).E = none := by rw [nn_get hU, hUn]; simp
      rw [hEn]
      by_cases hlt : n ≤ (nn (M c) (unionA (A c) (sub c L))).fl
      · rw [if_pos hlt] at hst ⊢
        rw [if_neg (by decide)]
        refine ih.eq fun k => ?_
        by_cases hk : k = c
        · subst hk; rw [hUe, hst]
        · rw [hsub, if_neg hk]
      · rw [if_neg hlt] at hst ⊢
        rw [if_pos (by decide)]
        refine (ih.put (c := c) (n := n) (r := r) (by omega) hfl.2.2 (by omega) hEn).eq fun k => ?_
        by_cases hk : k = c
        · subst hk
          rw [if_pos rfl, hUe, hst]
        · rw [if_neg hk, hsub, if_neg hk]
theorem rel_notBad {B : Rf} {T : Tb} (hB : Rel B T) (hT : TGood T) : ∀ x ∈ B.L, ¬ badT x.1 x.2.1 := fun x hx => by
  have h1 : x.2 ∈ sub x.1 B.L := sub_mem.2 hx
  rw [hB.E] at h1
  have h2 := (hT.get x.1).num _ h1
  have h3 := (hT.get x.1).fl
  have h4 : 0 ≤ x.1 ∧ x.1 ≤ 1099511627776 := by
    cases hg : getG x.1 T with
    | none =>
      unfold getT at h1
      rw [hg] at h1
      cases h1
    | some p => exact (hT.cl _ (getG_mem hg)).1
  unfold badT
  omega
/-- the floors raised, some of the answers taken in -/
theorem join_mid {A B : Rf} {S T : Tb} (hA : Rel A S) (hB : Rel B T) (hS : TGood S) (hT : TGood T) {L : List On} (hL : Lex L) (hsub : ∀ x ∈ L, x ∈ B.L) :
    RelF (joinL (joinQ A B.Q) L) fun k => nn (max (getT k S).fl (getT k T).fl) (unionA (getT k S).E (sub k L)) := by
  have h1 := relF_joinQ (RelF.of hA) hB.rq hB.pos
  exact relF_joinL h1 (M := fun k => max (getT k S).fl (getT k T).fl) (A := fun k => (getT k S).E) (fun k => by
      have hk := hS.get k
      have hkT := (hT.get k).fl
      have hfl := hB.fl k
      have hlen : ((getT k S).E.filter fun x => decide (max (getT k S).fl (getT k T).fl < x.1)).length ≤ 4 := Nat.le_trans (List.length_filter_le _ _) hk.len
      rw [nn_le hlen]
      unfold flR at hfl
      cases hg : getG k B.Q with
      | some f =>
        rw [hg] at hfl
        simp only [Option.getD_some] at hfl
        unfold riseT
        simp only
        rw [hfl, Int.max_comm]
      | none =>
        rw [hg] at hfl
        simp only [Option.getD_none] at hfl
        simp only
        have hmx : max (getT k S).fl (getT k T).fl = (getT k S).fl := by have := hk.fl; omega
        rw [hmx]
        have : (getT k S).E.filter (fun e => decide ((getT k S).fl < e.1)) = (getT k S).E := List.filter_eq_self.2 fun e he => by simp; exact (hk.num e he).1.1
        rw [this]) (fun k => by have := (hS.get k).fl; have := (hT.get k).fl; show 0 ≤ max (getT k S).fl (getT k T).fl; omega) (fun k => (hS.get k).rise) hL fun x hx => rel_notBad hB hT x (hsub x hx)
/-- the document's Join says what the clients' pasts, joined, say -/
theorem join_rel {A B : Rf} {S T : Tb} (hA : Rel A S) (hB : Rel B T) (hS : TGood S) (hT : TGood T) : Rel (joinR A B) (joinT S T) := by
  have h2 := join_mid hA hB hS hT hB.lex fun _ h => h
  refine h2.to fun k => ?_
  rw [joinT_get k T S hT.rise, hB.E]
  unfold nn
  cases hg : getG k T with
  | some p =>
    have : getT k T = p := by unfold getT; rw [hg]; rfl
    rw [this]
    rfl
  | none =>
    have : getT k T = Pa.zero := by unfold getT; rw [hg]; rfl
    rw [this]
    exact joinP_zero (hS.get k)
theorem joinQ_at {A B : Rf} {S T : Tb} (hA : Rel A S) (hB : Rel B T) (j : Nat) : ∃ g, RelF (joinQ A (B.Q.take j)) g :=
  ⟨_, relF_joinQ (RelF.of hA) (List.Pairwise.sublist (List.take_sublist _ _) hB.rq) fun e he => hB.pos e (List.mem_of_mem_take he)⟩
theorem joinL_at {A B : Rf} {S T : Tb} (hA : Rel A S) (hB : Rel B T) (hS : TGood S) (hT : TGood T) (j : Nat) : ∃ g, RelF (joinL (joinQ A B.Q) (B.L.drop j)) g :=
  ⟨_, join_mid hA hB hS hT (List.Pairwise.sublist (List.drop_sublist _ _) hB.lex) fun _ h => List.mem_of_mem_drop h⟩
theorem joinQ_succ {R : Rf} {Q : List (Int × Int)} {j : Nat} {e : Int × Int} (he : Q[j]? = some e) : joinQ R (Q.take (j + 1)) = raiseR e.1 e.2 (joinQ R (Q.take j)) := by
  unfold joinQ
  rw [List.take_add_one, he, List.foldl_append]
  rfl
theorem joinL_pred {R : Rf} {L : List On} {j : Nat} {e : On} (he : L[j]? = some e) : joinL R (L.drop j) = stepJ e (joinL R (L.drop (j + 1))) := by
  have hj := (List.getElem?_eq_some_iff.1 he).1
  unfold joinL
  rw [List.drop_eq_getElem_cons hj, (List.getElem?_eq_some_iff.1 he).2]
  rfl
theorem raise_len (c f : Int) (R : Rf) : (raiseR c f R).L.length ≤ R.L.length ∧ (raiseR c f R).Q.length ≤ R.Q.length + 1 := by
  unfold raiseR
  split
  · exact ⟨List.length_filter_le _ _, putG_len _ _ _⟩
  · exact ⟨List.length_filter_le _ _, Nat.le_succ _⟩
theorem ins_len (x : On) : ∀ L : List On, (insR x L).length = L.length + 1
  | [] => rfl
  | e :: l => by
    unfold insR
    split
    · rw [List.length_cons, ins_len x l, List.length_cons]
    · rfl
theorem stepJ_len (x : On) (R : Rf) : (stepJ x R).L.length ≤ R.L.length + 1 ∧ (stepJ x R).Q.length ≤ R.Q.length + 1 := by
  unfold stepJ putR
  split
  · split
    · have := raise_len x.1 (over (sub x.1 (insR x R.L))) ⟨insR x R.L, R.Q⟩
      simp only [ins_len] at this
      exact this
    · exact ⟨Nat.le_of_eq (ins_len _ _), Nat.le_succ _⟩
  · omega
theorem joinQ_len : ∀ (Q : List (Int × Int)) (R : Rf), (joinQ R Q).L.length ≤ R.L.length ∧ (joinQ R Q).Q.length ≤ R.Q.length + Q.length
  | [], R => ⟨Nat.le_refl _, Nat.le_refl _⟩
  | e :: Q, R => by
    have h1 := joinQ_len Q (raiseR e.1 e.2 R)
    have h2 := raise_len e.1 e.2 R
    have e0 : joinQ R (e :: Q) = joinQ (raiseR e.1 e.2 R) Q := rfl
    rw [e0, List.length_cons]
    omega
theorem joinL_len (R : Rf) : ∀ (L : List On), (joinL R L).L.length ≤ R.L.length + L.length ∧ (joinL R L).Q.length ≤ R.Q.length + L.length
  | [] => ⟨Nat.le_refl _, Nat.le_refl _⟩
  | x :: L => by
    have h1 := joinL_len R L
    have h2 := stepJ_len x (joinL R L)
    have e0 : joinL R (x :: L) = stepJ x (joinL R L) := rfl
    rw [e0, List.length_cons]
    omega
end Go.Proofs.Ytdfhnjocpfjagaa

namespace Go.Proofs.Ytdfhnjocpfjagaa
open Go.RowKit

section
variable {F : Nat → Prop} {w w1 w2 : World} {rb : Nat} {R : Rf}
theorem RefAt.two (h : RefAt w2 (addF (addF F w w1) w1 w2) rb R) (h1 : w.heap.size ≤ w1.heap.size) (h2 : w1.heap.size ≤ w2.heap.size) : RefAt w2 (addF F w w2) rb R := by
  obtain ⟨v, u, L, m, e⟩ := h
  exact ⟨v, u, L, m.two h1 h2, e⟩
theorem RefAt.bel (h : RefAt w (addF F w1 w) rb R) (hb : Below w.heap.size w w2) (hF : ∀ i, F i → i < w1.heap.size) (h1 : w1.heap.size ≤ w.heap.size) : RefAt w2 (addF F w1 w2) rb R := by
  obtain ⟨v, u, L, m, e⟩ := h
  exact ⟨v, u, L, (m.below hb).mono (fun i hi => hi.elim .inl fun hi => .inr ⟨hi.1, Nat.lt_of_lt_of_le hi.2 hb.size⟩) (fun i hi => hi.elim (fun hi => by have := hF i hi; have := hb.size; omega) fun hi => hi.2), e⟩
/-- one call of the document's on the new table -/
theorem ref_on (h : RefAt w (addF (fun _ => False) w1 w) rb R) (h1 : Below w1.heap.size w1 w) {R' : Rf} {e : Ending} {w2 : World} (hp : RefPost (addF (fun _ => False) w1 w) rb R' w e w2) : RefAt w2 (addF (fun _ => False) w1 w2) rb R' ∧ Below w1.heap.size w1 w2 := by
  obtain ⟨v, u, L, m, -⟩ := h
  obtain ⟨-, r2, k2, -⟩ := hp
  exact ⟨r2.two h1.size k2.size, h1.trans (k2.below (fun i hi => by rw [hi]; exact m.rF.elim False.elim fun q => q.1) h1.size)⟩
theorem s_raise (h : RefAt w F rb R) (hQ : R.Q.length ≤ 50000) (hL : R.L.length ≤ 50000) (hr : RiseG R.Q) (c f : Int) : Calls Try.prog 97 #[.pointer (some ⟨rb, 0, none⟩), .int .i64 c, .int .i64 f] w (RefPost F rb (raiseR c f R) w) := by
  obtain ⟨v, u, L, m, e⟩ := h
  have h3 := refRaise_any m hQ (by have := congrArg List.length e; rw [List.length_map] at this; omega) hr c f
  rw [e] at h3
  exact h3
theorem s_look17 (h : RefAt w F rb R) (hQ : R.Q.length ≤ 50000) (hL : R.L.length ≤ 50000) (hr : RiseG R.Q) (c n : Int) : Calls Try.prog 51 #[.pointer (some ⟨rb, 0, none⟩), .int .i64 c, .int .i64 n] w (RefLook (lookR c n R) w) := by
  obtain ⟨v, u, L, m, e⟩ := h
  have h3 := refLook_any m (by omega) (by have := congrArg List.length e; rw [List.length_map] at this; omega) hr c n
  rw [e] at h3
  exact h3
theorem s_put17 (h : RefAt w F rb R) (hQ : R.Q.length ≤ 40000) (hL : R.L.length ≤ 40000) (hr : RiseG R.Q) (hlex : Lex R.L) (x : OE) (hx : OwnVals w 0 (.slice x.A x.p.rc.length x.d) x.p.rc) :
    Calls Try.prog 93 #[.pointer (some ⟨rb, 0, none⟩), .agg #[.int .i64 x.c, .int .i64 x.n, .int .i64 x.p.code, .bool x.p.there, .slice x.A x.p.rc.length x.d, .slice x.X 0 x.y, .int .i64 x.p.id]] w (RefPost F rb (putR x.one R) w) := by
  obtain ⟨v, u, L, m, e⟩ := h
  have h3 := refPutO_any m hQ (by have := congrArg List.length e; rw [List.length_map] at this; omega) hr (by rw [e]; exact hlex) x hx
  rw [e] at h3
  exact h3
end
theorem setR5 {B g : Nat} {w0 w1 : World} {x0 x1 x2 x3 x4 : Value} (h : Below B w0 w1) (hg : B ≤ g) : Below B w0 (((((w1.setCell ⟨g, 0, none⟩ (x0)).setCell ⟨g, 1, none⟩ (x1)).setCell ⟨g, 2, none⟩ (x2)).setCell ⟨g, 3, none⟩ (x3)).setCell ⟨g, 4, none⟩ (x4)) := ((((h.setCell hg _).setCell hg _).setCell hg _).setCell hg _).setCell hg _
set_option maxRecDepth 100000 in
set_option maxHeartbeats 12800000 in
theorem refJoin_any {F G : Nat → Prop} {w : World} {ra rb : Nat} {va ua vb ub : Value} {LA LB : List OE} {QA QB : List (Int × Int)} {S T : Tb} (hA : RefM w F ra va ua LA QA) (hB : RefM w G rb vb ub LB QB) (rA : Rel ⟨LA.map OE.one, QA⟩ S) (rB : Rel ⟨LB.map OE.one, QB⟩ T) (gS : TGood S) (gT : TGood T)
    (hl : LA.length ≤ 10000 ∧ QA.length ≤ 10000 ∧ LB.length ≤ 10000 ∧ QB.length ≤ 10000) :
    Calls Try.prog 57 #[.pointer (some ⟨ra, 0, none⟩), .pointer (some ⟨rb, 0, none⟩)] w fun e w' => ∃ cb, e = .returned (.pointer (some ⟨cb, 0, none⟩)) ∧ RefAt w' (addF (fun _ => False) w w') cb (joinR ⟨LA.map OE.one, QA⟩ ⟨LB.map OE.one, QB⟩) ∧ Below w.heap.size w w' := by
  have Hcp := Lib.hid (refCopy_any hA (by omega) (by omega))
  obtain ⟨⟨p0, p1⟩, -, -⟩ := hB.cells
  obtain ⟨AL, dl, rfl, -, -, hLG⟩ := hB.ones.slice
  obtain ⟨AQ, dq, rfl, -, -, hQG⟩ := hB.fls.slice
  have HRows := Lib.hid hB.rows
  have HQat := Lib.hid (joinQ_at rA rB)
  have HLat := Lib.hid (joinL_at rA rB gS gT)
  obtain ⟨RA, hRA⟩ : ∃ RA : Rf, (⟨LA.map OE.one, QA⟩ : Rf) = RA := ⟨_, rfl⟩
  have hlen : RA.L.length ≤ 10000 ∧ RA.Q.length ≤ 10000 := by rw [← hRA]; simp only [List.length_map]; omega
  have HlQ := Lib.hid fun j => joinQ_len (QB.take j) RA
  have HlL := Lib.hid fun j => joinL_len (joinQ RA QB) ((LB.map OE.one).drop j)
  have HlQ0 := Lib.hid (joinQ_len QB RA)
  have HP : Hid (∀ wx, Below w.heap.size w wx → wx.cell? ⟨rb, 0, none⟩ = some (.slice AL LB.length dl) ∧ wx.cell? ⟨rb, 1, none⟩ = some (.slice AQ QB.length dq)) := Lib.hid fun wx hx => ⟨(hx.cell hB.box.lt).trans p0, (hx.cell hB.box.lt).trans p1⟩
  have HKV : Hid (∀ wx, Below w.heap.size w wx → ∀ e ∈ LB, OwnVals wx 0 (.slice e.A e.p.rc.length e.d) e.p.rc) := Lib.hid fun wx hx e he => (KV.of hx).own (hB.rows e he)
  rw [hRA] at HQat HLat Hcp ⊢
  simp only at HQat HLat
  have HLG := Lib.hid hLG
  have HQG := Lib.hid hQG
  have HJ : Hid (joinR RA ⟨LB.map OE.one, QB⟩ = joinL (joinQ RA QB) (LB.map OE.one)) := Lib.hid rfl
  rw [HJ.out]
  obtain ⟨M, hM⟩ : ∃ M, LB.length = M := ⟨_, rfl⟩
  obtain ⟨N, hN⟩ : ∃ N, QB.length = N := ⟨_, rfl⟩
  rw [hM] at HLG HP hl
  rw [hN] at HQG HP hl
  have HM := Lib.hid hM
  have HN := Lib.hid hN
  obtain ⟨hl1, hl2, hl3, hl4⟩ := hl
  clear hA hB rA rB gS gT p0 p1 hLG hQG hM hN hRA HJ
  go_enter Try.func57, Try.ntmps57
  go_wp2_with fail
  refine Hcp.out.mono ?_
  rintro e w1 ⟨cb, rfl, r1, b1⟩
  have H1 : Hid (RefAt w1 (addF (fun _ => False) w w1) cb (joinQ RA (QB.take 0)) ∧ Below w.heap.size w w1) := Lib.hid ⟨r1, b1⟩
  clear r1 b1 Hcp
  go_wp2
  go_loopw [6] (fun iv wr => ∃ j : Nat, j ≤ N ∧ iv = .int .i64 (j : Int) ∧ Hid (RefAt wr (addF (fun _ => False) w wr) cb (joinQ RA (QB.take j)) ∧ Below w.heap.size w wr)) (fun iv _ => N - (intOf iv).toNat)
  case atStart => exact ⟨0, by omega, rfl, H1⟩
  case round =>
    obtain ⟨j, hj, rfl, HR⟩ := hrel
    clear H1
    obtain ⟨-, q1⟩ := HP.out _ HR.out.2
    by_cases hlt : j < N
    · have hj0 : (0 : Int) ≤ (j : Int) := by omega
      have hj1 : (j : Int) < (N : Int) := by omega
      obtain ⟨a, e, rfl, hab, he, -, -⟩ := fl_cell HQG.out hlt
      have HC : Hid (∀ wx, Below w.heap.size w wx → wx.cell? ⟨rb, 1, none⟩ = some (.slice (some a) N dq) ∧ (wx.cell? (a.add (j * 2)) = some (.int .i64 e.1) ∧ wx.cell? ⟨(a.add (j * 2)).block, (a.add (j * 2)).off + 1, none⟩ = some (.int .i64 e.2))) := Lib.hid fun wx hx => ⟨(HP.out wx hx).2, fl_fix HQG.out hlt he wx hx⟩
      have HS : Hid (joinQ RA (QB.take (j + 1)) = raiseR e.1 e.2 (joinQ RA (QB.take j))) := Lib.hid (joinQ_succ he)
      have hbd : Below wr.heap.size wr wr.drew := (Below.refl _ _).drew
      have HD := Lib.hid (And.intro (HR.out.1.bel hbd (fun i hi => hi.elim) HR.out.2.size) (HR.out.2.trans (hbd.mono HR.out.2.size)))
      have hQl : (QB.take j).length ≤ N := by rw [List.length_take]; omega
      have HRz := Lib.hid (s_raise HD.out.1 (by have := HlQ.out j; omega) (by have := HlQ.out j; omega) (by obtain ⟨g, hg⟩ := HQat.out j; exact hg.rq) e.1 e.2)
      clear he hbd hQl
      go_wp2
      go_region_held3 (fun wx => wx.cell? ⟨rb, 1, none⟩ = some (.slice (some a) N dq) ∧ (wx.cell? (a.add (j * 2)) = some (.int .i64 e.1) ∧ wx.cell? ⟨(a.add (j * 2)).block, (a.add (j * 2)).off + 1, none⟩ = some (.int .i64 e.2)))
        (first | exact HC.out _ HD.out.2 | exact HC.out _ h2.2)
        (first | (go_at_call 97; refine HRz.out.mono ?_; rintro e' w2 hp; have h2 := ref_on HD.out.1 HD.out.2 hp; obtain ⟨rfl, -⟩ := hp))
      have HE := Lib.hid h2
      clear h2
      go_wp2
      go_roundw
      case rel => exact ⟨j + 1, by omega, by go_num, Lib.hid (by rw [HS.out]; exact HE.out)⟩
      case measure => simp [intOf] <;> omega
    · obtain rfl : j = N := by omega
      obtain ⟨q0, -⟩ := HP.out _ HR.out.2
      have HR0 : Hid (RefAt wr (addF (fun _ => False) w wr) cb (joinL (joinQ RA QB) ((LB.map OE.one).drop M)) ∧ Below w.heap.size w wr) := Lib.hid (by
        have h1 := HR.out
        rw [List.take_of_length_le (by have := HN.out; omega)] at h1
        rw [List.drop_eq_nil_of_le (by rw [List.length_map]; have := HM.out; omega)]
        exact h1)
      clear HR HQat HlQ
      go_wp2
      clear q0 q1
      go_loopw [7] (fun iv wr => ∃ k : Nat, k ≤ M ∧ iv = .int .i64 ((k : Int) - 1) ∧ Hid (RefAt wr (addF (fun _ => False) w wr) cb (joinL (joinQ RA QB) ((LB.map OE.one).drop k)) ∧ Below w.heap.size w wr)) (fun iv _ => (intOf iv + 1).toNat)
      case atStart => exact ⟨M, by omega, by go_num, HR0⟩
      case round =>
        obtain ⟨k, hk, rfl, HR⟩ := hrel
        clear HR0
        cases k with
        | zero =>
          have hz : ¬ (0 : Int) ≤ ((0 : Nat) : Int) - 1 := by omega
          have HE : Hid (RefAt wr (addF (fun _ => False) w wr) cb (joinL (joinQ RA QB) (LB.map OE.one)) ∧ Below w.heap.size w wr) := Lib.hid (by have h1 := HR.out; rwa [List.drop_zero] at h1)
          go_wp2
          go_ret
          exact ⟨cb, rfl, HE.out.1, HE.out.2⟩
        | succ k =>
          rw [show ((k + 1 : Nat) : Int) - 1 = (k : Int) by omega]
          have hk0 : (0 : Int) ≤ (k : Int) := by omega
          have hk1 : (k : Int) < (M : Int) := by omega
          obtain ⟨a, e, rfl, hab, he, -⟩ := oe_cell HLG.out (show k < M by omega)
          have HX := Lib.hid (oe_fix HLG.out (show k < M by omega) he)
          have HC : Hid (∀ wx, Below wr.heap.size wr wx → wx.cell? ⟨rb, 0, none⟩ = some (.slice (some a) M dl) ∧ (wx.cell? (a.add (k * 7)) = some (.int .i64 e.c) ∧ wx.cell? ⟨(a.add (k * 7)).block, (a.add (k * 7)).off + 1, none⟩ = some (.int .i64 e.n))) := Lib.hid fun wx hx => by
            have hx2 := HR.out.2.trans (hx.mono HR.out.2.size)
            exact ⟨(HP.out wx hx2).1, (HX.out wx hx2).1, (HX.out wx hx2).2.1⟩
          have HS : Hid (joinL (joinQ RA QB) ((LB.map OE.one).drop k) = stepJ e.one (joinL (joinQ RA QB) ((LB.map OE.one).drop (k + 1)))) := Lib.hid (joinL_pred (by rw [List.getElem?_map, he]; rfl))
          have HOw : Hid (∀ wx, Below w.heap.size w wx → OwnVals wx 0 (.slice e.A e.p.rc.length e.d) e.p.rc) := Lib.hid fun wx hx => HKV.out wx hx e (List.mem_of_getElem? he)
          obtain ⟨RJ, hRJ⟩ : ∃ RJ, joinL (joinQ RA QB) ((LB.map OE.one).drop (k + 1)) = RJ := ⟨_, rfl⟩
          have HRJ : Hid ((RJ.L.length ≤ 40000 ∧ RJ.Q.length ≤ 40000) ∧ RiseG RJ.Q ∧ Lex RJ.L) := Lib.hid (by
            obtain ⟨g, hg⟩ := HLat.out (k + 1)
            have h1 := HlL.out (k + 1)
            have h2 := HlQ0.out
            have h3 : ((LB.map OE.one).drop (k + 1)).length ≤ M := by rw [List.length_drop, List.length_map]; have := HM.out; omega
            rw [hRJ] at hg h1
            exact ⟨by have := HN.out; omega, hg.rq, hg.lex⟩)
          rw [hRJ] at HR HS
          have HLook := Lib.hid (fun wx (hx : Below wr.heap.size wr wx) => s_look17 (HR.out.1.bel hx (fun i hi => hi.elim) HR.out.2.size) (by have := HRJ.out.1; omega) (by have := HRJ.out.1; omega) HRJ.out.2.1 e.c e.n)
          obtain ⟨⟨⟨rc0, rt0, rr0, ri0⟩, z⟩, hz⟩ : ∃ R, lookR e.c e.n RJ = R := ⟨_, rfl⟩
          rw [hz] at HLook
          have HZ : Hid (stepJ e.one RJ = if z = 7 then putR e.one RJ else RJ) := Lib.hid (by
            unfold stepJ
            have h1 : (lookR e.one.1 e.one.2.1 RJ).2 = z := congrArg (·.2) hz
            rw [h1])
          clear hRJ hz he
          obtain ⟨gr, hgr⟩ : ∃ gr, wr.heap.size = gr := ⟨_, rfl⟩
          have hg9 : wr.heap.size ≤ gr := Nat.le_of_eq hgr
          have HD : Hid (Below wr.heap.size wr wr.drew) := Lib.hid ((Below.refl _ wr).drew)
          obtain ⟨wA, hwA⟩ : ∃ wA, (wr.alloc (.cells #[.int .i64 0, .bool false, .slice none 0 0, .slice none 0 0, .int .i64 0] 82)).drew = wA := ⟨_, rfl⟩
          have uA : Below wr.heap.size wr wA := hwA ▸ (below_box (w := wr) (.cells #[.int .i64 0, .bool false, .slice none 0 0, .slice none 0 0, .int .i64 0] 82)).drew
          have xA : Box wA gr 82 #[.int .i64 0, .bool false, .slice none 0 0, .slice none 0 0, .int .i64 0] := hgr ▸ hwA ▸ (Box.made _ _ _ : Box (wr.alloc (.cells #[.int .i64 0, .bool false, .slice none 0 0, .slice none 0 0, .int .i64 0] 82)) wr.heap.size 82 #[.int .i64 0, .bool false, .slice none 0 0, .slice none 0 0, .int .i64 0])
          have HDA := Lib.hid (And.intro uA xA)
          clear uA xA
          go_wp2
          go_region_held3 (fun wx => wx.cell? ⟨rb, 0, none⟩ = some (.slice (some a) M dl) ∧ (wx.cell? (a.add (k * 7)) = some (.int .i64 e.c) ∧ wx.cell? ⟨(a.add (k * 7)).block, (a.add (k * 7)).off + 1, none⟩ = some (.int .i64 e.n)))
            (first | exact HC.out _ HD.out | exact HC.out _ HDA.out.1 | (rw [hwA]; exact HC.out _ HDA.out.1) | exact HC.out _ cR | exact HC.out _ (cR.alloc cR.size _) | exact HC.out _ (setR5 cR hg9) | exact HC.out _ (setR5 (cR.alloc cR.size _) hg9))
            (first
              | (go_at_call 51; (try rw [hwA]); refine (HLook.out _ HDA.out.1).mono ?_; rintro e' wR ⟨A9, d9, X9, y9, rfl, -, bR⟩; have cR : Below wr.heap.size wr wR := HDA.out.1.trans (bR.mono HDA.out.1.size); have xR := HDA.out.2.below bR HDA.out.2.lt; have d0 := xR.cell 0; have d1 := xR.cell 1; have d2 := xR.cell 2; have d3 := xR.cell 3; have d4 := xR.cell 4; have f0 := xR.frozen 0; have f1 := xR.frozen 1; have f2 := xR.frozen 2; have f3 := xR.frozen 3; have f4 := xR.frozen 4; simp at d0 d1 d2 d3 d4)
              | (go_at_call 51; refine (HLook.out _ HD.out).mono ?_; rintro e' wR ⟨A9, d9, X9, y9, rfl, -, bR⟩; have cR : Below wr.heap.size wr wR := HD.out.trans (bR.mono HD.out.size)))
          all_goals
            first
              | (obtain ⟨W, hW⟩ : ∃ W, wR.alloc (.cells #[.int .i64 rc0, .bool rt0, .slice A9 rr0.length d9, .slice X9 0 y9, .int .i64 ri0] 82) = W := ⟨_, rfl⟩
                 have HW : Hid (Below wr.heap.size wr W) := Lib.hid (hW ▸ cR.alloc cR.size _)
                 rw [hW])
              | (obtain ⟨W, hW⟩ : ∃ W, (((((wR.setCell ⟨gr, 0, none⟩ (.int .i64 rc0)).setCell ⟨gr, 1, none⟩ (.bool rt0)).setCell ⟨gr, 2, none⟩ (.slice A9 rr0.length d9)).setCell ⟨gr, 3, none⟩ (.slice X9 0 y9)).setCell ⟨gr, 4, none⟩ (.int .i64 ri0)) = W := ⟨_, rfl⟩
                 have HW : Hid (Below wr.heap.size wr W) := Lib.hid (hW ▸ setR5 cR hg9)
                 rw [hW]
                 clear xR d0 d1 d2 d3 d4 f0 f1 f2 f3 f4)
            clear hW cR bR HD HDA HLook
            have HE := Lib.hid (And.intro (HR.out.1.bel HW.out (fun i hi => hi.elim) HR.out.2.size) (HR.out.2.trans (HW.out.mono HR.out.2.size)))
            by_cases hz7 : z = 7
            · subst hz7
              have HPt := Lib.hid (s_put17 HE.out.1 HRJ.out.1.2 HRJ.out.1.1 HRJ.out.2.1 HRJ.out.2.2 e (HOw.out _ HE.out.2))
              obtain ⟨e0, -⟩ := HC.out _ HW.out
              obtain ⟨c0, c1, c2, c3, c4, c5, c6⟩ := HX.out _ HE.out.2
              go_wp2_with fail
              refine HPt.out.mono ?_
              rintro e' w5 hp
              have HF := Lib.hid (ref_on HE.out.1 HE.out.2 hp)
              obtain ⟨rfl, -⟩ := hp
              go_wp2
              go_roundw
              case rel => exact ⟨k, by omega, by first | rfl | go_num, Lib.hid (by rw [HS.out, HZ.out, if_pos (by first | rfl | trivial)]; exact HF.out)⟩
              case measure => simp [intOf] <;> omega
            · have hz0 : (z == 7) = false := by simpa using hz7
              have HZ2 : Hid (stepJ e.one RJ = RJ) := Lib.hid (by rw [HZ.out, if_neg hz7])
              clear hz7
              go_wp2
              go_roundw
              case rel => exact ⟨k, by omega, by first | rfl | go_num, Lib.hid (by rw [HS.out, HZ2.out]; exact HE.out)⟩
              case measure => simp [intOf] <;> omega
end Go.Proofs.Ytdfhnjocpfjagaa

namespace Go.Proofs.Ytdfhnjocpfjagaa
open Go.RowKit

theorem s_rjoin {B : Nat} {w : World} {l : List Ob} {i j ra rb : Nat} {RA RB : Rf} {S T : Tb} (h : SepO B w l) (hB : B ≤ w.heap.size) (hi : l[i]? = some (.ref ra RA)) (hj : l[j]? = some (.ref rb RB)) (rA : Rel RA S) (rB : Rel RB T) (gS : TGood S) (gT : TGood T)
    (hl : RA.L.length ≤ 10000 ∧ RA.Q.length ≤ 10000 ∧ RB.L.length ≤ 10000 ∧ RB.Q.length ≤ 10000) :
    Calls Try.prog 57 #[.pointer (some ⟨ra, 0, none⟩), .pointer (some ⟨rb, 0, none⟩)] w fun e w' => ∃ cb, e = .returned (.pointer (some ⟨cb, 0, none⟩)) ∧ SepO B w' (l ++ [.ref cb (joinR RA RB)]) ∧ Below w.heap.size w w' := by
  obtain ⟨F, ⟨va, ua, LA, mA, eA⟩, -⟩ := h.at_ hi
  obtain ⟨G, ⟨vb, ub, LB, mB, eB⟩, -⟩ := h.at_ hj
  have h3 := refJoin_any mA mB (by rw [eA]; exact rA) (by rw [eB]; exact rB) gS gT (by
    have h1 := congrArg List.length eA
    have h2 := congrArg List.length eB
    rw [List.length_map] at h1 h2
    omega)
  rw [eA, eB] at h3
  refine h3.mono ?_
  rintro e w' ⟨cb, rfl, r1, b1⟩
  exact ⟨cb, rfl, h.new sepOb hB b1 (o := .ref cb (joinR RA RB)) r1, b1⟩
end Go.Proofs.Ytdfhnjocpfjagaa

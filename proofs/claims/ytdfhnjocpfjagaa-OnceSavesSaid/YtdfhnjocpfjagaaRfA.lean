/- The document's table of layer 17: bad, Floor, Look, Known. Condition: the table is in memory. -/
import Derived.Test.YtdfhnjocpfjagaaSpecRef
import Derived.BigQuiet
namespace Go.Proofs.Ytdfhnjocpfjagaa
open Go.RowKit

theorem nint_elem : ElemN Try.prog 3 1 8 (.int .i64 0) := ⟨by kernel_rfl, rfl⟩
set_option maxRecDepth 100000 in
theorem refBad_any (c n : Int) (w : World) : Calls Try.prog 88 #[.int .i64 c, .int .i64 n] w fun e w' => e = .returned (.bool (decide (badT c n))) ∧ w' = w := by
  by_cases x1 : c < 0
  · have hd : decide (badT c n) = true := decide_eq_true (by unfold badT; omega)
    rw [hd]; clear hd
    go_enter Try.func88, Try.ntmps88
    go_wp2
    go_ret
    exact ⟨rfl, rfl⟩
  · by_cases x2 : 1099511627776 < c
    · have hd : decide (badT c n) = true := decide_eq_true (by unfold badT; omega)
      rw [hd]; clear hd
      go_enter Try.func88, Try.ntmps88
      go_wp2
      go_ret
      exact ⟨rfl, rfl⟩
    · by_cases x3 : n < 1
      · have hd : decide (badT c n) = true := decide_eq_true (by unfold badT; omega)
        rw [hd]; clear hd
        go_enter Try.func88, Try.ntmps88
        go_wp2
        go_ret
        exact ⟨rfl, rfl⟩
      · by_cases x4 : 1099511627776 < n
        · have hd : decide (badT c n) = true := decide_eq_true (by unfold badT; omega)
          rw [hd]; clear hd
          go_enter Try.func88, Try.ntmps88
          go_wp2
          go_ret
          exact ⟨rfl, rfl⟩
        · have hd : decide (badT c n) = false := decide_eq_false (by unfold badT; omega)
          rw [hd]; clear hd
          go_enter Try.func88, Try.ntmps88
          go_wp2
          go_ret
          exact ⟨rfl, rfl⟩
theorem fl_cell {w : World} {B n j : Nat} {A : Option Addr} {Q : List (Int × Int)} (h : HasG flCells 2 w B A n Q) (hj : j < n) : ∃ a e, A = some a ∧ a.block < B ∧ Q[j]? = some e ∧ w.cell? (a.add (j * 2)) = some (.int .i64 e.1) ∧ w.cell? ⟨(a.add (j * 2)).block, (a.add (j * 2)).off + 1, none⟩ = some (.int .i64 e.2) := by
  obtain ⟨a, e, h1, h2, h3, h4, h5⟩ := h.at_ fl_cells (by omega) hj
  exact ⟨a, e, h1, h2, h3, h4 _ rfl, h5 1 _ (by omega) rfl⟩
theorem oe_cell {w : World} {B n j : Nat} {A : Option Addr} {L : List OE} (h : HasG OE.cells 7 w B A n L) (hj : j < n) : ∃ a e, A = some a ∧ a.block < B ∧ L[j]? = some e ∧ (w.cell? (a.add (j * 7)) = some (.int .i64 e.c) ∧ w.cell? ⟨(a.add (j * 7)).block, (a.add (j * 7)).off + 1, none⟩ = some (.int .i64 e.n)) ∧
    (w.cell? ⟨(a.add (j * 7)).block, (a.add (j * 7)).off + 2, none⟩ = some (.int .i64 e.p.code) ∧ w.cell? ⟨(a.add (j * 7)).block, (a.add (j * 7)).off + 3, none⟩ = some (.bool e.p.there) ∧ w.cell? ⟨(a.add (j * 7)).block, (a.add (j * 7)).off + 4, none⟩ = some (.slice e.A e.p.rc.length e.d) ∧ w.cell? ⟨(a.add (j * 7)).block, (a.add (j * 7)).off + 5, none⟩ = some (.slice e.X 0 e.y) ∧ w.cell? ⟨(a.add (j * 7)).block, (a.add (j * 7)).off + 6, none⟩ = some (.int .i64 e.p.id)) := by
  obtain ⟨a, e, h1, h2, h3, h4, h5⟩ := h.at_ oe_cells (by omega) hj
  exact ⟨a, e, h1, h2, h3, ⟨h4 _ rfl, h5 1 _ (by omega) rfl⟩, h5 2 _ (by omega) rfl, h5 3 _ (by omega) rfl, h5 4 _ (by omega) rfl, h5 5 _ (by omega) rfl, h5 6 _ (by omega) rfl⟩
theorem cell_of_block {w w' : World} {p : Addr} (h : w'.heap[p.block]? = w.heap[p.block]?) : w'.cell? p = w.cell? p := by unfold World.cell?; rw [h]
theorem flR_none {c : Int} {Q : List (Int × Int)} (h : ∀ e ∈ Q, e.1 ≠ c) : flR c Q = 0 := by unfold flR; rw [getG_none.2 h]; rfl
section
variable {F : Nat → Prop} {w : World} {rb : Nat} {v u : Value} {L : List OE} {Q : List (Int × Int)}
set_option maxRecDepth 100000 in
set_option maxHeartbeats 1600000 in
theorem refFloor_any (h : RefM w F rb v u L Q) (hQ : Q.length ≤ 100000) (hr : RiseG Q) (c : Int) : Calls Try.prog 89 #[.pointer (some ⟨rb, 0, none⟩), .int .i64 c] w fun e w' => e = .returned (.int .i64 (flR c Q)) ∧ w' = w := by
  obtain ⟨⟨-, q1⟩, -⟩ := h.cells
  obtain ⟨A, d, rfl, -, -, hG⟩ := h.fls.slice
  obtain ⟨N, hN⟩ : ∃ N, Q.length = N := ⟨_, rfl⟩
  rw [hN] at hG q1 hQ
  have HG := Lib.hid hG
  have HN := Lib.hid hN
  have Hr := Lib.hid hr
  clear h hG hN hr
  go_enter Try.func89, Try.ntmps89
  go_wp2
  go_loopw [5] (fun iv wr => ∃ j : Nat, j ≤ N ∧ iv = .int .i64 (j : Int) ∧ Hid (∀ e ∈ Q.take j, e.1 ≠ c) ∧ wr = w) (fun iv _ => N - (intOf iv).toNat)
  case atStart => exact ⟨0, by omega, rfl, Lib.hid (by simp), rfl⟩
  case round =>
    obtain ⟨j, hj, rfl, Ht, rfl⟩ := hrel
    by_cases hlt : j < N
    · obtain ⟨a, e, rfl, -, he, c0, c1⟩ := fl_cell HG.out hlt
      have hj0 : (0 : Int) ≤ (j : Int) := by omega
      have hj1 : (j : Int) < (N : Int) := by omega
      by_cases hc : e.1 = c
      · have hcb : (e.1 == c) = true := by simpa using hc
        have E : Hid (flR c Q = e.2) := Lib.hid (by unfold flR; rw [getG_of Hr.out (k := c) (a := e.2) (by rw [← hc]; exact List.mem_of_getElem? he)]; rfl)
        clear he hc
        go_wp2
        go_ret
        exact ⟨ret_i64 (by rw [E.out]), rfl⟩
      · have hcb : (e.1 == c) = false := by simpa using hc
        have Ht1 : Hid (∀ x ∈ Q.take (j + 1), x.1 ≠ c) := Lib.hid (by
          rw [List.take_add_one, he]
          intro x hx
          rcases List.mem_append.1 hx with hx | hx
          · exact Ht.out x hx
          · simp at hx; subst hx; exact hc)
        clear he hc
        go_wp2
        go_roundw
        case rel => exact ⟨j + 1, by omega, by go_num, Ht1, by first | rfl | trivial⟩
        case measure => simp [intOf]; omega
    · have E : Hid (flR c Q = 0) := Lib.hid (flR_none (by have h1 := Ht.out; rwa [List.take_of_length_le (by have := HN.out; omega)] at h1))
      go_wp2
      go_ret
      exact ⟨ret_i64 (by rw [E.out]), rfl⟩
theorem sub_take {L : List OE} {j : Nat} {e : OE} (he : L[j]? = some e) (c : Int) : sub c ((L.take (j + 1)).map OE.one) = sub c ((L.take j).map OE.one) ++ (if e.c = c then [(e.n, e.p)] else []) := by
  rw [List.take_add_one, he]
  simp only [Option.toList_some, List.map_append, List.map_cons, List.map_nil]
  rw [sub_app]
  congr 1
  rw [sub_cons, sub_nil]
  rfl
set_option maxRecDepth 100000 in
set_option maxHeartbeats 1600000 in
theorem refKnown_any (h : RefM w F rb v u L Q) (hL : L.length ≤ 100000) (c : Int) : Calls Try.prog 94 #[.pointer (some ⟨rb, 0, none⟩), .int .i64 c] w fun e w' => ∃ v, e = .returned v ∧ w'.ownsRow w.heap.size 3 1 v (sub c (L.map OE.one)).length ((numsG (sub c (L.map OE.one))).map encZ) ∧ Below w.heap.size w w' := by
  obtain ⟨⟨q0, -⟩, -⟩ := h.cells
  obtain ⟨A, d, rfl, -, -, hG⟩ := h.ones.slice
  obtain ⟨N, hN⟩ : ∃ N, L.length = N := ⟨_, rfl⟩
  rw [hN] at hG q0 hL
  have HG := Lib.hid hG
  have HN := Lib.hid hN
  have HQ : Hid (∀ wx, Below w.heap.size w wx → wx.cell? ⟨rb, 0, none⟩ = some (.slice A N d)) := Lib.hid fun wx hx => (hx.cell h.box.lt).trans q0
  clear h hG hN q0
  go_enter Try.func94, Try.ntmps94
  go_wp2
  go_loopw [5, 6] (fun o iv wr => ∃ j : Nat, j ≤ N ∧ iv = .int .i64 (j : Int) ∧ Hid (wr.ownsRow w.heap.size 3 1 o (sub c ((L.take j).map OE.one)).length ((numsG (sub c ((L.take j).map OE.one))).map encZ) ∧ Below w.heap.size w wr)) (fun _ iv _ => N - (intOf iv).toNat)
  case atStart => exact ⟨0, by omega, rfl, Lib.hid ⟨World.ownsRow_nil _ _ _ _, Below.refl _ _⟩⟩
  case round =>
    obtain ⟨j, hj, rfl, HR⟩ := hrel
    have q0 := HQ.out _ HR.out.2
    obtain ⟨A5, c5, rfl, -, -, -⟩ := own_sliceN HR.out.1
    obtain ⟨m, hm⟩ : ∃ m, (sub c ((L.take j).map OE.one)).length = m := ⟨_, rfl⟩
    have hmj : m ≤ j := by rw [← hm]; unfold sub; rw [List.length_map]; refine Nat.le_trans (List.length_filter_le _ _) ?_; rw [List.length_map, List.length_take]; omega
    rw [hm] at HR ⊢
    have Hm := Lib.hid hm
    have hsz := HR.out.2.size
    clear hm
    by_cases hlt : j < N
    · obtain ⟨a, e, rfl, -, he, ⟨c0, c1⟩, -⟩ := oe_cell (HG.out.belowOf HR.out.2 (Nat.le_refl _)) hlt
      have hs := sub_take he c
      have hj0 : (0 : Int) ≤ (j : Int) := by omega
      have hj1 : (j : Int) < (N : Int) := by omega
      clear he
      by_cases hc : e.c = c
      · have hcb : (e.c == c) = true := by simpa using hc
        rw [if_pos hc] at hs
        have Hs := Lib.hid hs
        obtain ⟨wL, hwL⟩ : ∃ wL, wr.alloc (.cells #[.int .i64 e.n] 3) = wL := ⟨_, rfl⟩
        have HL : Hid (Has wL (wr.heap.size + 1) (some ⟨wr.heap.size, 0, none⟩) (1 * 1) [.int .i64 e.n]) := Lib.hid (hwL ▸ Has.lit wr #[.int .i64 e.n] 3)
        have uL : Below wr.heap.size wr wL := hwL ▸ below_box _
        have HO := Lib.hid (own_belowN HR.out.1 uL)
        have HB := Lib.hid (HR.out.2.trans (uL.mono hsz))
        have hSL : w.heap.size ≤ wL.heap.size := HB.out.size
        clear hc hs uL
        go_wp2_with (at_builtin; go_loud (refine wpList_append_hasN rfl (.tmp 26) (.tmp 35) _ rfl 3 nint_elem (by omega) Try.underlying54 rfl HO.out rfl HL.out (by intro u hu; simp at hu; subst hu; rfl) (by simp only [maxLen]; omega) (by omega) hSL ?_; intro v7 w7 o7 g7 z7; have HE := Lib.hid (And.intro o7 (HB.out.grown g7 hSL (fun g hg => (HO.out.lt g hg).1))); clear o7 g7 z7))
        go_roundw
        case rel =>
          refine ⟨j + 1, by omega, by go_num, Lib.hid ⟨?_, HE.out.2⟩⟩
          have h9 := HE.out.1
          rw [Hs.out]
          rw [List.length_append, Hm.out]
          simp only [numsG, List.map_append, List.map_cons, List.map_nil, List.length_cons, List.length_nil] at h9 ⊢
          exact h9
        case measure => simp [intOf]; omega
      · have hcb : (e.c == c) = false := by simpa using hc
        rw [if_neg hc, List.append_nil] at hs
        have Hs := Lib.hid hs
        clear hc hs
        go_wp2
        go_roundw
        case rel => exact ⟨j + 1, by omega, by go_num, Lib.hid ⟨by rw [Hs.out, Hm.out]; exact HR.out.1, HR.out.2⟩⟩
        case measure => simp [intOf]; omega
    · have hjN : j = N := by omega
      subst hjN
      have hT : L.take j = L := List.take_of_length_le (by have := HN.out; omega)
      have HE : Hid (wr.ownsRow w.heap.size 3 1 (.slice A5 m c5) (sub c (L.map OE.one)).length ((numsG (sub c (L.map OE.one))).map encZ)) := Lib.hid (by
        have h9 := HR.out.1
        have h8 := Hm.out
        rw [hT] at h9 h8
        rw [h8]
        exact h9)
      clear hT
      go_wp2
      go_ret
      exact ⟨_, rfl, HE.out, HR.out.2⟩

theorem sub_get_take {L : List OE} {j : Nat} {e : OE} (he : L[j]? = some e) {c n : Int} (h : getG n (sub c ((L.take j).map OE.one)) = none) : getG n (sub c ((L.take (j + 1)).map OE.one)) = if e.c = c ∧ e.n = n then some e.p else none := by
  rw [sub_take he]
  have app : ∀ (a b : List (Int × Rp)), getG n a = none → getG n (a ++ b) = getG n b := fun a b ha => by
    induction a with
    | nil => rfl
    | cons x a ih =>
      rw [getG_cons] at ha
      split at ha
      · cases ha
      · next hx => rw [List.cons_append, getG_cons, if_neg hx]; exact ih ha
  rw [app _ _ h]
  by_cases h1 : e.c = c
  · rw [if_pos h1, getG_cons, getG_nil]
    by_cases h2 : e.n = n <;> simp [h1, h2]
  · rw [if_neg h1, getG_nil, if_neg (fun x => h1 x.1)]
theorem sub_get_more {L : List OE} {j : Nat} {c n : Int} {r : Rp} (h : getG n (sub c ((L.take j).map OE.one)) = some r) : getG n (sub c (L.map OE.one)) = some r := by
  have e : L.map OE.one = (L.take j).map OE.one ++ (L.drop j).map OE.one := by rw [← List.map_append, List.take_append_drop]
  rw [e, sub_app]
  have app : ∀ (a b : List (Int × Rp)), getG n a = some r → getG n (a ++ b) = some r := fun a b ha => by
    induction a with
    | nil => cases ha
    | cons x a ih =>
      rw [getG_cons] at ha
      rw [List.cons_append, getG_cons]
      split at ha
      · next hx => rw [if_pos hx]; exact ha
      · next hx => rw [if_neg hx]; exact ih ha
  exact app _ _ h
/-- a reply as the document answers it: its record lies in the table -/
def RefLook (r : Rp × Int) (w : World) (e : Ending) (w' : World) : Prop := ∃ A d X y, e = .returned (.tuple #[.agg #[.int .i64 r.1.code, .bool r.1.there, .slice A r.1.rc.length d, .slice X 0 y, .int .i64 r.1.id], .int .i64 r.2]) ∧ HasVals w' w.heap.size A r.1.rc.length r.1.rc ∧ Below w.heap.size w w'
theorem refLook_zero {w w' : World} {z : Int} {R : Rp × Int} (hR : R = (Rp.zero, z)) (hb : Below w.heap.size w w') : RefLook R w (.returned (.tuple #[.agg #[.int .i64 0, .bool false, .slice none 0 0, .slice none 0 0, .int .i64 0], .int .i64 z])) w' := by
  subst hR
  exact ⟨none, 0, none, 0, rfl, HasVals.nil _ _ _, hb⟩
set_option maxRecDepth 100000 in
set_option maxHeartbeats 6400000 in
theorem refLook_any (h : RefM w F rb v u L Q) (hQ : Q.length ≤ 100000) (hL : L.length ≤ 100000) (hr : RiseG Q) (c n : Int) : Calls Try.prog 51 #[.pointer (some ⟨rb, 0, none⟩), .int .i64 c, .int .i64 n] w (RefLook (lookR c n ⟨L.map OE.one, Q⟩) w) := by
  obtain ⟨w1, hw1⟩ : ∃ w1, w.alloc (.cells #[.int .i64 0, .bool false, .slice none 0 0, .slice none 0 0, .int .i64 0] 82) = w1 := ⟨_, rfl⟩
  have bx1 : Box w1 w.heap.size 82 #[.int .i64 0, .bool false, .slice none 0 0, .slice none 0 0, .int .i64 0] := hw1 ▸ Box.made _ _ _
  have bw1 : Below w.heap.size w w1 := hw1 ▸ below_box _
  have h1 := h.below bw1
  have Hbad := Lib.hid (refBad_any c n w1)
  have Hfl := Lib.hid (refFloor_any h1 hQ hr c)
  obtain ⟨W, hW⟩ : ∃ W, (((((w1.setCell ⟨w.heap.size, 0, none⟩ (.int .i64 0)).setCell ⟨w.heap.size, 1, none⟩ (.bool false)).setCell ⟨w.heap.size, 2, none⟩ (.slice none 0 0)).setCell ⟨w.heap.size, 3, none⟩ (.slice none 0 0)).setCell ⟨w.heap.size, 4, none⟩ (.int .i64 0)) = W := ⟨_, rfl⟩
  obtain ⟨bW, gW, -⟩ := store5 bx1 hW
  have d0 : w1.cell? ⟨w.heap.size, 0, none⟩ = some (.int .i64 0) := bx1.cell 0
  have d1 : w1.cell? ⟨w.heap.size, 1, none⟩ = some (.bool false) := bx1.cell 1
  have d2 : w1.cell? ⟨w.heap.size, 2, none⟩ = some (.slice none 0 0) := bx1.cell 2
  have d3 : w1.cell? ⟨w.heap.size, 3, none⟩ = some (.slice none 0 0) := bx1.cell 3
  have d4 : w1.cell? ⟨w.heap.size, 4, none⟩ = some (.int .i64 0) := bx1.cell 4
  have f0 : w1.frozen? ⟨w.heap.size, 0, none⟩ = false := bx1.frozen 0
  have f1 : w1.frozen? ⟨w.heap.size, 1, none⟩ = false := bx1.frozen 1
  have f2 : w1.frozen? ⟨w.heap.size, 2, none⟩ = false := bx1.frozen 2
  have f3 : w1.frozen? ⟨w.heap.size, 3, none⟩ = false := bx1.frozen 3
  have f4 : w1.frozen? ⟨w.heap.size, 4, none⟩ = false := bx1.frozen 4
  have g0 : W.cell? ⟨w.heap.size, 0, none⟩ = some (.int .i64 0) := bW.cell 0
  have g1 : W.cell? ⟨w.heap.size, 1, none⟩ = some (.bool false) := bW.cell 1
  have g2 : W.cell? ⟨w.heap.size, 2, none⟩ = some (.slice none 0 0) := bW.cell 2
  have g3 : W.cell? ⟨w.heap.size, 3, none⟩ = some (.slice none 0 0) := bW.cell 3
  have g4 : W.cell? ⟨w.heap.size, 4, none⟩ = some (.int .i64 0) := bW.cell 4
  have HBW := Lib.hid (bw1.grown gW bw1.size (fun g hg => by injection hg with hg; omega))
  obtain ⟨R0, hR0⟩ : ∃ R0, lookR c n ⟨L.map OE.one, Q⟩ = R0 := ⟨_, rfl⟩
  rw [hR0]
  unfold lookR at hR0
  have HB1 := Lib.hid (And.intro bw1 bx1)
  by_cases hb : badT c n
  · rw [if_pos hb] at hR0
    rw [decide_eq_true hb] at Hbad
    have HE := Lib.hid (refLook_zero hR0.symm HBW.out)
    clear hR0 hb bx1 bw1 bW gW h h1
    go_enter Try.func51, Try.ntmps51
    go_wp2_with fail
    refine Hbad.out.mono ?_
    rintro e w2 ⟨rfl, rfl⟩
    go_wp2
    refine bodyPost_ret (v := .tuple #[.agg #[.int .i64 0, .bool false, .slice none 0 0, .slice none 0 0, .int .i64 0], .int .i64 1]) ?_ rfl HE.out
    simp [results, Try.results51, go_sem, g0, g1, g2, g3, g4]
  · rw [if_neg hb] at hR0
    rw [decide_eq_false hb] at Hbad
    simp only at hR0
    by_cases ho : n ≤ flR c Q
    · rw [if_pos ho] at hR0
      have HE := Lib.hid (refLook_zero hR0.symm HBW.out)
      clear hR0 hb bx1 bw1 bW gW h h1
      go_enter Try.func51, Try.ntmps51
      go_wp2_with fail
      refine Hbad.out.mono ?_
      rintro e w2 ⟨rfl, rfl⟩
      go_wp2_with fail
      refine Hfl.out.mono ?_
      rintro e w2 ⟨rfl, rfl⟩
      go_wp2
      refine bodyPost_ret (v := .tuple #[.agg #[.int .i64 0, .bool false, .slice none 0 0, .slice none 0 0, .int .i64 0], .int .i64 12]) ?_ rfl HE.out
      simp [results, Try.results51, go_sem, g0, g1, g2, g3, g4]
    · rw [if_neg ho] at hR0
      have HR0 := Lib.hid hR0
      obtain ⟨⟨q0, -⟩, -⟩ := h1.cells
      obtain ⟨A, d, rfl, -, -, hG⟩ := h1.ones.slice
      obtain ⟨N, hN⟩ : ∃ N, L.length = N := ⟨_, rfl⟩
      rw [hN] at hG q0 hL
      have HG := Lib.hid hG
      have HN := Lib.hid hN
      have HRec := Lib.hid (fun (e : OE) he => (h.has (e := e) he).belowOf bw1 (Nat.le_refl _))
      clear hR0 hb bx1 bw1 bW gW h h1 hG hN
      go_enter Try.func51, Try.ntmps51
      go_wp2_with fail
      refine Hbad.out.mono ?_
      rintro e w2 ⟨rfl, rfl⟩
      go_wp2_with fail
      refine Hfl.out.mono ?_
      rintro e w3 ⟨rfl, hw3⟩
      subst hw3
      go_wp2
      go_loopw [8] (fun iv wr => ∃ j : Nat, j ≤ N ∧ iv = .int .i64 (j : Int) ∧ Hid (getG n (sub c ((L.take j).map OE.one)) = none) ∧ wr = w3) (fun iv _ => N - (intOf iv).toNat)
      case atStart => exact ⟨0, by omega, rfl, Lib.hid rfl, rfl⟩
      case round =>
        obtain ⟨j, hj, rfl, Ht, hwr⟩ := hrel
        subst hwr
        by_cases hlt : j < N
        · obtain ⟨a, e, rfl, -, he, ⟨c0, c1⟩, c2, c3, c4, c5, c6⟩ := oe_cell HG.out hlt
          have hst := sub_get_take he Ht.out
          have hem := List.mem_of_getElem? he
          have hj0 : (0 : Int) ≤ (j : Int) := by omega
          have hj1 : (j : Int) < (N : Int) := by omega
          clear he
          by_cases hc : e.c = c
          · have hcb : (e.c == c) = true := by simpa using hc
            by_cases hn : e.n = n
            · have hnb : (e.n == n) = true := by simpa using hn
              rw [if_pos ⟨hc, hn⟩] at hst
              have hRr := HR0.out
              rw [sub_get_more hst] at hRr
              obtain ⟨ec, en, ⟨p0, p1, p2, p3⟩, eA, ed, eX, ey⟩ := e
              simp only at c0 c1 c2 c3 c4 c5 c6 hcb hnb hRr
              obtain ⟨W2, hW2⟩ : ∃ W2, (((((wr.setCell ⟨w.heap.size, 0, none⟩ (.int .i64 p0)).setCell ⟨w.heap.size, 1, none⟩ (.bool p1)).setCell ⟨w.heap.size, 2, none⟩ (.slice eA p2.length ed)).setCell ⟨w.heap.size, 3, none⟩ (.slice eX 0 ey)).setCell ⟨w.heap.size, 4, none⟩ (.int .i64 p3)) = W2 := ⟨_, rfl⟩
              obtain ⟨bW2, gW2, -⟩ := store5 HB1.out.2 hW2
              have x0 : W2.cell? ⟨w.heap.size, 0, none⟩ = some (.int .i64 p0) := bW2.cell 0
              have x1 : W2.cell? ⟨w.heap.size, 1, none⟩ = some (.bool p1) := bW2.cell 1
              have x2 : W2.cell? ⟨w.heap.size, 2, none⟩ = some (.slice eA p2.length ed) := bW2.cell 2
              have x3 : W2.cell? ⟨w.heap.size, 3, none⟩ = some (.slice eX 0 ey) := bW2.cell 3
              have x4 : W2.cell? ⟨w.heap.size, 4, none⟩ = some (.int .i64 p3) := bW2.cell 4
              have hsrc := HRec.out _ hem
              have HE : Hid (RefLook R0 w (.returned (.tuple #[.agg #[.int .i64 p0, .bool p1, .slice eA p2.length ed, .slice eX 0 ey, .int .i64 p3], .int .i64 0])) W2) := Lib.hid (by
                rw [← hRr]
                exact ⟨eA, ed, eX, ey, rfl, hsrc.keep (fun p hp => by
                  have hb := HB1.out.1
                  have h1 := gW2.block p.block (Nat.lt_of_lt_of_le hp hb.size) (fun e => by injection e with e; omega)
                  exact cell_of_block h1), HB1.out.1.grown gW2 HB1.out.1.size (fun g hg => by injection hg with hg; omega)⟩)
              clear hst hRr hsrc bW2 gW2 hc hn hem
              go_wp2
              refine bodyPost_ret (v := .tuple #[.agg #[.int .i64 p0, .bool p1, .slice eA p2.length ed, .slice eX 0 ey, .int .i64 p3], .int .i64 0]) ?_ rfl HE.out
              simp [results, Try.results51, go_sem, x0, x1, x2, x3, x4]
            · have hnb : (e.n == n) = false := by simpa using hn
              rw [if_neg (fun e => hn e.2)] at hst
              have Hst := Lib.hid hst
              clear hst hc hn hem c2 c3 c4 c5 c6
              go_wp2
              go_roundw
              case rel => exact ⟨j + 1, by omega, by go_num, Hst, by first | rfl | trivial⟩
              case measure => simp [intOf]; omega
          · have hcb : (e.c == c) = false := by simpa using hc
            rw [if_neg (fun e => hc e.1)] at hst
            have Hst := Lib.hid hst
            clear hst hc hem c1 c2 c3 c4 c5 c6
            go_wp2
            go_roundw
            case rel => exact ⟨j + 1, by omega, by go_num, Hst, by first | rfl | trivial⟩
            case measure => simp [intOf]; omega
        · have hT : L.take j = L := List.take_of_length_le (by have := HN.out; omega)
          have hRr := HR0.out
          have h9 := Ht.out
          rw [hT] at h9
          rw [h9] at hRr
          have HE := Lib.hid (refLook_zero hRr.symm HBW.out)
          clear hT hRr h9
          go_wp2
          refine bodyPost_ret (v := .tuple #[.agg #[.int .i64 0, .bool false, .slice none 0 0, .slice none 0 0, .int .i64 0], .int .i64 7]) ?_ rfl HE.out
          simp [results, Try.results51, go_sem, g0, g1, g2, g3, g4]
end
end Go.Proofs.Ytdfhnjocpfjagaa

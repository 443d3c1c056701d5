/- The document's table of layer 17: put. Condition: the table is in memory. -/
import Derived.Test.YtdfhnjocpfjagaaRfB
import Derived.Deep.CutBlock
import Derived.Deep.RegionHeld3
namespace Go.Proofs.Ytdfhnjocpfjagaa
open Go.RowKit

theorem RefM.grow {F G : Nat → Prop} {w w' : World} {rb : Nat} {v u : Value} {L : List OE} {Q : List (Int × Int)} (h : RefM w' G rb v u L Q) (hG : ∀ i, G i → F i ∨ (w.heap.size ≤ i ∧ i < w'.heap.size)) (hF : ∀ i, F i → i < w.heap.size) (hs : w.heap.size ≤ w'.heap.size) : RefM w' (addF F w w') rb v u L Q :=
  h.mono hG fun i hi => hi.elim (fun hi => Nat.lt_of_lt_of_le (hF i hi) hs) fun hi => hi.2
theorem RefAt.grow {F G : Nat → Prop} {w w' : World} {rb : Nat} {R : Rf} (h : RefAt w' G rb R) (hG : ∀ i, G i → F i ∨ (w.heap.size ≤ i ∧ i < w'.heap.size)) (hF : ∀ i, F i → i < w.heap.size) (hs : w.heap.size ≤ w'.heap.size) : RefAt w' (addF F w w') rb R := by
  obtain ⟨v, u, L, h1, h2⟩ := h
  exact ⟨v, u, L, h1.grow hG hF hs, h2⟩
theorem KV.below {w w1 w2 : World} (h : Below w.heap.size w w1) (k : KV w1 w2) : KV w w2 := (KV.of h).trans k
theorem num_cell {w : World} {B : Nat} {A : Option Addr} {m c j : Nat} {l : List Int} (h : w.ownsRow B 3 1 (.slice A m c) m (l.map encZ)) {z : Int} (hz : l[j]? = some z) (hj : j < m) : ∃ a, A = some a ∧ w.cell? (a.add j) = some (.int .i64 z) ∧ B ≤ a.block ∧ a.block < w.heap.size := by
  obtain ⟨g, hg0, hgB⟩ := own_at h (by omega)
  obtain ⟨A', c', e, -, -, hh⟩ := own_sliceN h
  injection e with e1 e2 e3
  subst e1
  obtain ⟨a, rfl, hlt, hg⟩ := hh.all (by omega)
  injection hg0 with hg0
  refine ⟨a, rfl, hg j _ ?_, by rw [hg0]; exact hgB, hlt⟩
  rw [List.getElem?_map, hz]
  rfl
def numRow (w : World) (B : Nat) (A : Option Addr) (m c : Nat) (l : List Int) : Prop := w.ownsRow B 3 1 (.slice A m c) m (l.map encZ)
section
variable {F : Nat → Prop} {w : World} {rb : Nat} {v u : Value} {L : List OE} {Q : List (Int × Int)}
set_option maxRecDepth 100000 in
set_option maxHeartbeats 12800000 in
theorem refPutO_any (h : RefM w F rb v u L Q) (hQ : Q.length ≤ 40000) (hL : L.length ≤ 40000) (hr : RiseG Q) (hlex : Lex (L.map OE.one)) (x : OE) (hx : OwnVals w 0 (.slice x.A x.p.rc.length x.d) x.p.rc) :
    Calls Try.prog 93 #[.pointer (some ⟨rb, 0, none⟩), .agg #[.int .i64 x.c, .int .i64 x.n, .int .i64 x.p.code, .bool x.p.there, .slice x.A x.p.rc.length x.d, .slice x.X 0 x.y, .int .i64 x.p.id]] w (RefPost F rb (putR x.one ⟨L.map OE.one, Q⟩) w) := by
  obtain ⟨w1, hw1⟩ : ∃ w1, w.alloc (.cells #[.int .i64 x.c, .int .i64 x.n, .int .i64 x.p.code, .bool x.p.there, .slice x.A x.p.rc.length x.d, .slice x.X 0 x.y, .int .i64 x.p.id] 133) = w1 := ⟨_, rfl⟩
  have bx1 : Box w1 w.heap.size 133 #[.int .i64 x.c, .int .i64 x.n, .int .i64 x.p.code, .bool x.p.there, .slice x.A x.p.rc.length x.d, .slice x.X 0 x.y, .int .i64 x.p.id] := hw1 ▸ Box.made _ _ _
  have bw1 : Below w.heap.size w w1 := hw1 ▸ below_box _
  have hW1 : w.heap.size ≤ w1.heap.size := bw1.size
  have hx1 : OwnVals w1 0 (.slice x.A x.p.rc.length x.d) x.p.rc := (KV.of bw1).own hx
  have h1 := h.below bw1
  have hrb : rb < w.heap.size := h.box.lt
  have hFl := h.lt
  obtain ⟨⟨p0, -⟩, pf, -⟩ := h1.cells
  obtain ⟨Al, dl, rfl, hMd, -, hLG⟩ := h.ones.slice
  obtain ⟨M, hM⟩ : ∃ M, L.length = M := ⟨_, rfl⟩
  rw [hM] at hLG p0 hL hMd
  have HLG := Lib.hid hLG
  have HM := Lib.hid hM
  have H1 := Lib.hid h1
  have HXV := Lib.hid hx1
  have HB1 := Lib.hid bw1
  have HF0 := Lib.hid hFl
  have Hr := Lib.hid hr
  have Hlex := Lib.hid hlex
  have HBx := Lib.hid bx1
  have HP : Hid (∀ wx, Below w1.heap.size w1 wx → wx.cell? ⟨rb, 0, none⟩ = some (.slice Al M dl) ∧ wx.frozen? ⟨rb, 0, none⟩ = false) := Lib.hid fun wx hb => ⟨(hb.cell h1.box.lt).trans p0, (h1.box.below hb h1.box.lt).frozen 0⟩
  have HY : Hid (∀ wx, Box wx w.heap.size 133 #[.int .i64 x.c, .int .i64 x.n, .int .i64 x.p.code, .bool x.p.there, .slice x.A x.p.rc.length x.d, .slice x.X 0 x.y, .int .i64 x.p.id] → (wx.cell? ⟨w.heap.size, 0, none⟩ = some (.int .i64 x.c) ∧ wx.cell? ⟨w.heap.size, 1, none⟩ = some (.int .i64 x.n)) ∧ (wx.cell? ⟨w.heap.size, 2, none⟩ = some (.int .i64 x.p.code) ∧ wx.cell? ⟨w.heap.size, 3, none⟩ = some (.bool x.p.there) ∧ wx.cell? ⟨w.heap.size, 4, none⟩ = some (.slice x.A x.p.rc.length x.d) ∧ wx.cell? ⟨w.heap.size, 5, none⟩ = some (.slice x.X 0 x.y) ∧ wx.cell? ⟨w.heap.size, 6, none⟩ = some (.int .i64 x.p.id))) := Lib.hid fun wx hb => ⟨⟨hb.cell 0, hb.cell 1⟩, hb.cell 2, hb.cell 3, hb.cell 4, hb.cell 5, hb.cell 6⟩
  have HZ : Hid (∀ wx, Below w1.heap.size w1 wx → Box wx w.heap.size 133 #[.int .i64 x.c, .int .i64 x.n, .int .i64 x.p.code, .bool x.p.there, .slice x.A x.p.rc.length x.d, .slice x.X 0 x.y, .int .i64 x.p.id]) := Lib.hid fun wx hb => bx1.below hb bx1.lt
  clear h h1 hLG hM p0 pf hr hlex hx hx1 bx1 bw1 hFl
  go_enter Try.func93, Try.ntmps93
  go_upto_block 0 with fail
  go_cut [4, 5] (fun o iv wx => ∃ (j : Nat) (A4 : Option Addr) (c4 : Nat), o = .slice A4 j c4 ∧ iv = .int .i64 (j : Int) ∧ j ≤ M ∧ Hid (wx.ownsRow w1.heap.size 133 7 (.slice A4 j c4) j (gCells OE.cells (L.take j)) ∧ (∀ e ∈ L.take j, lexB e.one x.one = true) ∧ (∀ e, L[j]? = some e → lexB e.one x.one = false) ∧ Below w1.heap.size w1 wx))
  case first =>
    go_wp2_with fail
    go_loopw [4, 5] (fun o iv wr => ∃ j : Nat, j ≤ M ∧ iv = .int .i64 (j : Int) ∧ Hid (wr.ownsRow w1.heap.size 133 7 o j (gCells OE.cells (L.take j)) ∧ (∀ e ∈ L.take j, lexB e.one x.one = true) ∧ Below w1.heap.size w1 wr)) (fun _ iv _ => M - (intOf iv).toNat)
    case atStart => exact ⟨0, by omega, rfl, Lib.hid ⟨World.ownsRow_nil _ _ _ _, by simp, Below.refl _ _⟩⟩
    case round =>
      obtain ⟨j, hj, rfl, HR⟩ := hrel
      obtain ⟨A4, c4', rfl, -, -, -⟩ := own_sliceN HR.out.1
      have p0 := (HP.out _ HR.out.2.2).1
      obtain ⟨⟨x0, x1⟩, -⟩ := HY.out _ (HZ.out _ HR.out.2.2)
      have hsz := HR.out.2.2.size
      by_cases hlt : j < M
      · obtain ⟨a, e, rfl, -, he, ⟨c0, c1⟩, c2, c3, c4, c5', c6⟩ := oe_cell (HLG.out.belowOf (HB1.out.trans (HR.out.2.2.mono hW1)) (Nat.le_refl _)) hlt
        have HX : Hid (∀ wx, Below w.heap.size w1 wx → _) := Lib.hid fun wx hb => oe_fix HLG.out hlt he wx (HB1.out.trans hb)
        have He := Lib.hid he
        have hj0 : (0 : Int) ≤ (j : Int) := by omega
        have hj1 : (j : Int) < (M : Int) := by omega
        have hjd : decide ((j : Int) < (M : Int)) = true := decide_eq_true hj1
        have HLB := Lib.hid (lexB_iff e.one x.one)
        clear he
        by_cases k1 : e.c < x.c
        · have d1 : decide (e.c < x.c) = true := decide_eq_true k1
          have HLX : Hid (lexB e.one x.one = true) := Lib.hid (HLB.out.2 (.inl k1))
          clear k1
          go_wp2
          go_quiet (fail)
          have HR4 := Lib.hid (And.intro (own_belowN HR.out.1 (below_drF (Below.refl _ _) nq)) (below_drF HR.out.2.2 nq))
          clear p0 x0 x1 c0 c1 c2 c3 c4 c5' c6
          generalize wr.drewN nq = w4 at *
          obtain ⟨p0, -⟩ := HP.out _ HR4.out.2
          obtain ⟨c0, c1, c2, c3, c4, c5', c6⟩ := HX.out _ (HR4.out.2.mono hW1)
          have hsz4 := HR4.out.2.size
          obtain ⟨wL, hwL⟩ : ∃ wL, w4.alloc (.cells #[.int .i64 e.c, .int .i64 e.n, .int .i64 e.p.code, .bool e.p.there, .slice e.A e.p.rc.length e.d, .slice e.X 0 e.y, .int .i64 e.p.id] 133) = wL := ⟨_, rfl⟩
          have HL : Hid (Has wL (w4.heap.size + 1) (some ⟨w4.heap.size, 0, none⟩) (1 * 7) (gCells OE.cells [e])) := Lib.hid (hwL ▸ Has.lit w4 #[.int .i64 e.c, .int .i64 e.n, .int .i64 e.p.code, .bool e.p.there, .slice e.A e.p.rc.length e.d, .slice e.X 0 e.y, .int .i64 e.p.id] 133)
          have uL : Below w4.heap.size w4 wL := hwL ▸ below_box _
          have HO := Lib.hid (own_belowN HR4.out.1 uL)
          have HB := Lib.hid (HR4.out.2.trans (uL.mono hsz4))
          have hSL : w1.heap.size ≤ wL.heap.size := HB.out.size
          clear uL
          go_wp2_with (at_builtin; go_loud (refine wpList_append_hasN rfl (.tmp 53) (.tmp 61) _ rfl 133 oe_elem (by omega) Try.underlying75 rfl HO.out rfl HL.out (gCells_one oe_cells [e]) (by simp only [maxLen]; omega) (by omega) hSL ?_; intro v7 w7 o7 g7 z7; have HE := Lib.hid (And.intro o7 (HB.out.grown g7 hSL (fun g hg => (HO.out.lt g hg).1))); clear o7 g7 z7))
          go_roundw
          case rel =>
            have ht : L.take (j + 1) = L.take j ++ [e] := by rw [List.take_add_one, He.out]; rfl
            refine ⟨j + 1, by omega, by go_num, Lib.hid ⟨?_, ?_, HE.out.2⟩⟩
            · rw [ht, gCells_app]; exact HE.out.1
            · rw [ht]
              intro y hy
              rcases List.mem_append.1 hy with hy | hy
              · exact HR.out.2.1 y hy
              · simp at hy; subst hy; exact HLX.out
          case measure => simp [intOf]; omega
        · have d1 : decide (e.c < x.c) = false := decide_eq_false k1
          by_cases k2 : e.c = x.c
          · have d2 : (e.c == x.c) = true := by simpa using k2
            by_cases k3 : e.n < x.n
            · have d3 : decide (e.n < x.n) = true := decide_eq_true k3
              have HLX : Hid (lexB e.one x.one = true) := Lib.hid (HLB.out.2 (.inr ⟨k2, k3⟩))
              clear k1 k2 k3
              go_wp2
              go_quiet (fail)
              have HR4 := Lib.hid (And.intro (own_belowN HR.out.1 (below_drF (Below.refl _ _) nq)) (below_drF HR.out.2.2 nq))
              clear p0 x0 x1 c0 c1 c2 c3 c4 c5' c6
              generalize wr.drewN nq = w4 at *
              obtain ⟨p0, -⟩ := HP.out _ HR4.out.2
              obtain ⟨c0, c1, c2, c3, c4, c5', c6⟩ := HX.out _ (HR4.out.2.mono hW1)
              have hsz4 := HR4.out.2.size
              obtain ⟨wL, hwL⟩ : ∃ wL, w4.alloc (.cells #[.int .i64 e.c, .int .i64 e.n, .int .i64 e.p.code, .bool e.p.there, .slice e.A e.p.rc.length e.d, .slice e.X 0 e.y, .int .i64 e.p.id] 133) = wL := ⟨_, rfl⟩
              have HL : Hid (Has wL (w4.heap.size + 1) (some ⟨w4.heap.size, 0, none⟩) (1 * 7) (gCells OE.cells [e])) := Lib.hid (hwL ▸ Has.lit w4 #[.int .i64 e.c, .int .i64 e.n, .int .i64 e.p.code, .bool e.p.there, .slice e.A e.p.rc.length e.d, .slice e.X 0 e.y, .int .i64 e.p.id] 133)
              have uL : Below w4.heap.size w4 wL := hwL ▸ below_box _
              have HO := Lib.hid (own_belowN HR4.out.1 uL)
              have HB := Lib.hid (HR4.out.2.trans (uL.mono hsz4))
              have hSL : w1.heap.size ≤ wL.heap.size := HB.out.size
              clear uL
              go_wp2_with (at_builtin; go_loud (refine wpList_append_hasN rfl (.tmp 53) (.tmp 61) _ rfl 133 oe_elem (by omega) Try.underlying75 rfl HO.out rfl HL.out (gCells_one oe_cells [e]) (by simp only [maxLen]; omega) (by omega) hSL ?_; intro v7 w7 o7 g7 z7; have HE := Lib.hid (And.intro o7 (HB.out.grown g7 hSL (fun g hg => (HO.out.lt g hg).1))); clear o7 g7 z7))
              go_roundw
              case rel =>
                have ht : L.take (j + 1) = L.take j ++ [e] := by rw [List.take_add_one, He.out]; rfl
                refine ⟨j + 1, by omega, by go_num, Lib.hid ⟨?_, ?_, HE.out.2⟩⟩
                · rw [ht, gCells_app]; exact HE.out.1
                · rw [ht]
                  intro y hy
                  rcases List.mem_append.1 hy with hy | hy
                  · exact HR.out.2.1 y hy
                  · simp at hy; subst hy; exact HLX.out
              case measure => simp [intOf]; omega
            · have d3 : decide (e.n < x.n) = false := decide_eq_false k3
              have HLX : Hid (lexB e.one x.one = false) := Lib.hid (Bool.eq_false_iff.2 fun q => by have := HLB.out.1 q; simp only [OE.one] at this; omega)
              clear k1 k2 k3
              go_wp2
              go_quiet (fail)
              have HR4 := Lib.hid (And.intro (own_belowN HR.out.1 (below_drF (Below.refl _ _) nq)) (below_drF HR.out.2.2 nq))
              clear p0 x0 x1 c0 c1 c2 c3 c4 c5' c6
              generalize wr.drewN nq = w4 at *
              go_wp2
              go_meet
              exact ⟨j, A4, c4', rfl, rfl, hj, Lib.hid ⟨HR4.out.1, HR.out.2.1, (fun e' he' => by rw [He.out] at he'; injection he' with he'; subst he'; exact HLX.out), HR4.out.2⟩⟩
          · have d2 : (e.c == x.c) = false := by simpa using k2
            have HLX : Hid (lexB e.one x.one = false) := Lib.hid (Bool.eq_false_iff.2 fun q => by have := HLB.out.1 q; simp only [OE.one] at this; omega)
            clear k1 k2
            go_wp2
            go_quiet (fail)
            have HR4 := Lib.hid (And.intro (own_belowN HR.out.1 (below_drF (Below.refl _ _) nq)) (below_drF HR.out.2.2 nq))
            clear p0 x0 x1 c0 c1 c2 c3 c4 c5' c6
            generalize wr.drewN nq = w4 at *
            go_wp2
            go_meet
            exact ⟨j, A4, c4', rfl, rfl, hj, Lib.hid ⟨HR4.out.1, HR.out.2.1, (fun e' he' => by rw [He.out] at he'; injection he' with he'; subst he'; exact HLX.out), HR4.out.2⟩⟩
      · have hjM : j = M := by omega
        subst hjM
        have hjd : decide ((j : Int) < (j : Int)) = false := by simp
        go_wp2
        go_quiet (fail)
        have HR4 := Lib.hid (And.intro (own_belowN HR.out.1 (below_drF (Below.refl _ _) nq)) (below_drF HR.out.2.2 nq))
        clear p0 x0 x1
        generalize wr.drewN nq = w4 at *
        go_wp2
        go_meet
        exact ⟨j, A4, c4', rfl, rfl, hj, Lib.hid ⟨HR4.out.1, HR.out.2.1, (fun e' he' => by have := (List.getElem?_eq_some_iff.1 he').1; have := HM.out; omega), HR4.out.2⟩⟩
  case rest =>
    obtain ⟨j, A4, c4, rfl, rfl, hj, HC⟩ := hcut
    obtain ⟨p0, -⟩ := HP.out _ HC.out.2.2.2
    obtain ⟨⟨x0, x1⟩, x2, x3, x4, x5, x6⟩ := HY.out _ (HZ.out _ HC.out.2.2.2)
    have Hcut := Lib.hid ((HLG.out.belowOf HB1.out (Nat.le_refl _)).cut oe_cells (by omega) (k := j) (c := dl) hj hMd)
    obtain ⟨A', hA'⟩ : ∃ A', (if dl = j then Al else Al.map (·.add (j * 7))) = A' := ⟨_, rfl⟩
    rw [hA'] at Hcut
    have HIN : Hid ((L.take j ++ x :: L.drop j).map OE.one = insR x.one (L.map OE.one)) := Lib.hid (by
      rw [insR_at (i := j) Hlex.out (fun e he => ?_) (fun e he => ?_)]
      · simp [List.map_take, List.map_drop]
      · rw [← List.map_take] at he
        obtain ⟨e', h1, rfl⟩ := List.mem_map.1 he
        exact HC.out.2.1 e' h1
      · rw [List.getElem?_map] at he
        obtain ⟨e', h1, rfl⟩ := Option.map_eq_some_iff.1 he
        exact HC.out.2.2.1 e' h1)
    obtain ⟨wL, hwL⟩ : ∃ wL, wc.alloc (.cells #[.int .i64 x.c, .int .i64 x.n, .int .i64 x.p.code, .bool x.p.there, .slice x.A x.p.rc.length x.d, .slice x.X 0 x.y, .int .i64 x.p.id] 133) = wL := ⟨_, rfl⟩
    have HL : Hid (Has wL (wc.heap.size + 1) (some ⟨wc.heap.size, 0, none⟩) (1 * 7) (gCells OE.cells [x])) := Lib.hid (hwL ▸ Has.lit wc #[.int .i64 x.c, .int .i64 x.n, .int .i64 x.p.code, .bool x.p.there, .slice x.A x.p.rc.length x.d, .slice x.X 0 x.y, .int .i64 x.p.id] 133)
    have uL : Below wc.heap.size wc wL := hwL ▸ below_box _
    have HO := Lib.hid (own_belowN HC.out.1 uL)
    have HB := Lib.hid (HC.out.2.2.2.trans (uL.mono HC.out.2.2.2.size))
    have hSL : w1.heap.size ≤ wL.heap.size := HB.out.size
    clear uL
    go_wp2_with (at_builtin; first
      | (refine wpList_append_hasN rfl (.tmp 65) (.tmp 67) _ rfl 133 oe_elem (by omega) Try.underlying75 rfl HO.out rfl HL.out (gCells_one oe_cells [x]) (by simp only [maxLen]; omega) (by omega) hSL ?_; intro v7 w7 o7 g7 z7; obtain ⟨A7, c7, rfl, -, -, -⟩ := own_sliceN o7; have HE := Lib.hid (And.intro o7 (HB.out.grown g7 hSL (fun g hg => (HO.out.lt g hg).1))); clear p0 x0 x1 x2 x3 x4 x5 x6; have p0 := (HP.out _ HE.out.2).1; clear o7 g7 z7; have hS7 : w1.heap.size ≤ w7.heap.size := HE.out.2.size)
      | (refine wpList_append_hasN rfl (.tmp 70) (.tmp 76) _ rfl 133 oe_elem (by omega) Try.underlying75 rfl HE.out.1 rfl (Hcut.out.belowOf (HE.out.2.mono hW1) (Nat.le_refl _)) (gCells_one oe_cells _) (by simp only [maxLen]; omega) (by omega) hS7 ?_; intro v8 w8 o8 g8 z8; obtain ⟨A8, c8, rfl, -, -, -⟩ := own_sliceN o8; have HE8 := Lib.hid (And.intro o8 (HE.out.2.grown g8 hS7 (fun g hg => (HE.out.1.lt g hg).1))); have fp0 := (HP.out _ HE8.out.2).2; have q2 := (HP.out _ HE8.out.2).1; clear o8 g8 z8; have HF8 := Lib.hid (ref_putL (L' := L.take j ++ x :: L.drop j) H1.out HE8.out.2 (by
          have h8 := HE8.out.1
          have e1 : gCells OE.cells (L.take j) ++ gCells OE.cells [x] ++ gCells OE.cells (L.drop j) = gCells OE.cells (L.take j ++ x :: L.drop j) := by rw [← gCells_app, ← gCells_app]; simp
          have e2 : j + 1 + (M - j) = (L.take j ++ x :: L.drop j).length := by simp; have := HM.out; omega
          rw [← e1, ← e2]
          exact h8) (fun e he => (List.mem_append.1 he).elim (fun he => H1.out.rows e (List.mem_of_mem_take he)) fun he => (List.mem_cons.1 he).elim (fun he => he ▸ HXV.out) fun he => H1.out.rows e (List.mem_of_mem_drop he))); obtain ⟨W, hW⟩ : ∃ W, w8.setCell ⟨rb, 0, none⟩ (.slice A8 (j + 1 + (M - j)) c8) = W := ⟨_, rfl⟩; rw [hW] at HF8; have bxW := HF8.out.2.1.box HBx.out (by omega); obtain ⟨⟨x0, x1⟩, -⟩ := HY.out _ bxW; clear bxW))
    have HKn := Lib.hid (refKnown_any HF8.out.1 (by simp; have := HM.out; omega) x.c)
    rw [HIN.out] at HKn
    go_wp2_with fail
    refine HKn.out.mono ?_
    rintro e w9 ⟨v9, rfl, o9, b9⟩
    obtain ⟨A9, c9, rfl, -, -, -⟩ := own_sliceN o9
    obtain ⟨m, hm⟩ : ∃ m, (sub x.c (insR x.one (L.map OE.one))).length = m := ⟨_, rfl⟩
    rw [hm] at o9 ⊢
    have Hm := Lib.hid hm
    have H9 := Lib.hid (HF8.out.1.below b9)
    have HK9 : Hid (KeptF (fun i => i = rb) w w9 ∧ KV w w9) := Lib.hid ⟨((KeptF.of HB1.out).trans0 HF8.out.2.1).trans0 (KeptF.of b9), (KV.below HB1.out HF8.out.2.2).trans (KV.of b9)⟩
    have HG9 : Hid (∀ i, addF F w1 W i → F i ∨ (w.heap.size ≤ i ∧ i < w9.heap.size)) := Lib.hid fun i hi => hi.elim .inl fun hi => .inr ⟨Nat.le_trans hW1 hi.1, Nat.lt_of_lt_of_le hi.2 b9.size⟩
    have hml : m ≤ M + 1 := by
      rw [← hm, ← HIN.out]
      unfold sub
      rw [List.length_map]
      refine Nat.le_trans (List.length_filter_le _ _) ?_
      rw [List.length_map]
      simp
      have := HM.out
      omega
    have x0 : w9.cell? ⟨w.heap.size, 0, none⟩ = some (.int .i64 x.c) := ((HY.out _ (HF8.out.2.1.box HBx.out (by omega) |>.below b9 (by have := HF8.out.2.1.size; have := HBx.out.lt; omega))).1).1
    have HO9 := Lib.hid o9
    have HBW : Hid (W.heap.size ≤ w9.heap.size) := Lib.hid b9.size
    clear hm b9 o9
    by_cases h4 : 4 < m
    · have hm4 : (4 : Int) < (m : Int) := by omega
      have HOV := Lib.hid (over_at (E := sub x.c (insR x.one (L.map OE.one))) (by rw [Hm.out]; exact h4))
      rw [Hm.out] at HOV
      obtain ⟨e9, he9, hov⟩ := HOV.out
      obtain ⟨k5, hk5⟩ : ∃ k5, m - 5 = k5 := ⟨_, rfl⟩
      rw [hk5] at he9
      have hk50 : (0 : Int) ≤ (k5 : Int) := by omega
      have hk51 : (k5 : Int) < (m : Int) := by omega
      obtain ⟨a9, rfl, k9, kB, kl⟩ := num_cell (j := k5) HO9.out (z := e9.1) (by unfold numsG; rw [List.getElem?_map, he9]; rfl) (by omega)
      have hdr : Below w9.heap.size w9 w9.drew := (Below.refl _ _).drew
      have HRa := Lib.hid (refRaise_any (H9.out.below hdr) (by omega) (by simp; have := HM.out; omega) Hr.out x.c e9.1)
      rw [HIN.out] at HRa
      have HPT : Hid (putR x.one ⟨L.map OE.one, Q⟩ = raiseR x.c e9.1 ⟨insR x.one (L.map OE.one), Q⟩) := Lib.hid (by
        have hl : 4 < (sub x.one.1 (insR x.one (L.map OE.one))).length := by rw [show x.one.1 = x.c from rfl, Hm.out]; exact h4
        unfold putR
        rw [if_pos hl]
        show raiseR x.c (over (sub x.c _)) _ = _
        rw [hov])
      have hi5 : IntKind.i64.wrap ((m : Int) - 5) = (k5 : Int) := by rw [IntWalk.i64_in _ (by omega)]; omega
      have hWs : w.heap.size < w9.heap.size := by have := HK9.out.1.size; have := HF8.out.2.1.size; have := HBx.out.lt; have := HBW.out; omega
      have hWr : rb < W.heap.size := by have := HF8.out.2.1.size; omega
      clear he9 hov HOV hk5
      go_wp2
      go_region_held3 (fun wx => wx.cell? ⟨w.heap.size, 0, none⟩ = some (.int .i64 x.c) ∧ wx.cell? (a9.add k5) = some (.int .i64 e9.1))
        (first | exact ⟨x0, k9⟩ | exact ⟨y0, y9⟩)
        (first
          | (go_at_call 97; refine HRa.out.mono ?_; rintro e wR ⟨rfl, rA, rK, rV⟩; have y0 : wR.cell? ⟨w.heap.size, 0, none⟩ = some (.int .i64 x.c) := (cell_of_block (rK.block w.heap.size hWs (fun e => by have e2 : w.heap.size = rb := e; omega))).trans x0; have y9 : wR.cell? (a9.add k5) = some (.int .i64 e9.1) := (cell_of_block (w := w9) (p := a9.add k5) (show wR.heap[(a9.add k5).block]? = w9.heap[(a9.add k5).block]? from by rw [addr_block]; exact rK.block a9.block kl (fun e => by have e2 : a9.block = rb := e; omega))).trans k9))
      have HEN : Hid (RefAt wR (addF (addF F w1 W) w9 wR) rb (raiseR x.c e9.1 ⟨insR x.one (L.map OE.one), Q⟩) ∧ KeptF (fun i => i = rb) w9 wR ∧ KV w9 wR) := Lib.hid ⟨rA, (KeptF.of hdr).trans0 rK, (KV.of hdr).trans rV⟩
      clear rA rK rV y0 y9
      go_wp2
      go_end0
      refine ⟨rfl, ?_, HK9.out.1.trans0 HEN.out.2.1, HK9.out.2.trans HEN.out.2.2⟩
      rw [HPT.out]
      have hs1 := HEN.out.2.1.size
      have hs2 := HK9.out.1.size
      refine HEN.out.1.grow (fun i hi => ?_) HF0.out (by omega)
      rcases hi with hi | hi
      · rcases HG9.out i hi with hi | hi
        · exact .inl hi
        · exact .inr ⟨hi.1, by omega⟩
      · exact .inr ⟨by omega, hi.2⟩
    · have hm4 : ¬ (4 : Int) < (m : Int) := by omega
      have HPT : Hid (putR x.one ⟨L.map OE.one, Q⟩ = ⟨insR x.one (L.map OE.one), Q⟩) := Lib.hid (by
        have hl : ¬ 4 < (sub x.one.1 (insR x.one (L.map OE.one))).length := by rw [show x.one.1 = x.c from rfl, Hm.out]; exact h4
        unfold putR
        rw [if_neg hl])
      go_wp2
      go_end0
      refine ⟨rfl, ?_, HK9.out⟩
      rw [HPT.out]
      exact ⟨_, _, _, H9.out.grow HG9.out HF0.out HK9.out.1.size, HIN.out⟩
end
end Go.Proofs.Ytdfhnjocpfjagaa

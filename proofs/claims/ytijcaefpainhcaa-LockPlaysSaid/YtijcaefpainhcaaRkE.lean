/- Layer 16, the document's own table: Lose. Condition: the table is in memory. -/
import Derived.Test.YtijcaefpainhcaaRkD
namespace Go.Proofs.Ytijcaefpainhcaa
open Go.RowKit

theorem fm_take {f : TL → Option TL} {R : List RE} {j : Nat} {y : RE} (hy : R[j]? = some y) : (rl (R.take (j + 1))).filterMap f = (rl (R.take j)).filterMap f ++ (f y.p).toList := by
  unfold rl
  rw [List.take_add_one, hy]
  simp only [List.map_append, List.filterMap_append, Option.toList_some, List.map_cons, List.map_nil, List.filterMap_cons, List.filterMap_nil]
  cases f y.p <;> rfl
/-- the locks that were come to, in a row of the call's own -/
structure LoseR (r : Rg) (R : List RE) (w1 wr : World) (u : Value) (m : Nat) (R1 : List RE) (j : Nat) : Prop where
  own : wr.ownsRow w1.heap.size 83 3 u m (rkCells R1)
  len : R1.length = m
  rows : ∀ e ∈ R1, OwnRgs wr w1.heap.size e.row e.p.L
  plain : rl R1 = (rl (R.take j)).filterMap (lose1 r)
  below : Below w1.heap.size w1 wr
  le : m ≤ j
section
variable {F : Nat → Prop} {w w' : World} {rb : Nat} {v : Value} {lease now : Int} {R : List RE}
theorem LoseR.step {r : Rg} {w1 wr wd wA : World} {u vA : Value} {m j c : Nat} {A : Option Addr} {R1 : List RE} {y : RE} {l : List Rg} (h : LoseR r R w1 wr u m R1 j) (hy : R[j]? = some y) (hl : minusT y.p.L r = l) (hne : l ≠ [])
    (bd : Below wr.heap.size wr wd) (ho : OwnRgs wd wr.heap.size (.slice A l.length c) l) (oA : wA.ownsRow w1.heap.size 83 3 vA (m + 1) (rkCells R1 ++ rkCells [⟨⟨y.p.n, l, y.p.left⟩, A, c⟩])) (gA : wd.grownBy wA u.ownBlock) :
    LoseR r R w1 wA vA (m + 1) (R1 ++ [⟨⟨y.p.n, l, y.p.left⟩, A, c⟩]) (j + 1) := by
  have hod := own_belowN h.own bd
  have hk : ∀ {B : Nat} {e : RE}, OwnRgs wd B e.row e.p.L → OwnRgs wA B e.row e.p.L := fun {B e} hh => ownL_keep hh fun g hg => gA.block g (World.ownsRow.lt hh g hg).2 (fun e0 => by
    obtain ⟨cs, hc⟩ := ownL_type hh hg
    obtain ⟨ds, hd⟩ := ownL_type hod e0.symm
    exact types_ne hc hd typesR.2.2 rfl)
  have bs := h.below.size
  refine ⟨by rw [rkCells_app]; exact oA, by rw [List.length_append, h.len]; rfl, fun e he => ?_, ?_, (h.below.trans (bd.mono bs)).grown gA (Nat.le_trans bs bd.size) (fun g hg => (World.ownsRow.lt hod g hg).1), by have := h.le; omega⟩
  · rcases List.mem_append.1 he with he | he
    · exact hk (own_belowN (h.rows e he) bd)
    · simp at he
      subst he
      exact hk (e := ⟨⟨y.p.n, l, y.p.left⟩, A, c⟩) (own_baseN ho bs)
  · have e1 : rl (R1 ++ [⟨⟨y.p.n, l, y.p.left⟩, A, c⟩]) = rl R1 ++ [⟨y.p.n, l, y.p.left⟩] := by simp [rl]
    rw [e1, fm_take hy, h.plain]
    unfold lose1
    rw [hl, if_neg hne]
    rfl
theorem LoseR.skip {r : Rg} {w1 wr wd : World} {u : Value} {m j : Nat} {R1 : List RE} {y : RE} (h : LoseR r R w1 wr u m R1 j) (hy : R[j]? = some y) (hl : minusT y.p.L r = []) (bd : Below wr.heap.size wr wd) : LoseR r R w1 wd u m R1 (j + 1) := by
  have bs := h.below.size
  refine ⟨own_belowN h.own bd, h.len, fun e he => own_belowN (h.rows e he) bd, ?_, h.below.trans (bd.mono bs), by have := h.le; omega⟩
  rw [fm_take hy, h.plain]
  unfold lose1
  rw [hl, if_pos rfl]
  simp
set_option maxRecDepth 100000 in
set_option maxHeartbeats 6400000 in
theorem refLose16_any (h : RfAt w F rb v lease now R) (hR : R.length ≤ 100000) (hL : ∀ e ∈ R, e.p.L.length ≤ 90000) (r : Rg) :
    Calls Try.prog 63 #[.pointer (some ⟨rb, 0, none⟩), ragg r] w fun e w' => e = .returned (.tuple #[]) ∧ ∃ v' R', RfAt w' (addF F w w') rb v' lease now R' ∧ rl R' = loseT r (rl R) ∧ KeptF F w w' := by
  obtain ⟨w1, hw1⟩ : ∃ wa, w.alloc (.cells #[.string r.lo, .string r.hi] 23) = wa := ⟨_, rfl⟩
  have b1 : Below w.heap.size w w1 := hw1 ▸ below_box _
  have x1 : Box w1 w.heap.size 23 #[.string r.lo, .string r.hi] := hw1 ▸ Box.made _ _ _
  have h1 := h.below b1
  obtain ⟨A, c, rfl, -, -, hs⟩ := h1.own.slice
  obtain ⟨n, hn⟩ : ∃ n, R.length = n := ⟨_, rfl⟩
  rw [hn] at hR hs h1
  have Hs := Lib.hid hs
  have Hn := Lib.hid hn
  have HL := Lib.hid hL
  have H1 := Lib.hid (And.intro h1 (And.intro b1 x1))
  have HQ : Hid (∀ wx, Below w1.heap.size w1 wx → (wx.cell? ⟨rb, 2, none⟩ = some (.slice A n c) ∧ wx.frozen? ⟨rb, 2, none⟩ = false) ∧ wx.cell? ⟨w.heap.size, 0, none⟩ = some (.string r.lo) ∧ wx.cell? ⟨w.heap.size, 1, none⟩ = some (.string r.hi)) := Lib.hid fun wx hx => by
    have := (H1.out.1.below hx).cells
    have y := H1.out.2.2.below hx H1.out.2.2.lt
    exact ⟨⟨this.1.2.2, this.2.2⟩, y.cell 0, y.cell 1⟩
  clear h h1 hs hn hL x1 b1
  unfold ragg
  go_enter Try.func63, Try.ntmps63
  go_wp2
  go_loopw [4, 5] (fun u iv wr => ∃ (j m : Nat) (R1 : List RE), j ≤ n ∧ iv = .int .i64 (j : Int) ∧ Hid (LoseR r R w1 wr u m R1 j)) (fun _ iv _ => n - (intOf iv).toNat)
  case atStart => exact ⟨0, 0, [], by omega, rfl, Lib.hid ⟨World.ownsRow_nil _ _ _ _, rfl, by simp, rfl, Below.refl _ _, by omega⟩⟩
  case round =>
    obtain ⟨j, m, R1, hj, rfl, HO⟩ := hrel
    obtain ⟨Au, cu, rfl, -, -, -⟩ := own_sliceN HO.out.own
    obtain ⟨⟨q2, f2⟩, p0, p1⟩ := HQ.out wr HO.out.below
    by_cases hlt : j < n
    · obtain ⟨a, y, rfl, hab, hy, c0, c1, c2⟩ := (Hs.out.belowOf HO.out.below (Nat.le_refl _)).at_ hlt
      have Hy := Lib.hid hy
      have hk0 : (0 : Int) ≤ (j : Int) := by omega
      have hk1 : (j : Int) < (n : Int) := by omega
      have hmy := List.mem_of_getElem? hy
      have hrs := (H1.out.1.has hmy)
      have hly := HL.out y hmy
      obtain ⟨⟨yn, yL, yl⟩, yA, yc⟩ := y
      simp only at c0 c1 c2 hrs hly
      obtain ⟨wb, hwb⟩ : ∃ wb, wr.alloc (.cells #[.int .i64 yn, .slice yA yL.length yc, .int .i64 yl] 83) = wb := ⟨_, rfl⟩
      have xb : Box wb wr.heap.size 83 #[.int .i64 yn, .slice yA yL.length yc, .int .i64 yl] := hwb ▸ Box.made _ _ _
      have bb : Below wr.heap.size wr wb := hwb ▸ below_box _
      have b1b : Below w1.heap.size w1 wb := HO.out.below.trans (bb.mono HO.out.below.size)
      have d0 : wb.cell? ⟨wr.heap.size, 0, none⟩ = some (.int .i64 yn) := xb.cell 0
      have d1 : wb.cell? ⟨wr.heap.size, 1, none⟩ = some (.slice yA yL.length yc) := xb.cell 1
      have d2 : wb.cell? ⟨wr.heap.size, 2, none⟩ = some (.int .i64 yl) := xb.cell 2
      obtain ⟨-, p2, p3⟩ := HQ.out wb b1b
      have HMi := Lib.hid (refMinus_any yA yL.length yc w1.heap.size yL r wb (hrs.belowOf b1b (Nat.le_refl _)) b1b.size (by omega))
      unfold ragg at HMi
      have HB := Lib.hid (And.intro xb bb)
      clear hy hab hmy hrs hly xb bb b1b
      go_wp2_with fail
      refine HMi.out.mono ?_
      rintro ee wc ⟨l, vB, rfl, om, fm, -, bm⟩
      obtain ⟨AB, cB, rfl, -, -, -⟩ := om.slice
      have hl : minusT yL r = l := theForm_eq fm
      have xc := HB.out.1.below bm HB.out.1.lt
      have bc : Below wr.heap.size wr wc := HB.out.2.trans (bm.mono HB.out.2.size)
      have e1 : wc.cell? ⟨wr.heap.size, 1, none⟩ = some (.slice yA yL.length yc) := xc.cell 1
      have f1 : wc.frozen? ⟨wr.heap.size, 1, none⟩ = false := xc.frozen 1
      obtain ⟨wd, hwd⟩ : ∃ wd, wc.setCell ⟨wr.heap.size, 1, none⟩ (.slice AB l.length cB) = wd := ⟨_, rfl⟩
      have xd : Box wd wr.heap.size 83 #[.int .i64 yn, .slice AB l.length cB, .int .i64 yl] := by
        have h8 := xc.set_ 1 (.slice AB l.length cB)
        rw [hwd] at h8
        simpa using h8
      have bd : Below wr.heap.size wr wd := hwd ▸ bc.setCell (Nat.le_refl _) _
      have od : OwnRgs wd wr.heap.size (.slice AB l.length cB) l := hwd ▸ own_baseN (ownL_keep om fun g hg => Below.heap_setCell wc ⟨wr.heap.size, 1, none⟩ _ g (by
        have h7 := (World.ownsRow.lt om g hg).1
        have h8 := HB.out.1.lt
        show g ≠ wr.heap.size
        omega)) HB.out.2.size
      have g0 : wd.cell? ⟨wr.heap.size, 0, none⟩ = some (.int .i64 yn) := xd.cell 0
      have g1 : wd.cell? ⟨wr.heap.size, 1, none⟩ = some (.slice AB l.length cB) := xd.cell 1
      have g2 : wd.cell? ⟨wr.heap.size, 2, none⟩ = some (.int .i64 yl) := xd.cell 2
      have HD := Lib.hid (And.intro hl (And.intro bd od))
      clear om fm bm hl xc bc xd bd od HB d0 d1 d2 p2 p3 hwb c0 c1 c2
      cases l with
      | nil =>
        simp only [List.length_nil] at hwd g1
        have HE := Lib.hid (HO.out.skip Hy.out HD.out.1 HD.out.2.1)
        go_wp2
        go_roundw
        case rel => exact ⟨j + 1, m, R1, by omega, by go_num, HE⟩
        case measure => simp [intOf]; omega
      | cons z l =>
        have hz : decide ((0 : Int) < (((z :: l).length : Nat) : Int)) = true := by simp
        have hz2 : (0 : Int) < (((z :: l).length : Nat) : Int) := by simp
        obtain ⟨q, hq⟩ : ∃ q, (z :: l).length = q := ⟨_, rfl⟩
        rw [hq] at hz hz2 g1 hwd
        have Hq := Lib.hid hq
        clear hq
        have HO1 : Hid ((wd.alloc (.cells #[.int .i64 yn, .slice AB q cB, .int .i64 yl] 83)).ownsRow w1.heap.size 83 3 (.slice Au m cu) m (rkCells R1)) := Lib.hid (own_belowN (own_belowN HO.out.own HD.out.2.1) (below_box _))
        have HLt : Hid (Has (wd.alloc (.cells #[.int .i64 yn, .slice AB q cB, .int .i64 yl] 83)) (wd.heap.size + 1) (some ⟨wd.heap.size, 0, none⟩) (1 * 3) (rkCells [⟨⟨yn, z :: l, yl⟩, AB, cB⟩])) := Lib.hid (by
          rw [← Hq.out]
          exact rk_lit wd ⟨⟨yn, z :: l, yl⟩, AB, cB⟩)
        have hS : w1.heap.size ≤ (wd.alloc (.cells #[.int .i64 yn, .slice AB q cB, .int .i64 yl] 83)).heap.size := by have := HO.out.below.size; have := HD.out.2.1.size; simp; omega
        have hmj := HO.out.le
        rw [Hq.out]
        go_wp2_with (at_builtin; go_loud (refine wpList_append_hasN rfl (.tmp 32) (.tmp 34) _ rfl 83 rk_elem (by omega) Try.underlying76 rfl HO1.out rfl HLt.out (rkCells_one _) (by simp only [maxLen]; omega) (by omega) hS ?_; intro v7 w7 o7 g7 z7; obtain ⟨A7, c7, rfl, -, -, -⟩ := own_sliceN o7; have HE := Lib.hid (LoseR.step (wd := wd.alloc (.cells #[.int .i64 yn, .slice AB q cB, .int .i64 yl] 83)) HO.out Hy.out HD.out.1 (by simp) (HD.out.2.1.trans ((below_box _).mono HD.out.2.1.size)) (own_belowN HD.out.2.2 (below_box _)) o7 g7); clear o7 g7 z7))
        go_roundw
        case rel => exact ⟨j + 1, m + 1, _, by omega, by go_num, HE⟩
        case measure => simp [intOf]; omega
    · obtain rfl : j = n := by omega
      obtain ⟨W, hW⟩ : ∃ W, wr.setCell ⟨rb, 2, none⟩ (.slice Au m cu) = W := ⟨_, rfl⟩
      have HE : Hid (RfAt W (addF F w W) rb (.slice Au m cu) lease now R1 ∧ rl R1 = loseT r (rl R) ∧ KeptF F w W) := Lib.hid (by
        have e0 : R.take j = R := List.take_of_length_le (by have := Hn.out; omega)
        obtain ⟨a1, a2⟩ := H1.out.1.setL HO.out.below (v' := .slice Au m cu) (R' := R1) (by
          have h9 := HO.out.own
          unfold OwnRks
          rw [HO.out.len]
          exact h9) (fun e he => ⟨own_baseN (HO.out.rows e he) (Nat.zero_le _), fun g hg => .inr (World.ownsRow.lt (HO.out.rows e he) g hg).1⟩) hW
        have b1 := H1.out.2.1
        refine ⟨a1.mono (fun i hi => hi.imp id (fun hi => by have := b1.size; omega)) (fun i hi => hi.elim (fun hi => a1.lt i (.inl hi)) (fun hi => hi.2)), ?_, (KeptF.of b1).trans0 a2⟩
        have h8 := HO.out.plain
        rw [e0] at h8
        exact h8)
      go_wp2
      go_end0
      exact ⟨rfl, _, _, HE.out.1, HE.out.2.1, HE.out.2.2⟩
end
end Go.Proofs.Ytijcaefpainhcaa

/- Arguments that are an operation (a struct of twelve fields), or a row of operations, opened. -/
import Derived.Test.YtknfjajmnlpfjaaGreatOpenRec
import Derived.Test.YtknfjajmnlpfjaaGreatPlnB
namespace Go.Proofs.YtknfjajmnlpfjaaGreat
open Go.ChangeShapes Go.WideShapes Go.ChangeAt Go.RowKit

/-- the texts of an operation are no longer than a text may be -/
def OpShort (o : TOp) : Prop := (∀ u ∈ o.rc, u.s.size ≤ maxLen) ∧ (∀ u ∈ o.old, u.s.size ≤ maxLen) ∧ (∀ u ∈ o.low, u.s.size ≤ maxLen) ∧ (∀ u ∈ o.high, u.s.size ≤ maxLen) ∧ o.key.size ≤ maxLen ∧ o.to.size ≤ maxLen ∧ InI64 o.k ∧ InI64 o.id ∧ InI64 o.lim
section
variable {H : Type} {enc : TypeId × Value → H} {P : Program} {W : World}
theorem vals_cell {t e : TypeId} {f0 f1 f2 : Field} {u : Value} {d : DataW H} {ps : List MemPlace} {fuel : Nat} (ht : P.underlying t = some (.slice e)) (he : P.underlying e = some (.struct #[f0, f1, f2])) (hC : P.cellsOf e = 3)
    (ho : f0.offset = 0 ∧ f1.offset = 1 ∧ f2.offset = 2) (hc : P.cellsOf f0.type = 1 ∧ P.cellsOf f1.type = 1 ∧ P.cellsOf f2.type = 1)
    (hu : P.underlying f0.type = some (.int .i64) ∧ P.underlying f1.type = some (.int .i64) ∧ P.underlying f2.type = some .string)
    (hf : DataW.trod enc P W 0 (fun _ => true) true fuel t [u] = some (d, ps)) (hlt : ∀ x ∈ ps, x.block < W.heap.size) :
    ∃ l : List TVal, IsVals W W.heap.size u l ∧ ∀ u ∈ l, u.s.size ≤ maxLen := by
  rcases Go.Deep.open_slice ht hf with ⟨hcs, _⟩ | ⟨a, n, c, m, n', D, Pl, hcs, _, hle, hmax, hm, hx, hi⟩
  · simp at hcs
    subst hcs
    exact ⟨[], ⟨none, 0, 0, rfl, Nat.le_refl _, by simp [maxLen], HasVals.nil _ _ _, by simp⟩, by simp⟩
  · simp at hcs
    subst hcs
    simp only [if_true] at hm
    have hm2 := hm.symm
    subst hm2
    have hone : ∀ i, i < n → ∃ u : TVal, (W.cell? (a.add (i * 3)) = some (.int .i64 u.k) ∧ W.cell? (a.add (i * 3 + 1)) = some (.int .i64 u.n) ∧ W.cell? (a.add (i * 3 + 2)) = some (.string u.s)) ∧ InI64 u.n ∧ u.s.size ≤ maxLen := by
      intro i hin
      obtain ⟨cs', hcells, htrod⟩ := hi i (by omega)
      rw [hC] at hcells
      obtain ⟨_, hlen, hat⟩ := World.cells?_some hcells
      obtain ⟨xs, n1, _, _, _, _, hg⟩ := DataW.trod_struct he htrod
      match cs', hlen with
      | [w0, w1, w2], _ =>
        have g0 := hg 0 f0 rfl
        have g1 := hg 1 f1 rfl
        have g2 := hg 2 f2 rfl
        rw [ho.1, hc.1] at g0
        rw [ho.2.1, hc.2.1] at g1
        rw [ho.2.2, hc.2.2] at g2
        have hxs : xs.length = 3 := by assumption
        match xs, hxs with
        | [y0, y1, y2], _ =>
          obtain ⟨z0, e0, _, _⟩ := DataW.trod_int hu.1 g0
          obtain ⟨z1, e1, _, wf1⟩ := DataW.trod_int hu.2.1 g1
          obtain ⟨z2, e2, _, hz2⟩ := DataW.trod_string hu.2.2 g2
          simp at e0 e1 e2
          subst e0
          subst e1
          subst e2
          have c0 := hat 0 (by omega)
          have c1 := hat 1 (by omega)
          have c2 := hat 2 (by omega)
          rw [Go.Deep.add_add] at c0 c1 c2
          have bd := bounds_i64 wf1
          exact ⟨⟨z0, z1, z2⟩, ⟨c0, c1, c2⟩, by unfold InI64; dsimp only; omega, hz2⟩
    obtain ⟨f, hfv⟩ := Go.Deep.choose_lt hone
    refine ⟨(List.range n).map f, ⟨some a, n, c, rfl, hle, by omega, vals_of_cells ?_ fun i hin => (hfv i hin).1, ?_⟩, ?_⟩
    · intro hn
      simp only [Prod.mk.injEq] at hx
      obtain ⟨p, hp, hpb⟩ := row_block (a := a) (n := c * P.cellsOf e) (by rw [hC]; omega)
      rw [← hpb]
      refine hlt p ?_
      rw [hx.2]
      exact List.mem_append_left _ hp
    · intro u hu'
      obtain ⟨i, hin, rfl⟩ := List.mem_map.1 hu'
      exact (hfv i (List.mem_range.1 hin)).2.1
    · intro u hu'
      obtain ⟨i, hin, rfl⟩ := List.mem_map.1 hu'
      exact (hfv i (List.mem_range.1 hin)).2.2
theorem ints_cell {t e : TypeId} {u : Value} {d : DataW H} {ps : List MemPlace} {fuel : Nat} (ht : P.underlying t = some (.slice e)) (he : P.underlying e = some (.int .i64)) (hce : P.cellsOf e = 1)
    (hf : DataW.trod enc P W 0 (fun _ => true) true fuel t [u] = some (d, ps)) (hlt : ∀ x ∈ ps, x.block < W.heap.size) : ∃ l : List Int, IsInts W W.heap.size u l := by
  rcases open_ints ht he hce hf with ⟨hcs, _⟩ | ⟨a, len, cap, zs, hcs, _, hle, hmax, hlen, hy, hcell, hwf⟩
  · simp at hcs
    subst hcs
    exact ⟨[], none, 0, 0, rfl, Nat.le_refl _, by simp [maxLen], ⟨rfl, Has.nil _ _ _⟩, by simp⟩
  · simp at hcs
    subst hcs
    simp only [if_true] at hlen
    have hmem : 0 < len → a.block < W.heap.size := fun h0 => by
      obtain ⟨p, hp, hpb⟩ := row_block (a := a) (n := zs.length) (by omega)
      rw [← hpb]
      refine hlt p ?_
      simp only [Prod.mk.injEq] at hy
      rw [hy.2]
      exact hp
    refine ⟨zs.take len, some a, len, cap, rfl, hle, by omega, ⟨by simp; omega, ⟨by simp [intCells]; omega, fun k u hu' => ⟨a, rfl, ?_, ?_⟩⟩⟩, fun x hx => ?_⟩
    · have hk : k < len := by
        have := (List.getElem?_eq_some_iff.1 hu').1
        simp [intCells] at this
        omega
      exact hmem (by omega)
    · have hk : k < len := by
        have := (List.getElem?_eq_some_iff.1 hu').1
        simp [intCells] at this
        omega
      have hz : k < zs.length := by omega
      rw [hcell k hz, ← hu']
      simp [intCells, hk, hz]
    · have := bounds_i64 (hwf x (List.mem_of_mem_take hx))
      unfold InI64
      omega
end

section
variable {H : Type} {enc : TypeId × Value → H} {W : World}
theorem c_int : Tryz.prog.cellsOf 3 = 1 := by kernel_rfl
theorem c_string : Tryz.prog.cellsOf 9 = 1 := by kernel_rfl
theorem c_rec : Tryz.prog.cellsOf 32 = 1 := by kernel_rfl
theorem c_vals : Tryz.prog.cellsOf 31 = 1 := by kernel_rfl
theorem c_ints : Tryz.prog.cellsOf 37 = 1 := by kernel_rfl
set_option maxRecDepth 100000 in
theorem op_cells {cs : List Value} {x : DataW H × List MemPlace} {fuel : Nat} (hl : cs.length = 12) (h : DataW.trod enc Tryz.prog W 0 (fun _ => true) true fuel 39 cs = some x) (hlt : ∀ y ∈ x.2, y.block < W.heap.size) :
    ∃ (o : TOp) (rv ov fv lv hv : Value), cs = (opCells o rv ov fv lv hv).toList ∧ IsVals W W.heap.size rv o.rc ∧ IsVals W W.heap.size ov o.old ∧ IsInts W W.heap.size fv o.fs ∧ IsVals W W.heap.size lv o.low ∧ IsVals W W.heap.size hv o.high ∧ OpShort o := by
  obtain ⟨xs, n1, u1, u2, u3, u4, hg⟩ := DataW.trod_struct Tryz.underlying39 h
  have hxl : xs.length = 12 := u4
  match cs, hl, xs, hxl with
  | [a0, a1, a2, a3, a4, a5, a6, a7, a8, a9, a10, a11], _, [y0, y1, y2, y3, y4, y5, y6, y7, y8, y9, y10, y11], _ =>
    have g0 : DataW.trod enc Tryz.prog W 0 (fun _ => true) true n1 3 [a0] = some y0 := by
      have g : DataW.trod enc Tryz.prog W 0 (fun _ => true) true n1 3 (List.take (Tryz.prog.cellsOf 3) (List.drop 0 [a0, a1, a2, a3, a4, a5, a6, a7, a8, a9, a10, a11])) = some y0 := hg 0 _ rfl
      rw [c_int] at g
      exact g
    have g1 : DataW.trod enc Tryz.prog W 0 (fun _ => true) true n1 9 [a1] = some y1 := by
      have g : DataW.trod enc Tryz.prog W 0 (fun _ => true) true n1 9 (List.take (Tryz.prog.cellsOf 9) (List.drop 1 [a0, a1, a2, a3, a4, a5, a6, a7, a8, a9, a10, a11])) = some y1 := hg 1 _ rfl
      rw [c_string] at g
      exact g
    have g2 : DataW.trod enc Tryz.prog W 0 (fun _ => true) true n1 9 [a2] = some y2 := by
      have g : DataW.trod enc Tryz.prog W 0 (fun _ => true) true n1 9 (List.take (Tryz.prog.cellsOf 9) (List.drop 2 [a0, a1, a2, a3, a4, a5, a6, a7, a8, a9, a10, a11])) = some y2 := hg 2 _ rfl
      rw [c_string] at g
      exact g
    have g3 : DataW.trod enc Tryz.prog W 0 (fun _ => true) true n1 32 [a3] = some y3 := by
      have g : DataW.trod enc Tryz.prog W 0 (fun _ => true) true n1 32 (List.take (Tryz.prog.cellsOf 32) (List.drop 3 [a0, a1, a2, a3, a4, a5, a6, a7, a8, a9, a10, a11])) = some y3 := hg 3 _ rfl
      rw [c_rec] at g
      exact g
    have g4 : DataW.trod enc Tryz.prog W 0 (fun _ => true) true n1 32 [a4] = some y4 := by
      have g : DataW.trod enc Tryz.prog W 0 (fun _ => true) true n1 32 (List.take (Tryz.prog.cellsOf 32) (List.drop 4 [a0, a1, a2, a3, a4, a5, a6, a7, a8, a9, a10, a11])) = some y4 := hg 4 _ rfl
      rw [c_rec] at g
      exact g
    have g5 : DataW.trod enc Tryz.prog W 0 (fun _ => true) true n1 3 [a5] = some y5 := by
      have g : DataW.trod enc Tryz.prog W 0 (fun _ => true) true n1 3 (List.take (Tryz.prog.cellsOf 3) (List.drop 5 [a0, a1, a2, a3, a4, a5, a6, a7, a8, a9, a10, a11])) = some y5 := hg 5 _ rfl
      rw [c_int] at g
      exact g
    have g6 : DataW.trod enc Tryz.prog W 0 (fun _ => true) true n1 37 [a6] = some y6 := by
      have g : DataW.trod enc Tryz.prog W 0 (fun _ => true) true n1 37 (List.take (Tryz.prog.cellsOf 37) (List.drop 6 [a0, a1, a2, a3, a4, a5, a6, a7, a8, a9, a10, a11])) = some y6 := hg 6 _ rfl
      rw [c_ints] at g
      exact g
    have g7 : DataW.trod enc Tryz.prog W 0 (fun _ => true) true n1 31 [a7] = some y7 := by
      have g : DataW.trod enc Tryz.prog W 0 (fun _ => true) true n1 31 (List.take (Tryz.prog.cellsOf 31) (List.drop 7 [a0, a1, a2, a3, a4, a5, a6, a7, a8, a9, a10, a11])) = some y7 := hg 7 _ rfl
      rw [c_vals] at g
      exact g
    have g8 : DataW.trod enc Tryz.prog W 0 (fun _ => true) true n1 31 [a8] = some y8 := by
      have g : DataW.trod enc Tryz.prog W 0 (fun _ => true) true n1 31 (List.take (Tryz.prog.cellsOf 31) (List.drop 8 [a0, a1, a2, a3, a4, a5, a6, a7, a8, a9, a10, a11])) = some y8 := hg 8 _ rfl
      rw [c_vals] at g
      exact g
    have g9 : DataW.trod enc Tryz.prog W 0 (fun _ => true) true n1 3 [a9] = some y9 := by
      have g : DataW.trod enc Tryz.prog W 0 (fun _ => true) true n1 3 (List.take (Tryz.prog.cellsOf 3) (List.drop 9 [a0, a1, a2, a3, a4, a5, a6, a7, a8, a9, a10, a11])) = some y9 := hg 9 _ rfl
      rw [c_int] at g
      exact g
    have g10 : DataW.trod enc Tryz.prog W 0 (fun _ => true) true n1 3 [a10] = some y10 := by
      have g : DataW.trod enc Tryz.prog W 0 (fun _ => true) true n1 3 (List.take (Tryz.prog.cellsOf 3) (List.drop 10 [a0, a1, a2, a3, a4, a5, a6, a7, a8, a9, a10, a11])) = some y10 := hg 10 _ rfl
      rw [c_int] at g
      exact g
    have g11 : DataW.trod enc Tryz.prog W 0 (fun _ => true) true n1 3 [a11] = some y11 := by
      have g : DataW.trod enc Tryz.prog W 0 (fun _ => true) true n1 3 (List.take (Tryz.prog.cellsOf 3) (List.drop 11 [a0, a1, a2, a3, a4, a5, a6, a7, a8, a9, a10, a11])) = some y11 := hg 11 _ rfl
      rw [c_int] at g
      exact g
    have hm : ∀ (i : Nat), ∀ z ∈ ([y0, y1, y2, y3, y4, y5, y6, y7, y8, y9, y10, y11] : List (DataW H × List MemPlace)), ∀ b ∈ z.2, b.block < W.heap.size := fun _ z hz b hb => hlt b (by rw [u2]; exact List.mem_flatMap.2 ⟨z, hz, hb⟩)
    obtain ⟨z0, e0, _, wf0⟩ := DataW.trod_int Tryz.underlying3 g0
    simp at e0
    subst e0
    have bd0 := bounds_i64 wf0
    obtain ⟨z1, e1, _, hz1⟩ := DataW.trod_string Tryz.underlying9 g1
    simp at e1
    subst e1
    obtain ⟨z2, e2, _, hz2⟩ := DataW.trod_string Tryz.underlying9 g2
    simp at e2
    subst e2
    obtain ⟨l3, v3, w3⟩ := vals_cell Tryz.underlying32 Tryz.underlying53 (by kernel_rfl) ⟨rfl, rfl, rfl⟩ ⟨by kernel_rfl, by kernel_rfl, by kernel_rfl⟩ ⟨by kernel_rfl, by kernel_rfl, by kernel_rfl⟩ g3 (fun b hb => hm 0 y3 (by simp) b hb)
    obtain ⟨l4, v4, w4⟩ := vals_cell Tryz.underlying32 Tryz.underlying53 (by kernel_rfl) ⟨rfl, rfl, rfl⟩ ⟨by kernel_rfl, by kernel_rfl, by kernel_rfl⟩ ⟨by kernel_rfl, by kernel_rfl, by kernel_rfl⟩ g4 (fun b hb => hm 0 y4 (by simp) b hb)
    obtain ⟨z5, e5, _, wf5⟩ := DataW.trod_int Tryz.underlying3 g5
    simp at e5
    subst e5
    have bd5 := bounds_i64 wf5
    obtain ⟨l6, v6⟩ := ints_cell Tryz.underlying37 Tryz.underlying3 (by kernel_rfl) g6 (fun b hb => hm 0 y6 (by simp) b hb)
    obtain ⟨l7, v7, w7⟩ := vals_cell Tryz.underlying31 Tryz.underlying53 (by kernel_rfl) ⟨rfl, rfl, rfl⟩ ⟨by kernel_rfl, by kernel_rfl, by kernel_rfl⟩ ⟨by kernel_rfl, by kernel_rfl, by kernel_rfl⟩ g7 (fun b hb => hm 0 y7 (by simp) b hb)
    obtain ⟨l8, v8, w8⟩ := vals_cell Tryz.underlying31 Tryz.underlying53 (by kernel_rfl) ⟨rfl, rfl, rfl⟩ ⟨by kernel_rfl, by kernel_rfl, by kernel_rfl⟩ ⟨by kernel_rfl, by kernel_rfl, by kernel_rfl⟩ g8 (fun b hb => hm 0 y8 (by simp) b hb)
    obtain ⟨z9, e9, _, wf9⟩ := DataW.trod_int Tryz.underlying3 g9
    simp at e9
    subst e9
    have bd9 := bounds_i64 wf9
    obtain ⟨z10, e10, _, wf10⟩ := DataW.trod_int Tryz.underlying3 g10
    simp at e10
    subst e10
    have bd10 := bounds_i64 wf10
    obtain ⟨z11, e11, _, wf11⟩ := DataW.trod_int Tryz.underlying3 g11
    simp at e11
    subst e11
    have bd11 := bounds_i64 wf11
    exact ⟨⟨z0, z1, z2, l3, l4, z5, l6, l7, l8, z9, z10, z11⟩, a3, a4, a6, a7, a8, rfl, v3, v4, v6, v7, v8, w3, w4, w7, w8, hz1, hz2, by unfold InI64; dsimp only; omega, by unfold InI64; dsimp only; omega, by unfold InI64; dsimp only; omega⟩
set_option maxRecDepth 100000 in
theorem open_op {r : Reach} {base : Nat} {v : Value} {d : DataW H} {ps : List MemPlace} (hval : Value.okWide Tryz.prog W r base 39 v) (h : DataW.Trod enc Tryz.prog W 0 (fun _ => true) true 39 v d ps) (hlt : ∀ x ∈ ps, x.block < W.heap.size) :
    ∃ o : TOp, OpIs W W.heap.size v o ∧ OpShort o := by
  obtain ⟨cs, rfl, hsz⟩ := okWide_struct Tryz.underlying39 hval
  obtain ⟨fuel, hf⟩ := h
  obtain ⟨o, rv, ov, fv, lv, hv, e, h1, h2, h3, h4, h5, h6⟩ := op_cells (cs := cs.toList) (by rw [Array.length_toList, hsz]; kernel_rfl) hf hlt
  have e2 : cs = opCells o rv ov fv lv hv := Array.ext' e
  subst e2
  exact ⟨o, ⟨rv, ov, fv, lv, hv, rfl, h1, h2, h3, h4, h5⟩, h6⟩
end
end Go.Proofs.YtknfjajmnlpfjaaGreat

/- An argument that is a row of values (structs of two numbers and a text), opened. -/
import Derived.Test.YtknfjajmnlpfjaaGreatOpen
import Derived.Test.YtknfjajmnlpfjaaGreatVals
import Derived.Deep.Slices
namespace Go.Proofs.YtknfjajmnlpfjaaGreat
open Go.ChangeShapes Go.WideShapes Go.ChangeAt Go.RowKit

instance : Inhabited TVal := ⟨⟨0, 0, ⟨#[]⟩⟩⟩

section
variable {H : Type} {enc : TypeId × Value → H} {P : Program} {W : World}
theorem vals_of_cells {W : World} {a : Addr} {n B : Nat} {f : Nat → TVal} (hB : 0 < n → a.block < B)
    (h : ∀ i, i < n → W.cell? (a.add (i * 3)) = some (.int .i64 (f i).k) ∧ W.cell? (a.add (i * 3 + 1)) = some (.int .i64 (f i).n) ∧ W.cell? (a.add (i * 3 + 2)) = some (.string (f i).s)) :
    HasVals W B (some a) n ((List.range n).map f) := by
  refine ⟨by simp, by rw [valCells_len]; simp, fun k u hu => ⟨a, rfl, ?_, ?_⟩⟩
  · have hk := (List.getElem?_eq_some_iff.1 hu).1
    rw [valCells_len] at hk
    simp at hk
    exact hB (by omega)
  · have hk := (List.getElem?_eq_some_iff.1 hu).1
    rw [valCells_len] at hk
    simp at hk
    have hi : k / 3 < n := by omega
    have hv : ((List.range n).map f)[k / 3]? = some (f (k / 3)) := by simp [hi]
    obtain ⟨c0, c1, c2⟩ := valCells_at _ _ _ hv
    obtain ⟨d0, d1, d2⟩ := h _ hi
    have hj : k = k / 3 * 3 ∨ k = k / 3 * 3 + 1 ∨ k = k / 3 * 3 + 2 := by omega
    rcases hj with e | e | e
    · rw [e] at hu ⊢
      rw [c0] at hu
      rw [d0, ← hu]
    · rw [e] at hu ⊢
      rw [c1] at hu
      rw [d1, ← hu]
    · rw [e] at hu ⊢
      rw [c2] at hu
      rw [d2, ← hu]

theorem open_vals {t e : TypeId} {f0 f1 f2 : Field} {r : Reach} {base : Nat} {v : Value} {d : DataW H} {ps : List MemPlace} (ht : P.underlying t = some (.slice e)) (he : P.underlying e = some (.struct #[f0, f1, f2])) (hC : P.cellsOf e = 3)
    (ho : f0.offset = 0 ∧ f1.offset = 1 ∧ f2.offset = 2) (hc : P.cellsOf f0.type = 1 ∧ P.cellsOf f1.type = 1 ∧ P.cellsOf f2.type = 1)
    (hu : P.underlying f0.type = some (.int .i64) ∧ P.underlying f1.type = some (.int .i64) ∧ P.underlying f2.type = some .string)
    (hval : Value.okWide P W r base t v) (h : DataW.Trod enc P W 0 (fun _ => true) true t v d ps) (hlt : ∀ x ∈ ps, x.block < W.heap.size) :
    ∃ (A : Option Addr) (n c : Nat) (l : List TVal), v = .slice A n c ∧ n ≤ maxLen ∧ n ≤ c ∧ HasVals W W.heap.size A n l ∧ (∀ u ∈ l, InI64 u.n) ∧ ∀ u ∈ l, u.s.size ≤ maxLen := by
  obtain ⟨A, n, c, rfl⟩ := okWide_slice ht hval
  obtain ⟨fuel, hf⟩ := h
  rcases Go.Deep.open_slice ht hf with ⟨hcs, _⟩ | ⟨a, len, cap, m, n', D, Pl, hcs, _, hle, hmax, hm, hx, hi⟩
  · simp [Value.cells] at hcs
    obtain ⟨rfl, rfl, rfl⟩ := hcs
    exact ⟨none, 0, 0, [], rfl, by simp [maxLen], Nat.le_refl _, HasVals.nil _ _ _, by simp, by simp⟩
  · simp [Value.cells] at hcs
    obtain ⟨rfl, rfl, rfl⟩ := hcs
    simp only [if_true] at hm
    have hm2 := hm.symm
    subst hm2
    have hone : ∀ i, i < n → ∃ u : TVal, (W.cell? (a.add (i * 3)) = some (.int .i64 u.k) ∧ W.cell? (a.add (i * 3 + 1)) = some (.int .i64 u.n) ∧ W.cell? (a.add (i * 3 + 2)) = some (.string u.s)) ∧ InI64 u.n ∧ u.s.size ≤ maxLen := by
      intro i hin
      obtain ⟨cs', hcells, htrod⟩ := hi i (by omega)
      rw [hC] at hcells
      obtain ⟨_, hlen, hat⟩ := World.cells?_some hcells
      obtain ⟨xs, n1, _, _, _, _, hg⟩ := DataW.trod_struct he htrod
      match cs', hlen with
      | [w0, w1, w2], _ =>
        have g0 := hg 0 f0 rfl
        have g1 := hg 1 f1 rfl
        have g2 := hg 2 f2 rfl
        rw [ho.1, hc.1] at g0
        rw [ho.2.1, hc.2.1] at g1
        rw [ho.2.2, hc.2.2] at g2
        have hxs : xs.length = 3 := by assumption
        match xs, hxs with
        | [y0, y1, y2], _ =>
          obtain ⟨z0, e0, _, _⟩ := DataW.trod_int hu.1 g0
          obtain ⟨z1, e1, _, wf1⟩ := DataW.trod_int hu.2.1 g1
          obtain ⟨z2, e2, _, hz2⟩ := DataW.trod_string hu.2.2 g2
          simp at e0 e1 e2
          subst e0
          subst e1
          subst e2
          have c0 := hat 0 (by omega)
          have c1 := hat 1 (by omega)
          have c2 := hat 2 (by omega)
          rw [Go.Deep.add_add] at c0 c1 c2
          have bd := bounds_i64 wf1
          exact ⟨⟨z0, z1, z2⟩, ⟨c0, c1, c2⟩, by unfold InI64; dsimp only; omega, hz2⟩
    obtain ⟨f, hfv⟩ := Go.Deep.choose_lt hone
    refine ⟨some a, n, c, (List.range n).map f, rfl, by omega, hle, vals_of_cells ?_ fun i hin => (hfv i hin).1, ?_, ?_⟩
    · intro hn
      simp only [Prod.mk.injEq] at hx
      obtain ⟨p, hp, hpb⟩ := row_block (a := a) (n := c * P.cellsOf e) (by rw [hC]; omega)
      rw [← hpb]
      refine hlt p ?_
      rw [hx.2]
      exact List.mem_append_left _ hp
    · intro u hu'
      obtain ⟨i, hin, rfl⟩ := List.mem_map.1 hu'
      exact (hfv i (List.mem_range.1 hin)).2.1
    · intro u hu'
      obtain ⟨i, hin, rfl⟩ := List.mem_map.1 hu'
      exact (hfv i (List.mem_range.1 hin)).2.2
end

end Go.Proofs.YtknfjajmnlpfjaaGreat

/- Arguments that are ranges, or rows of ranges, opened. -/
import Derived.Test.YtijcaefpainhcaaRngA
import Derived.Test.YtijcaefpainhcaaOpen
import Derived.Deep.Slices
import Derived.OpenShut
namespace Go.Proofs.Ytijcaefpainhcaa
open Go.ChangeShapes Go.WideShapes Go.ChangeAt Go.RowKit

section
variable {H : Type} {enc : TypeId × Value → H} {P : Program} {W : World}
theorem rgs_of_trod {t e : TypeId} {f0 f1 : Field} {fuel : Nat} {v : Value} {x : DataW H × List MemPlace} (ht : P.underlying t = some (.slice e)) (he : P.underlying e = some (.struct #[f0, f1])) (hC : P.cellsOf e = 2)
    (ho : f0.offset = 0 ∧ f1.offset = 1) (hc : P.cellsOf f0.type = 1 ∧ P.cellsOf f1.type = 1)
    (hu : P.underlying f0.type = some .string ∧ P.underlying f1.type = some .string)
    (hf : DataW.trod enc P W 0 (fun _ => true) true fuel t [v] = some x) (hlt : ∀ y ∈ x.2, y.block < W.heap.size) :
    ∃ (A : Option Addr) (n c : Nat) (l : List Rg), v = .slice A n c ∧ n ≤ c ∧ c ≤ maxLen ∧ HasRgs W W.heap.size A n l ∧ ∀ u ∈ l, u.lo.size ≤ maxLen ∧ u.hi.size ≤ maxLen := by
  rcases Go.Deep.open_slice ht hf with ⟨hcs, _⟩ | ⟨a, n, c, m, n', D, Pl, hcs, _, hle, hmax, hm, hx, hi⟩
  · simp at hcs
    subst hcs
    exact ⟨none, 0, 0, [], rfl, Nat.le_refl _, by simp [maxLen], HasRgs.nil _ _ _, by simp⟩
  · simp at hcs
    subst hcs
    simp only [if_true] at hm
    have hm2 := hm.symm
    subst hm2
    have hone : ∀ i, i < n → ∃ u : Rg, (W.cell? (a.add (i * 2)) = some (.string u.lo) ∧ W.cell? (a.add (i * 2 + 1)) = some (.string u.hi)) ∧ u.lo.size ≤ maxLen ∧ u.hi.size ≤ maxLen := by
      intro i hin
      obtain ⟨cs', hcells, htrod⟩ := hi i (by omega)
      rw [hC] at hcells
      obtain ⟨_, hlen, hat⟩ := World.cells?_some hcells
      obtain ⟨xs, n1, _, _, _, _, hg⟩ := DataW.trod_struct he htrod
      match cs', hlen with
      | [w0, w1], _ =>
        have g0 := hg 0 f0 rfl
        have g1 := hg 1 f1 rfl
        rw [ho.1, hc.1] at g0
        rw [ho.2, hc.2] at g1
        have hxs : xs.length = 2 := by assumption
        match xs, hxs with
        | [y0, y1], _ =>
          obtain ⟨z0, e0, _, hz0⟩ := DataW.trod_string hu.1 g0
          obtain ⟨z1, e1, _, hz1⟩ := DataW.trod_string hu.2 g1
          simp at e0 e1
          subst e0
          subst e1
          have c0 := hat 0 (by omega)
          have c1 := hat 1 (by omega)
          rw [Go.Deep.add_add] at c0 c1
          exact ⟨⟨z0, z1⟩, ⟨c0, c1⟩, hz0, hz1⟩
    obtain ⟨f, hfv⟩ := Go.Deep.choose_lt hone
    refine ⟨some a, n, c, (List.range n).map f, rfl, hle, hmax, ⟨by simp, ?_⟩, fun u hu' => ?_⟩
    · refine ⟨by rw [rgCells_len]; simp, fun k u hu' => ⟨a, rfl, ?_, ?_⟩⟩
      · obtain ⟨p, hp, hpb⟩ := row_block (a := a) (n := c * P.cellsOf e) (by
          have := (List.getElem?_eq_some_iff.1 hu').1
          rw [rgCells_len] at this
          simp at this
          rw [hC]; omega)
        rw [← hpb]
        refine hlt p ?_
        rw [hx]
        exact List.mem_append_left _ hp
      · have hk := (List.getElem?_eq_some_iff.1 hu').1
        rw [rgCells_len] at hk
        simp at hk
        have hin : k / 2 < n := by omega
        have hgi : ((List.range n).map f)[k / 2]? = some (f (k / 2)) := by simp [hin]
        obtain ⟨c0, c1⟩ := rgCells_at _ _ _ hgi
        obtain ⟨⟨d0, d1⟩, -⟩ := hfv (k / 2) hin
        have hcase : k = k / 2 * 2 ∨ k = k / 2 * 2 + 1 := by omega
        rcases hcase with e | e
        · rw [e, c0] at hu'; rw [e, d0, ← hu']
        · rw [e, c1] at hu'; rw [e, d1, ← hu']
    · obtain ⟨i, hin, rfl⟩ := List.mem_map.1 hu'
      exact (hfv i (List.mem_range.1 hin)).2
theorem open_rgs {t e : TypeId} {f0 f1 : Field} {r : Reach} {base : Nat} {v : Value} {d : DataW H} {ps : List MemPlace} (ht : P.underlying t = some (.slice e)) (he : P.underlying e = some (.struct #[f0, f1])) (hC : P.cellsOf e = 2)
    (ho : f0.offset = 0 ∧ f1.offset = 1) (hc : P.cellsOf f0.type = 1 ∧ P.cellsOf f1.type = 1)
    (hu : P.underlying f0.type = some .string ∧ P.underlying f1.type = some .string)
    (hval : Value.okWide P W r base t v) (h : DataW.Trod enc P W 0 (fun _ => true) true t v d ps) (hlt : ∀ x ∈ ps, x.block < W.heap.size) :
    ∃ (A : Option Addr) (n c : Nat) (l : List Rg), v = .slice A n c ∧ n ≤ c ∧ c ≤ maxLen ∧ HasRgs W W.heap.size A n l ∧ ∀ u ∈ l, u.lo.size ≤ maxLen ∧ u.hi.size ≤ maxLen := by
  obtain ⟨A, n, c, rfl⟩ := okWide_slice ht hval
  obtain ⟨fuel, hf⟩ := h
  exact rgs_of_trod ht he hC ho hc hu (by simpa [Value.cells] using hf) hlt
theorem open_rg {t : TypeId} {f0 f1 : Field} {r : Reach} {base : Nat} {v : Value} {d : DataW H} {ps : List MemPlace} (ht : P.underlying t = some (.struct #[f0, f1])) (hC : P.cellsOf t = 2) (ho : f0.offset = 0 ∧ f1.offset = 1) (hc : P.cellsOf f0.type = 1 ∧ P.cellsOf f1.type = 1)
    (hu : P.underlying f0.type = some .string ∧ P.underlying f1.type = some .string) (hval : Value.okWide P W r base t v) (h : DataW.Trod enc P W 0 (fun _ => true) true t v d ps) :
    ∃ x y : ByteArray, v = .agg #[.string x, .string y] ∧ x.size ≤ maxLen ∧ y.size ≤ maxLen := by
  obtain ⟨cs, rfl, hsz⟩ := okWide_struct ht hval
  obtain ⟨fuel, hf⟩ := h
  rw [hC] at hsz
  obtain ⟨y0, y1, n1, hx, _, g0, g1⟩ := trod_struct2 ht hf
  obtain ⟨l⟩ := cs
  match l, hsz with
  | [u0, u1], _ =>
    rw [ho.1, hc.1] at g0
    rw [ho.2, hc.2] at g1
    obtain ⟨z0, e0, _, h0⟩ := DataW.trod_string hu.1 g0
    obtain ⟨z1, e1, _, h1⟩ := DataW.trod_string hu.2 g1
    simp [Value.cells] at e0 e1
    subst e0
    subst e1
    exact ⟨z0, z1, rfl, h0, h1⟩
end

end Go.Proofs.Ytijcaefpainhcaa

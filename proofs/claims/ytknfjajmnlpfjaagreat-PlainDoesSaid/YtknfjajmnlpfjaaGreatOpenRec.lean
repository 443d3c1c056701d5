/- Arguments that are an index (a struct of a number and a list of numbers), or an array of two numbers or texts, opened. -/
import Derived.Test.YtknfjajmnlpfjaaGreatOpenVals
import Derived.Test.YtknfjajmnlpfjaaGreatRecA
import Derived.OpenShut
namespace Go.Proofs.YtknfjajmnlpfjaaGreat
open Go.ChangeShapes Go.WideShapes Go.ChangeAt Go.RowKit

section
variable {H : Type} {enc : TypeId × Value → H} {P : Program} {W : World}
theorem open_index {t e : TypeId} {f0 f1 : Field} {r : Reach} {base : Nat} {v : Value} {d : DataW H} {ps : List MemPlace} (ht : P.underlying t = some (.struct #[f0, f1])) (hC : P.cellsOf t = 2) (ho : f0.offset = 0 ∧ f1.offset = 1) (hc : P.cellsOf f0.type = 1 ∧ P.cellsOf f1.type = 1)
    (hu : P.underlying f0.type = some (.int .i64) ∧ P.underlying f1.type = some (.slice e)) (he : P.underlying e = some (.int .i64)) (hce : P.cellsOf e = 1)
    (hval : Value.okWide P W r base t v) (h : DataW.Trod enc P W 0 (fun _ => true) true t v d ps) (hlt : ∀ x ∈ ps, x.block < W.heap.size) :
    ∃ (id : Int) (A : Option Addr) (n c : Nat) (zs : List Int), v = .agg #[.int .i64 id, .slice A n c] ∧ n ≤ maxLen ∧ n ≤ c ∧ HasInts W W.heap.size A n zs := by
  obtain ⟨cs, rfl, hsz⟩ := okWide_struct ht hval
  obtain ⟨fuel, hf⟩ := h
  rw [hC] at hsz
  obtain ⟨y0, y1, n1, hx, _, g0, g1⟩ := trod_struct2 ht hf
  obtain ⟨l⟩ := cs
  match l, hsz with
  | [u0, u1], _ =>
    rw [ho.1, hc.1] at g0
    rw [ho.2, hc.2] at g1
    obtain ⟨z0, e0, _, _⟩ := DataW.trod_int hu.1 g0
    simp [Value.cells] at e0
    subst e0
    simp only [Prod.mk.injEq] at hx
    rcases open_ints hu.2 he hce g1 with ⟨hcs, _⟩ | ⟨a, len, cap, zs, hcs, _, hle, hmax, hlen, hy, hcell, _⟩
    · simp [Value.cells] at hcs
      subst hcs
      exact ⟨z0, none, 0, 0, [], rfl, by simp [maxLen], Nat.le_refl _, ⟨rfl, Has.nil _ _ _⟩⟩
    · simp [Value.cells] at hcs
      subst hcs
      simp only [if_true] at hlen
      refine ⟨z0, some a, len, cap, zs.take len, rfl, by omega, hle, ⟨by simp; omega, ⟨by simp [intCells]; omega, fun k u hu' => ⟨a, rfl, ?_, ?_⟩⟩⟩⟩
      · have hk : k < len := by
          have := (List.getElem?_eq_some_iff.1 hu').1
          simp [intCells] at this
          omega
        obtain ⟨p, hp, hpb⟩ := row_block (a := a) (n := zs.length) (by omega)
        rw [← hpb]
        refine hlt p ?_
        rw [hx.2, hy]
        exact List.mem_append_right _ hp
      · have hk : k < len := by
          have := (List.getElem?_eq_some_iff.1 hu').1
          simp [intCells] at this
          omega
        have hz : k < zs.length := by omega
        rw [hcell k hz, ← hu']
        simp [intCells, hk, hz]

theorem okWide_array {n : Nat} {e t : TypeId} {r : Reach} {base : Nat} {v : Value} (ht : P.underlying t = some (.array n e)) (h : Value.okWide P W r base t v) : ∃ cs, v = .agg cs ∧ cs.size = P.cellsOf t := by
  simp only [Value.okWide, ht] at h
  obtain ⟨cs, h1, h2, _⟩ := h
  exact ⟨cs, h1, h2⟩
theorem open_int2 {t e : TypeId} {r : Reach} {base : Nat} {v : Value} {d : DataW H} {ps : List MemPlace} (ht : P.underlying t = some (.array 2 e)) (hC : P.cellsOf t = 2) (he : P.underlying e = some (.int .i64)) (hce : P.cellsOf e = 1)
    (hval : Value.okWide P W r base t v) (h : DataW.Trod enc P W 0 (fun _ => true) true t v d ps) : ∃ x y : Int, v = .agg #[.int .i64 x, .int .i64 y] := by
  obtain ⟨cs, rfl, hsz⟩ := okWide_array ht hval
  obtain ⟨fuel, hf⟩ := h
  rw [hC] at hsz
  obtain ⟨xs, m, _, _, _, hl, hg⟩ := DataW.trod_array ht hf
  obtain ⟨l⟩ := cs
  match l, hsz, xs, hl with
  | [u0, u1], _, [y0, y1], _ =>
    have g0 := hg 0 (by omega)
    have g1 := hg 1 (by omega)
    rw [hce] at g0 g1
    obtain ⟨z0, e0, _, _⟩ := DataW.trod_int he g0
    obtain ⟨z1, e1, _, _⟩ := DataW.trod_int he g1
    simp [Value.cells] at e0 e1
    subst e0
    subst e1
    exact ⟨z0, z1, rfl⟩
theorem open_text2 {t e : TypeId} {r : Reach} {base : Nat} {v : Value} {d : DataW H} {ps : List MemPlace} (ht : P.underlying t = some (.array 2 e)) (hC : P.cellsOf t = 2) (he : P.underlying e = some .string) (hce : P.cellsOf e = 1)
    (hval : Value.okWide P W r base t v) (h : DataW.Trod enc P W 0 (fun _ => true) true t v d ps) : ∃ x y : ByteArray, v = .agg #[.string x, .string y] := by
  obtain ⟨cs, rfl, hsz⟩ := okWide_array ht hval
  obtain ⟨fuel, hf⟩ := h
  rw [hC] at hsz
  obtain ⟨xs, m, _, _, _, hl, hg⟩ := DataW.trod_array ht hf
  obtain ⟨l⟩ := cs
  match l, hsz, xs, hl with
  | [u0, u1], _, [y0, y1], _ =>
    have g0 := hg 0 (by omega)
    have g1 := hg 1 (by omega)
    rw [hce] at g0 g1
    obtain ⟨z0, e0, _, _⟩ := DataW.trod_string he g0
    obtain ⟨z1, e1, _, _⟩ := DataW.trod_string he g1
    simp [Value.cells] at e0 e1
    subst e0
    subst e1
    exact ⟨z0, z1, rfl⟩
end

end Go.Proofs.YtknfjajmnlpfjaaGreat

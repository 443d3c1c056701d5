/- An argument that is a row of rows of bytes, opened. -/
import Derived.Test.YtbiifmcfamgmfaaFrmD
import Derived.Test.YtbiifmcfamgmfaaOpen
import Derived.Deep.Slices
namespace Go.Proofs.Ytbiifmcfamgmfaa
open Go.ChangeShapes Go.WideShapes Go.ChangeAt Go.RowKit

section
variable {H : Type} {enc : TypeId × Value → H} {P : Program} {W : World}
theorem bytes_of_trod {t e : TypeId} {fuel : Nat} {v : Value} {x : DataW H × List MemPlace} (ht : P.underlying t = some (.slice e)) (he : P.underlying e = some (.int .u8)) (hc : P.cellsOf e = 1)
    (hf : DataW.trod enc P W 0 (fun _ => true) true fuel t [v] = some x) (hlt : ∀ y ∈ x.2, y.block < W.heap.size) :
    ∃ A n c l, v = .slice A n c ∧ n ≤ c ∧ c ≤ maxLen ∧ HasBytes W W.heap.size A n l := by
  rcases open_ints ht he hc hf with ⟨hcs, _⟩ | ⟨a, len, cap, zs, hcs, _, hle, hmax, hlen, hx, hcell, hwf⟩
  · simp at hcs
    subst hcs
    exact ⟨none, 0, 0, [], rfl, Nat.le_refl _, by simp [maxLen], Has.nil _ _ _⟩
  · simp at hcs
    subst hcs
    simp only [if_true] at hlen
    have hwf' : ∀ z ∈ zs.take len, (Lit.int .u8 z).wf = true := fun z hz => hwf z (List.mem_of_mem_take hz)
    refine ⟨some a, len, cap, asBytes (zs.take len), rfl, hle, hmax, ?_⟩
    unfold HasBytes
    rw [asBytes_cells hwf']
    refine ⟨by simp; omega, fun k u hu => ⟨a, rfl, ?_, ?_⟩⟩
    · have hk : k < len := by
        have := (List.getElem?_eq_some_iff.1 hu).1
        simp at this
        omega
      obtain ⟨p, hp, hpb⟩ := row_block (a := a) (n := zs.length) (by omega)
      rw [← hpb]
      refine hlt p ?_
      rw [hx]
      exact hp
    · have hk : k < len := by
        have := (List.getElem?_eq_some_iff.1 hu).1
        simp at this
        omega
      have hz : k < zs.length := by omega
      rw [hcell k hz, ← hu]
      simp [hk, hz]

theorem open_rs {t e b : TypeId} {r : Reach} {base : Nat} {v : Value} {d : DataW H} {ps : List MemPlace} (ht : P.underlying t = some (.slice e)) (hC : P.cellsOf e = 1) (he : P.underlying e = some (.slice b)) (hb : P.underlying b = some (.int .u8)) (hc : P.cellsOf b = 1)
    (hval : Value.okWide P W r base t v) (h : DataW.Trod enc P W 0 (fun _ => true) true t v d ps) (hlt : ∀ x ∈ ps, x.block < W.heap.size) :
    ∃ A n c rs, v = .slice A n c ∧ n ≤ maxLen ∧ n ≤ c ∧ HasRs W W.heap.size A n rs := by
  obtain ⟨A, n, c, rfl⟩ := okWide_slice ht hval
  obtain ⟨fuel, hf⟩ := h
  rcases Go.Deep.open_slice1 ht hC hf with ⟨hcs, _⟩ | ⟨a, len, cap, m, n', V, D, Pl, hcs, _, hle, hmax, hm, hx, hi⟩
  · simp [Value.cells] at hcs
    obtain ⟨rfl, rfl, rfl⟩ := hcs
    exact ⟨none, 0, 0, [], rfl, by simp [maxLen], Nat.le_refl _, Has.nil _ _ _, by simp⟩
  · simp [Value.cells] at hcs
    obtain ⟨rfl, rfl, rfl⟩ := hcs
    simp only [if_true] at hm
    have hm2 := hm.symm
    subst hm2
    simp only [Prod.mk.injEq] at hx
    have hone : ∀ i, i < n → ∃ l : List UInt8, ∃ A' z c', V i = .slice A' z c' ∧ z ≤ c' ∧ c' ≤ maxLen ∧ HasBytes W W.heap.size A' z l := by
      intro i hin
      obtain ⟨_, htrod⟩ := hi i (by omega)
      obtain ⟨A', z, c', l, e1, e2, e3, e4⟩ := bytes_of_trod he hb hc htrod (fun y hy => hlt y (by
        rw [hx.2]
        exact List.mem_append_right _ (List.mem_flatMap.2 ⟨i, List.mem_range.2 (by omega), hy⟩)))
      exact ⟨l, A', z, c', e1, e2, e3, e4⟩
    obtain ⟨f, hfv⟩ := Go.Deep.choose_lt hone
    refine ⟨some a, n, c, (List.range n).map fun i => (V i, f i), rfl, by omega, hle, ⟨by simp [brCells], fun k u hu => ⟨a, rfl, ?_, ?_⟩⟩, ?_⟩
    · obtain ⟨p, hp, hpb⟩ := row_block (a := a) (n := c) (by
        have := (List.getElem?_eq_some_iff.1 hu).1
        simp [brCells] at this
        omega)
      rw [← hpb]
      refine hlt p ?_
      rw [hx.2]
      exact List.mem_append_left _ hp
    · have hk : k < n := by
        have := (List.getElem?_eq_some_iff.1 hu).1
        simpa [brCells] using this
      rw [(hi k (by omega)).1, ← hu]
      simp [brCells, hk]
    · intro r hr
      obtain ⟨i, hin, rfl⟩ := List.mem_map.1 hr
      exact hfv i (List.mem_range.1 hin)
end

end Go.Proofs.Ytbiifmcfamgmfaa

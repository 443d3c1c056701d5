/- An argument that is a row of operations, opened. -/
import Derived.Test.YtknfjajmnlpfjaaGreatOpenOp
namespace Go.Proofs.YtknfjajmnlpfjaaGreat
open Go.ChangeShapes Go.WideShapes Go.ChangeAt Go.RowKit

instance : Inhabited TOp := ⟨⟨0, ⟨#[]⟩, ⟨#[]⟩, [], [], 0, [], [], [], 0, 0, 0⟩⟩
/-- n operations, from A on, in memory below block B -/
def HasOps (w : World) (B : Nat) (A : Option Addr) (n : Nat) (l : List TOp) : Prop :=
  l.length = n ∧ ∀ i o, l[i]? = some o → ∃ (a : Addr) (cs : Array Value), A = some a ∧ a.block < B ∧ cs.size = 12 ∧ (∀ k u, cs[k]? = some u → w.cell? ((a.add (i * 12)).add k) = some u) ∧ OpIs w B (.agg cs) o
theorem HasOps.belowOf {w w' : World} {B C n : Nat} {A : Option Addr} {l : List TOp} (h : HasOps w B A n l) (hb : Below C w w') (hC : B ≤ C) : HasOps w' B A n l :=
  ⟨h.1, fun i o ho => by
    obtain ⟨a, cs, e, h1, h2, h3, h4⟩ := h.2 i o ho
    exact ⟨a, cs, e, h1, h2, fun k u hu => (hb.cell (by rw [addr_block, addr_block]; omega)).trans (h3 k u hu), h4.belowOf hb hC⟩⟩
def IsOps (w : World) (B : Nat) (v : Value) (l : List TOp) : Prop := ∃ A n c, v = .slice A n c ∧ n ≤ c ∧ c ≤ maxLen ∧ HasOps w B A n l
theorem IsOps.belowOf {w w' : World} {B C : Nat} {v : Value} {l : List TOp} (h : IsOps w B v l) (hb : Below C w w') (hC : B ≤ C) : IsOps w' B v l := by
  obtain ⟨A, n, c, e, h1, h2, h3⟩ := h
  exact ⟨A, n, c, e, h1, h2, h3.belowOf hb hC⟩
section
variable {H : Type} {enc : TypeId × Value → H} {W : World}
theorem c_op : Tryz.prog.cellsOf 39 = 12 := by kernel_rfl
set_option maxRecDepth 100000 in
theorem open_ops {r : Reach} {base : Nat} {v : Value} {d : DataW H} {ps : List MemPlace} (hval : Value.okWide Tryz.prog W r base 22 v) (h : DataW.Trod enc Tryz.prog W 0 (fun _ => true) true 22 v d ps) (hlt : ∀ x ∈ ps, x.block < W.heap.size) :
    ∃ l : List TOp, IsOps W W.heap.size v l ∧ (∀ o ∈ l, OpShort o) ∧ l.length ≤ maxLen := by
  obtain ⟨A, n, c, rfl⟩ := okWide_slice Tryz.underlying22 hval
  obtain ⟨fuel, hf⟩ := h
  rcases Go.Deep.open_slice Tryz.underlying22 hf with ⟨hcs, _⟩ | ⟨a, len, cap, m, n', D, Pl, hcs, _, hle, hmax, hm, hx, hi⟩
  · simp [Value.cells] at hcs
    obtain ⟨rfl, rfl, rfl⟩ := hcs
    exact ⟨[], ⟨none, 0, 0, rfl, Nat.le_refl _, by simp [maxLen], rfl, by simp⟩, by simp, by simp⟩
  · simp [Value.cells] at hcs
    obtain ⟨rfl, rfl, rfl⟩ := hcs
    simp only [if_true] at hm
    have hm2 := hm.symm
    subst hm2
    simp only [Prod.mk.injEq] at hx
    have hone : ∀ i, i < n → ∃ o : TOp, (∃ cs : Array Value, cs.size = 12 ∧ (∀ k u, cs[k]? = some u → W.cell? ((a.add (i * 12)).add k) = some u) ∧ OpIs W W.heap.size (.agg cs) o) ∧ OpShort o := by
      intro i hin
      obtain ⟨cs', hcells, htrod⟩ := hi i (by omega)
      rw [c_op] at hcells
      obtain ⟨_, hlen, hat⟩ := World.cells?_some hcells
      obtain ⟨o, rv, ov, fv, lv, hv, e, h1, h2, h3, h4, h5, h6⟩ := op_cells hlen htrod (fun y hy => hlt y (by
        rw [hx.2]
        exact List.mem_append_right _ (List.mem_flatMap.2 ⟨i, List.mem_range.2 (by omega), hy⟩)))
      refine ⟨o, ⟨opCells o rv ov fv lv hv, rfl, fun k u hu => ?_, rv, ov, fv, lv, hv, rfl, h1, h2, h3, h4, h5⟩, h6⟩
      have hk : k < 12 := (Array.getElem?_eq_some_iff.1 hu).1
      have hc := hat k hk
      subst e
      rw [hc]
      rw [← hu, Array.getElem?_toList]
    obtain ⟨f, hfv⟩ := Go.Deep.choose_lt hone
    refine ⟨(List.range n).map f, ⟨some a, n, c, rfl, hle, by omega, by simp, fun i o ho => ?_⟩, ?_, by simp; omega⟩
    · have hin : i < n := by have := (List.getElem?_eq_some_iff.1 ho).1; simpa using this
      have e : f i = o := by simpa [hin] using ho
      obtain ⟨cs, g1, g2, g3⟩ := (hfv i hin).1
      refine ⟨a, cs, rfl, ?_, g1, g2, e ▸ g3⟩
      obtain ⟨p, hp, hpb⟩ := row_block (a := a) (n := c * Tryz.prog.cellsOf 39) (by rw [c_op]; omega)
      rw [← hpb]
      refine hlt p ?_
      rw [hx.2]
      exact List.mem_append_left _ hp
    · intro o ho
      obtain ⟨i, hin, rfl⟩ := List.mem_map.1 ho
      exact (hfv i (List.mem_range.1 hin)).2
end
end Go.Proofs.YtknfjajmnlpfjaaGreat

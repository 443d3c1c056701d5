/- An argument that is a row of acts (structs of a number, a text and a number: the plans of layer 12), opened. -/
import Derived.Test.YtaljojjpgkmiiaaOpen
import Derived.Deep.Slices
namespace Go.Proofs.Ytaljojjpgkmiiaa
open Go.ChangeShapes Go.WideShapes Go.ChangeAt Go.RowKit

structure Plan12 where
  k : Int
  s : ByteArray
  m : Int
instance : Inhabited Plan12 := ⟨⟨0, ⟨#[]⟩, 0⟩⟩
theorem plan_step (a : Addr) (p j : Nat) (hj : 0 < j) : a.add (p + j) = ⟨(a.add p).block, (a.add p).off + j, none⟩ := by
  rw [← addr_add]
  generalize a.add p = b
  unfold Addr.add
  rw [if_neg (by omega)]
/-- n acts, from A on, in memory below block B -/
def HasPlans (w : World) (B : Nat) (A : Option Addr) (n : Nat) (l : List Plan12) : Prop :=
  l.length = n ∧ ∀ i o, l[i]? = some o → ∃ a : Addr, A = some a ∧ a.block < B ∧ w.cell? (a.add (i * 3)) = some (.int .i64 o.k) ∧ w.cell? ⟨(a.add (i * 3)).block, (a.add (i * 3)).off + 1, none⟩ = some (.string o.s) ∧
    w.cell? ⟨(a.add (i * 3)).block, (a.add (i * 3)).off + 2, none⟩ = some (.int .i64 o.m)
theorem HasPlans.belowOf {w w' : World} {B C n : Nat} {A : Option Addr} {l : List Plan12} (h : HasPlans w B A n l) (hb : Below C w w') (hC : B ≤ C) : HasPlans w' B A n l :=
  ⟨h.1, fun i o ho => by
    obtain ⟨a, e, h1, h2, h3, h4⟩ := h.2 i o ho
    have k : ∀ p : Addr, p.block = a.block → w'.cell? p = w.cell? p := fun p hp => hb.cell (by omega)
    exact ⟨a, e, h1, (k _ (addr_block _ _)).trans h2, (k _ (by simp [addr_block])).trans h3, (k _ (by simp [addr_block])).trans h4⟩⟩
theorem HasPlans.at_ {w : World} {B n : Nat} {A : Option Addr} {l : List Plan12} (h : HasPlans w B A n l) {i : Nat} (hi : i < n) : ∃ (a : Addr) (o : Plan12), A = some a ∧ a.block < B ∧ l[i]? = some o ∧ w.cell? (a.add (i * 3)) = some (.int .i64 o.k) ∧ w.cell? ⟨(a.add (i * 3)).block, (a.add (i * 3)).off + 1, none⟩ = some (.string o.s) ∧
    w.cell? ⟨(a.add (i * 3)).block, (a.add (i * 3)).off + 2, none⟩ = some (.int .i64 o.m) := by
  have hil : i < l.length := by have := h.1; omega
  obtain ⟨a, e, r⟩ := h.2 i l[i] (List.getElem?_eq_getElem hil)
  exact ⟨a, _, e, r.1, List.getElem?_eq_getElem hil, r.2⟩
section
variable {H : Type} {enc : TypeId × Value → H} {P : Program} {W : World}
theorem open_acts12 {t e : TypeId} {f0 f1 f2 : Field} {r : Reach} {base : Nat} {v : Value} {d : DataW H} {ps : List MemPlace} (ht : P.underlying t = some (.slice e)) (he : P.underlying e = some (.struct #[f0, f1, f2])) (hC : P.cellsOf e = 3)
    (ho : f0.offset = 0 ∧ f1.offset = 1 ∧ f2.offset = 2) (hc : P.cellsOf f0.type = 1 ∧ P.cellsOf f1.type = 1 ∧ P.cellsOf f2.type = 1)
    (hu : P.underlying f0.type = some (.int .i64) ∧ P.underlying f1.type = some .string ∧ P.underlying f2.type = some (.int .i64))
    (hval : Value.okWide P W r base t v) (h : DataW.Trod enc P W 0 (fun _ => true) true t v d ps) (hlt : ∀ x ∈ ps, x.block < W.heap.size) :
    ∃ (A : Option Addr) (n c : Nat) (l : List Plan12), v = .slice A n c ∧ n ≤ maxLen ∧ n ≤ c ∧ HasPlans W W.heap.size A n l ∧ (∀ u ∈ l, u.s.size ≤ maxLen) ∧ ∀ u ∈ l, -9223372036854775808 ≤ u.m ∧ u.m ≤ 9223372036854775807 := by
  obtain ⟨A, n, c, rfl⟩ := okWide_slice ht hval
  obtain ⟨fuel, hf⟩ := h
  rcases Go.Deep.open_slice ht hf with ⟨hcs, _⟩ | ⟨a, len, cap, m, n', D, Pl, hcs, _, hle, hmax, hm, hx, hi⟩
  · simp [Value.cells] at hcs
    obtain ⟨rfl, rfl, rfl⟩ := hcs
    exact ⟨none, 0, 0, [], rfl, by simp [maxLen], Nat.le_refl _, ⟨rfl, by simp⟩, by simp, by simp⟩
  · simp [Value.cells] at hcs
    obtain ⟨rfl, rfl, rfl⟩ := hcs
    simp only [if_true] at hm
    have hm2 := hm.symm
    subst hm2
    have hone : ∀ i, i < n → ∃ u : Plan12, (W.cell? (a.add (i * 3)) = some (.int .i64 u.k) ∧ W.cell? ⟨(a.add (i * 3)).block, (a.add (i * 3)).off + 1, none⟩ = some (.string u.s) ∧ W.cell? ⟨(a.add (i * 3)).block, (a.add (i * 3)).off + 2, none⟩ = some (.int .i64 u.m)) ∧ u.s.size ≤ maxLen ∧ (-9223372036854775808 ≤ u.m ∧ u.m ≤ 9223372036854775807) := by
      intro i hin
      obtain ⟨cs', hcells, htrod⟩ := hi i (by omega)
      rw [hC] at hcells
      obtain ⟨_, hlen, hat⟩ := World.cells?_some hcells
      obtain ⟨xs, n1, _, _, _, _, hg⟩ := DataW.trod_struct he htrod
      match cs', hlen with
      | [w0, w1, w2], _ =>
        have g0 := hg 0 f0 rfl
        have g1 := hg 1 f1 rfl
        have g2 := hg 2 f2 rfl
        rw [ho.1, hc.1] at g0
        rw [ho.2.1, hc.2.1] at g1
        rw [ho.2.2, hc.2.2] at g2
        have hxs : xs.length = 3 := by assumption
        match xs, hxs with
        | [y0, y1, y2], _ =>
          obtain ⟨z0, e0, _, _⟩ := DataW.trod_int hu.1 g0
          obtain ⟨z1, e1, _, hz1⟩ := DataW.trod_string hu.2.1 g1
          obtain ⟨z2, e2, _, wf2⟩ := DataW.trod_int hu.2.2 g2
          simp at e0 e1 e2
          subst e0
          subst e1
          subst e2
          have c0 := hat 0 (by omega)
          have c1 := hat 1 (by omega)
          have c2 := hat 2 (by omega)
          rw [Go.Deep.add_add] at c0 c1 c2
          rw [plan_step a _ 1 (by omega)] at c1
          rw [plan_step a _ 2 (by omega)] at c2
          have b2 := bounds_i64 wf2
          exact ⟨⟨z0, z1, z2⟩, ⟨c0, c1, c2⟩, hz1, by dsimp only; omega⟩
    obtain ⟨f, hfv⟩ := Go.Deep.choose_lt hone
    refine ⟨some a, n, c, (List.range n).map f, rfl, by omega, hle, ⟨by simp, fun i o hio => ?_⟩, ?_, ?_⟩
    · have hin : i < n := by have := (List.getElem?_eq_some_iff.1 hio).1; simpa using this
      have eo : f i = o := by simpa [hin] using hio
      refine ⟨a, rfl, ?_, eo ▸ (hfv i hin).1⟩
      simp only [Prod.mk.injEq] at hx
      obtain ⟨p, hp, hpb⟩ := row_block (a := a) (n := c * P.cellsOf e) (by rw [hC]; omega)
      rw [← hpb]
      refine hlt p ?_
      rw [hx.2]
      exact List.mem_append_left _ hp
    · intro u hu'
      obtain ⟨i, hin, rfl⟩ := List.mem_map.1 hu'
      exact (hfv i (List.mem_range.1 hin)).2.1
    · intro u hu'
      obtain ⟨i, hin, rfl⟩ := List.mem_map.1 hu'
      exact (hfv i (List.mem_range.1 hin)).2.2
end

end Go.Proofs.Ytaljojjpgkmiiaa

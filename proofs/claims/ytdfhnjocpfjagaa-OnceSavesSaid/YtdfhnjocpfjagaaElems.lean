/- Rows of elements of any size: append onto them, how they stay. -/
import Derived.Test.YtdfhnjocpfjagaaOwn
import Derived.Lib.Hide
namespace Go.Proofs.Ytdfhnjocpfjagaa
open Go.RowKit

/-- elements of type e take so many cells and so many bytes; z is their zero value -/
structure ElemN (P : Program) (e : TypeId) (size bytes : Nat) (z : Value) : Prop where
  info : (P.info? e).map (fun i => (i.zero, i.size, i.bytes)) = some (some z, size, bytes)
  cells : z.cells.size = size
theorem ElemN.get {P : Program} {e : TypeId} {size bytes : Nat} {z : Value} (h : ElemN P e size bytes z) : ∃ i, P.info? e = some i ∧ i.zero = some z ∧ i.size = size ∧ i.bytes = bytes := by
  have hi := h.info
  cases hp : P.info? e with
  | none => rw [hp] at hi; simp at hi
  | some i =>
    rw [hp] at hi
    simp only [Option.map_some, Option.some.injEq, Prod.mk.injEq] at hi
    exact ⟨i, rfl, hi.1, hi.2.1, hi.2.2⟩

section
variable {P : Program} {w : World}
theorem Has.of_ownN {base n size : Nat} {e : TypeId} {c : Nat} {A : Option Addr} {xs : List Value} (h : w.ownsRow base e size (.slice A n c) n xs) : Has w w.heap.size A (n * size) xs := by
  refine ⟨h.1, fun k u hu => ?_⟩
  rcases h.2 with ⟨hv, hn⟩ | ⟨g, cap, cur, hv, _, hh, _⟩
  · have := h.1
    subst hn
    have : xs = [] := List.eq_nil_of_length_eq_zero (by omega)
    subst this
    simp at hu
  · injection hv with hA _ _
    subst hA
    exact ⟨_, rfl, (Array.getElem?_eq_some_iff.1 hh).1, h.cells (g := g) rfl k u hu⟩
theorem own_sliceN {B m size : Nat} {e : TypeId} {v : Value} {xs : List Value} (h : w.ownsRow B e size v m xs) : ∃ A c, v = .slice A m c ∧ m ≤ c ∧ c ≤ maxLen ∧ Has w w.heap.size A (m * size) xs := by
  have h0 := h
  rcases h.2 with ⟨hv, hn⟩ | ⟨g, cap, cur, hv, _, _, hc, hm, _⟩
  · subst hn
    subst hv
    exact ⟨none, 0, rfl, Nat.le_refl _, by simp [maxLen], Has.of_ownN h0⟩
  · subst hv
    exact ⟨_, cap, rfl, hc, hm, Has.of_ownN h0⟩
theorem own_belowN {w' : World} {B m size : Nat} {e : TypeId} {v : Value} {xs : List Value} (h : w.ownsRow B e size v m xs) (hb : Below w.heap.size w w') : w'.ownsRow B e size v m xs := by
  refine ⟨h.1, ?_⟩
  rcases h.2 with hn | ⟨g, cap, cur, hv, hB, hg, rest⟩
  · exact .inl hn
  · exact .inr ⟨g, cap, cur, hv, hB, (hb.block g (Array.getElem?_eq_some_iff.1 hg).1).trans hg, rest⟩
theorem own_baseN {B B' m size : Nat} {e : TypeId} {v : Value} {xs : List Value} (h : w.ownsRow B e size v m xs) (hB : B' ≤ B) : w.ownsRow B' e size v m xs := by
  refine ⟨h.1, ?_⟩
  rcases h.2 with hn | ⟨g, cap, cur, hv, hb, rest⟩
  · exact .inl hn
  · exact .inr ⟨g, cap, cur, hv, Nat.le_trans hB hb, rest⟩

/-- append onto a row of the call's own, of elements of so many cells; the source nil, empty or not -/
theorem run_append_hasN {t ty e : TypeId} {size bytes : Nat} {z : Value} (he : ElemN P e size bytes z) (hs0 : 0 < size) (ht : P.underlying t = some (.slice e)) {B m : Nat} {v : Value} {xs : List Value} (hown : w.ownsRow B e size v m xs)
    {C n : Nat} {A : Option Addr} {ys : List Value} (c : Nat) (hr : Has w C A (n * size) ys) (h1 : ∀ u ∈ ys, u.oneCell' = true) (h63 : m + n ≤ maxLen) (hby : (m + n) * bytes ≤ 140737488355328) (hB : B ≤ w.heap.size) :
    ∃ v' w', (Builtin.append_ #[t, t] ty #[v, .slice A n c]).run P w = .ok v' w' ∧ w'.ownsRow B e size v' (m + n) (xs ++ ys) ∧ w.grownBy w' v.ownBlock ∧
      (v'.ownBlock = v.ownBlock ∨ v'.ownBlock = some w.heap.size) := by
  obtain ⟨i, hi, hz, hs, hb⟩ := he.get
  cases A with
  | none =>
    have hn : n = 0 := by
      rcases Nat.eq_zero_or_pos n with h0 | h0
      · exact h0
      · obtain ⟨a, e, _⟩ := hr.cell (k := 0) (Nat.mul_pos h0 hs0); cases e
    subst hn
    have hy : ys = [] := List.eq_nil_of_length_eq_zero (by rw [hr.1]; omega)
    subst hy
    refine ⟨v, w, ?_, by simpa using hown, World.grownBy.refl w _, .inl rfl⟩
    rcases hown.2 with ⟨rfl, rfl⟩ | ⟨g, cap, cur, rfl, _, _, hnc, _⟩
    · simp [Builtin.append_, run_underlying ht, sizeOf, typeInfo, hi, Builtin.lenOf, Builtin.firstCells]
    · simp [Builtin.append_, run_underlying ht, sizeOf, typeInfo, hi, Builtin.lenOf, Builtin.firstCells, hnc, storeCells]
  | some ad =>
    have hcells : ∀ j u, ys[j]? = some u → w.cell? (ad.add j) = some u := fun j u hu => by
      obtain ⟨a', e', _, hc⟩ := hr.2 j u hu
      injection e' with e'
      subst e'
      exact hc
    obtain ⟨v', w', hrun, h2, h3, _, h5⟩ := run_append_own_at (P := P) w B t ty e i z size bytes ht hi hz hs hb he.cells hs0 v m xs hown ad n c ys hr.1 hcells h1 h63 hby hB
    exact ⟨v', w', hrun, h2, h3, h5⟩
theorem wpList_append_hasN {ops : Array Oper} {rest : List Oper} {o : Oper} {a : Act} {Q : Exit → Act → World → Prop} (hgd : o.guard = none) (s x : Operand) (t : TypeId)
    (ho : o.op = .call { callee := .builtin .append, args := #[s, x], argTypes := #[t, t] }) (e : TypeId) {size bytes : Nat} {z : Value} (he : ElemN P e size bytes z) (hs0 : 0 < size) (ht : P.underlying t = some (.slice e))
    {B m : Nat} {v : Value} {xs : List Value} (hs : a.eval s = v) (hown : w.ownsRow B e size v m xs) {C n c : Nat} {A : Option Addr} {ys : List Value} (hx : a.eval x = .slice A n c) (hr : Has w C A (n * size) ys)
    (h1 : ∀ u ∈ ys, u.oneCell' = true) (h63 : m + n ≤ maxLen) (hby : (m + n) * bytes ≤ 140737488355328) (hB : B ≤ w.heap.size)
    (h : ∀ v' w', w'.ownsRow B e size v' (m + n) (xs ++ ys) → w.grownBy w' v.ownBlock → (v'.ownBlock = v.ownBlock ∨ v'.ownBlock = some w.heap.size) → wpList P ops Q rest (a.put o.dst v') w') :
    wpList P ops Q (o :: rest) a w := by
  obtain ⟨v', w', hrun, h2, h3, h4⟩ := run_append_hasN (P := P) (w := w) (t := t) (ty := o.type) he hs0 ht hown c hr h1 h63 hby hB
  refine wpList_plain hgd fun K hK => ?_
  unfold Oper.wp execOp
  simp only [ho, resolve, invoke, builtin, Sem.run_bind, Sem.run_pure, Result.andThen_ok, List.map_toArray, List.map_cons, List.map_nil, hs, hx, hrun]
  exact hK _ _ (h v' w' h2 h3 h4)
theorem below_ownN {B m size : Nat} {e : TypeId} {v : Value} {xs : List Value} {w0 w' : World} (hb : Below B w0 w) (hown : w.ownsRow B e size v m xs) (hg : w.grownBy w' v.ownBlock) (hB : B ≤ w.heap.size) : Below B w0 w' :=
  hb.grown hg hB fun k hk => (hown.lt k hk).1
end

end Go.Proofs.Ytdfhnjocpfjagaa

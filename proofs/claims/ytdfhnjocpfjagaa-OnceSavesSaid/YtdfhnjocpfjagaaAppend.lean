/-
  Appending to a row of the call's own, the source a slice that is nil, empty or not, or a text; said with 'Has'.
-/
import Derived.Test.YtdfhnjocpfjagaaMem
import Derived.WalkKit
import Derived.Laws.AppendOwnNone
namespace Go.Proofs.Ytdfhnjocpfjagaa
open Go.RowKit
open Go.Lib (strCells)

/-- elements of type e take one cell and so many bytes; z is their zero value -/
structure Elem (P : Program) (e : TypeId) (bytes : Nat) (z : Value) : Prop where
  info : (P.info? e).map (fun i => (i.zero, i.size, i.bytes)) = some (some z, 1, bytes)
  one : z.cells.size = 1

theorem Elem.get {P : Program} {e : TypeId} {bytes : Nat} {z : Value} (h : Elem P e bytes z) : ∃ i, P.info? e = some i ∧ i.zero = some z ∧ i.size = 1 ∧ i.bytes = bytes := by
  have hi := h.info
  cases hp : P.info? e with
  | none => rw [hp] at hi; simp at hi
  | some i =>
    rw [hp] at hi
    simp only [Option.map_some, Option.some.injEq, Prod.mk.injEq] at hi
    exact ⟨i, rfl, hi.1, hi.2.1, hi.2.2⟩

section
variable {P : Program} {w : World}

theorem run_append_has {t ty e : TypeId} {bytes : Nat} {z : Value} (he : Elem P e bytes z) (ht : P.underlying t = some (.slice e)) {B m : Nat} {v : Value} {xs : List Value} (hown : w.ownsRow B e 1 v m xs)
    {C n : Nat} {A : Option Addr} {ys : List Value} (c : Nat) (hr : Has w C A n ys) (h1 : ∀ u ∈ ys, u.oneCell' = true) (h63 : m + n ≤ maxLen) (hby : (m + n) * bytes ≤ 140737488355328) (hB : B ≤ w.heap.size) :
    ∃ v' w', (Builtin.append_ #[t, t] ty #[v, .slice A n c]).run P w = .ok v' w' ∧ w'.ownsRow B e 1 v' (m + n) (xs ++ ys) ∧ w.grownBy w' v.ownBlock ∧
      (v'.ownBlock = v.ownBlock ∨ v'.ownBlock = some w.heap.size) := by
  obtain ⟨i, hi, hz, hs, hb⟩ := he.get
  cases A with
  | none =>
    have hn : n = 0 := by
      rcases Nat.eq_zero_or_pos n with h0 | h0
      · exact h0
      · obtain ⟨a, e, _⟩ := hr.cell h0; cases e
    subst hn
    have hy : ys = [] := List.eq_nil_of_length_eq_zero hr.1
    subst hy
    refine ⟨v, w, ?_, by simpa using hown, World.grownBy.refl w _, .inl rfl⟩
    rcases hown.2 with ⟨rfl, rfl⟩ | ⟨g, cap, cur, rfl, _, _, hnc, _⟩
    · simp [Builtin.append_, run_underlying ht, sizeOf, typeInfo, hi, Builtin.lenOf, Builtin.firstCells]
    · simp [Builtin.append_, run_underlying ht, sizeOf, typeInfo, hi, Builtin.lenOf, Builtin.firstCells, hnc, storeCells]
  | some ad =>
    have hcells : ∀ j u, ys[j]? = some u → w.cell? (ad.add j) = some u := fun j u hu => by
      obtain ⟨a', e', _, hc⟩ := hr.2 j u hu
      injection e' with e'
      subst e'
      exact hc
    obtain ⟨v', w', hrun, h2, h3, _, h5⟩ := run_append_own_at (P := P) w B t ty e i z 1 bytes ht hi hz hs hb he.one (by omega) v m xs hown ad n c ys (by simpa using hr.1) hcells h1 h63 hby hB
    exact ⟨v', w', hrun, h2, h3, h5⟩

theorem wpList_append_has {ops : Array Oper} {rest : List Oper} {o : Oper} {a : Act} {Q : Exit → Act → World → Prop} (hgd : o.guard = none) (s x : Operand) (t : TypeId)
    (ho : o.op = .call { callee := .builtin .append, args := #[s, x], argTypes := #[t, t] }) (e : TypeId) {bytes : Nat} {z : Value} (he : Elem P e bytes z) (ht : P.underlying t = some (.slice e))
    {B m : Nat} {v : Value} {xs : List Value} (hs : a.eval s = v) (hown : w.ownsRow B e 1 v m xs) {C n c : Nat} {A : Option Addr} {ys : List Value} (hx : a.eval x = .slice A n c) (hr : Has w C A n ys)
    (h1 : ∀ u ∈ ys, u.oneCell' = true) (h63 : m + n ≤ maxLen) (hby : (m + n) * bytes ≤ 140737488355328) (hB : B ≤ w.heap.size)
    (h : ∀ v' w', w'.ownsRow B e 1 v' (m + n) (xs ++ ys) → w.grownBy w' v.ownBlock → (v'.ownBlock = v.ownBlock ∨ v'.ownBlock = some w.heap.size) → wpList P ops Q rest (a.put o.dst v') w') :
    wpList P ops Q (o :: rest) a w := by
  obtain ⟨v', w', hrun, h2, h3, h4⟩ := run_append_has (P := P) (w := w) (t := t) (ty := o.type) he ht hown c hr h1 h63 hby hB
  refine wpList_plain hgd fun K hK => ?_
  unfold Oper.wp execOp
  simp only [ho, resolve, invoke, builtin, Sem.run_bind, Sem.run_pure, Result.andThen_ok, List.map_toArray, List.map_cons, List.map_nil, hs, hx, hrun]
  exact hK _ _ (h v' w' h2 h3 h4)

/-- the same, behind a guard that lets it by -/
theorem wpList_append_guarded {ops : Array Oper} {rest : List Oper} {o : Oper} {a : Act} {Q : Exit → Act → World → Prop} (hgd : Region.wanted o (yielded ops a.tmps) = true) (s x : Operand) (t : TypeId)
    (ho : o.op = .call { callee := .builtin .append, args := #[s, x], argTypes := #[t, t] }) (e : TypeId) {bytes : Nat} {z : Value} (he : Elem P e bytes z) (ht : P.underlying t = some (.slice e))
    {B m : Nat} {v : Value} {xs : List Value} (hs : a.eval s = v) (hown : w.ownsRow B e 1 v m xs) {C n c : Nat} {A : Option Addr} {ys : List Value} (hx : a.eval x = .slice A n c) (hr : Has w C A n ys)
    (h1 : ∀ u ∈ ys, u.oneCell' = true) (h63 : m + n ≤ maxLen) (hby : (m + n) * bytes ≤ 140737488355328) (hB : B ≤ w.heap.size)
    (h : ∀ v' w', w'.ownsRow B e 1 v' (m + n) (xs ++ ys) → w.grownBy w' v.ownBlock → (v'.ownBlock = v.ownBlock ∨ v'.ownBlock = some w.heap.size) → wpList P ops Q rest (a.put o.dst v') w') :
    wpList P ops Q (o :: rest) a w := by
  obtain ⟨v', w', hrun, h2, h3, h4⟩ := run_append_has (P := P) (w := w) (t := t) (ty := o.type) he ht hown c hr h1 h63 hby hB
  refine wpList_step fun K hK => ?_
  rw [if_pos hgd]
  unfold Oper.wp execOp
  simp only [ho, resolve, invoke, builtin, Sem.run_bind, Sem.run_pure, Result.andThen_ok, List.map_toArray, List.map_cons, List.map_nil, hs, hx, hrun]
  exact hK _ _ (h v' w' h2 h3 h4)

theorem Has.one (w : World) (u : Value) (t : TypeId) (w' : World) (hw : w' = w.alloc (.cells #[u] t)) : Has w' w'.heap.size (some ⟨w.heap.size, 0, none⟩) 1 [u] := by
  subst hw
  refine ⟨rfl, fun k x hx => ⟨_, rfl, by simp, ?_⟩⟩
  cases k with
  | zero =>
    simp at hx
    subst hx
    have : (⟨w.heap.size, 0, none⟩ : Addr).add 0 = ⟨w.heap.size, 0, none⟩ := by unfold Addr.add; simp
    rw [this, (Box.made w t #[u]).cell 0]
    rfl
  | succ k => simp at hx

/-- a literal slice that the call has just laid -/
theorem Has.lit (w : World) (us : Array Value) (t : TypeId) : Has (w.alloc (.cells us t)) (w.heap.size + 1) (some ⟨w.heap.size, 0, none⟩) us.size us.toList := by
  refine ⟨by simp, fun k x hx => ⟨_, rfl, by simp, ?_⟩⟩
  have : (⟨w.heap.size, 0, none⟩ : Addr).add k = ⟨w.heap.size, k, none⟩ := by unfold Addr.add; split <;> simp_all
  rw [this, (Box.made w t us).cell k]
  simpa using hx

theorem one_int (k : IntKind) (z : Int) : ∀ u ∈ [Value.int k z], u.oneCell' = true := by
  intro u hu
  simp at hu
  subst hu
  rfl
theorem one_string (s : ByteArray) : ∀ u ∈ [Value.string s], u.oneCell' = true := by
  intro u hu
  simp at hu
  subst hu
  rfl
theorem le_alloc {B : Nat} (h : B ≤ w.heap.size) (o : Obj) : B ≤ (w.alloc o).heap.size := by simp; omega
theorem below_own {B m : Nat} {e : TypeId} {v : Value} {xs : List Value} {w0 w' : World} (hb : Below B w0 w) (hown : w.ownsRow B e 1 v m xs) (hg : w.grownBy w' v.ownBlock) (hB : B ≤ w.heap.size) : Below B w0 w' :=
  hb.grown hg hB fun k hk => (hown.lt k hk).1
end

end Go.Proofs.Ytdfhnjocpfjagaa

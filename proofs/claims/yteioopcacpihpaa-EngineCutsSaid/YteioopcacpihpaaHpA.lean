/- The heap of runs of package run, in memory: Len and Less; methods of a value called through a pointer in an interface. Condition: the heap is in memory. -/
import Derived.Test.YteioopcacpihpaaRunB
import Derived.Test.YteioopcacpihpaaSpecHeap
import Derived.Handy
namespace Go.Proofs.Yteioopcacpihpaa
open Go.RowKit
open Go.Lib (strCells compareBytes)

theorem wrapNil (ts : Array TypeId) (t : TypeId) (a : Addr) (x y : String) : Builtin.ssaWrapNilChk_ ts t #[.pointer (some a), strVal x, strVal y] = pure (.pointer (some a)) := rfl
/-- a method of a value, called through a pointer to it in an interface -/
theorem meth_ptr {P : Program} {w : World} {a : Addr} {v : Value} {t e : TypeId} {g : FuncId} {name : String} (hu : P.underlying t = some (.pointer e))
    (hi : (P.info? t).map (fun i => (i.methods.find? (·.name == name)).map fun m => (m.path, m.func)) = some (some (#[], some (g, false))))
    (hl : (loadVar e a).run P w = .ok v w) (f : Nat) : (method (f + 1) t (.pointer (some a)) name).run P w = .ok (g, v) w := by
  cases hp : P.info? t with
  | none => rw [hp] at hi; simp at hi
  | some i =>
    rw [hp] at hi
    simp only [Option.map_some, Option.some.injEq] at hi
    cases hm : i.methods.find? (·.name == name) with
    | none => rw [hm] at hi; simp at hi
    | some m =>
      rw [hm] at hi
      simp only [Option.map_some, Option.some.injEq, Prod.mk.injEq] at hi
      obtain ⟨h1, h2⟩ := hi
      unfold method
      simp only [typeInfo, Sem.run_bind, run_program, Result.andThen_ok, hp, Sem.run_pure, hm, h1, h2, follow, Array.toList_empty, receiverAt, run_underlying hu, Place.get, Array.isEmpty_empty, if_true, wrapNil, asAddr]
      rw [hl]
      rfl
theorem load_rests {w : World} {a : Addr} {v : Value} (h : w.cell? a = some v) : (loadVar 113 a).run Try.prog w = .ok v w := by
  simp [loadVar, isAgg, run_underlying Try.underlying113, h]
theorem meth_len {w : World} {a : Addr} {v : Value} (h : w.cell? a = some v) (f : Nat) : (method (f + 1) 111 (.pointer (some a)) "Len").run Try.prog w = .ok (78, v) w :=
  meth_ptr Try.underlying111 (by kernel_rfl) (load_rests h) f
theorem meth_less {w : World} {a : Addr} {v : Value} (h : w.cell? a = some v) (f : Nat) : (method (f + 1) 111 (.pointer (some a)) "Less").run Try.prog w = .ok (131, v) w :=
  meth_ptr Try.underlying111 (by kernel_rfl) (load_rests h) f
theorem meth_swap {w : World} {a : Addr} {v : Value} (h : w.cell? a = some v) (f : Nat) : (method (f + 1) 111 (.pointer (some a)) "Swap").run Try.prog w = .ok (134, v) w :=
  meth_ptr Try.underlying111 (by kernel_rfl) (load_rests h) f

/-- a rest of a run: its slice value, its changes, its rank -/
structure Rst where
  v : Value
  cs : List Chg
  r : Nat
instance : Inhabited Rst := ⟨⟨.slice none 0 0, [], 0⟩⟩
def Rst.hk (x : Rst) : List UInt8 := (x.cs.headD default).kb
def ltR (a b : Rst) : Prop := if a.hk = b.hk then a.r < b.r else a.hk < b.hk
instance (a b : Rst) : Decidable (ltR a b) := by unfold ltR; infer_instance
theorem ltR_weak : Weak ltR := by
  constructor
  · intro a b h h'
    unfold ltR at h h'
    by_cases e : a.hk = b.hk
    · rw [if_pos e] at h
      rw [if_pos e.symm] at h'
      omega
    · rw [if_neg e] at h
      rw [if_neg (fun x => e x.symm)] at h'
      exact lt_asymm' h h'
  · intro a b c h1 h2 h3
    unfold ltR at h1 h2 h3
    by_cases e : a.hk = b.hk
    · rw [if_pos e] at h1
      by_cases e2 : b.hk = c.hk
      · rw [if_pos e2] at h2
        rw [if_pos (e.trans e2)] at h3
        omega
      · rw [if_neg e2] at h2
        rw [if_neg (fun x => e2 (e.symm.trans x)), e] at h3
        exact h2 h3
    · rw [if_neg e] at h1
      have hba : b.hk < a.hk := by
        rcases lt_tri a.hk b.hk with h | h | h
        · exact absurd h h1
        · exact absurd h e
        · exact h
      by_cases e2 : b.hk = c.hk
      · rw [← e2, if_neg e] at h3
        exact h1 h3
      · rw [if_neg e2] at h2
        have hcb : c.hk < b.hk := by
          rcases lt_tri b.hk c.hk with h | h | h
          · exact absurd h h2
          · exact absurd h e2
          · exact h
        have hca := List.lt_trans hcb hba
        by_cases e3 : a.hk = c.hk
        · rw [e3] at hca
          exact lt_irr _ hca
        · rw [if_neg e3] at h3
          exact lt_asymm' hca h3
def rstCells : List Rst → List Value
  | [] => []
  | x :: l => x.v :: .int .i64 (x.r : Int) :: rstCells l
theorem rstCells_len (l : List Rst) : (rstCells l).length = l.length * 2 := by
  induction l with
  | nil => rfl
  | cons v l ih => simp only [rstCells, List.length_cons, ih]; omega
theorem rstCells_app (a b : List Rst) : rstCells (a ++ b) = rstCells a ++ rstCells b := by
  induction a with
  | nil => rfl
  | cons v l ih => simp [rstCells, ih]
theorem rstCells_at : ∀ (l : List Rst) (i : Nat) (x : Rst), l[i]? = some x → (rstCells l)[i * 2]? = some x.v ∧ (rstCells l)[i * 2 + 1]? = some (.int .i64 (x.r : Int))
  | [], i, v, h => by simp at h
  | w :: l, 0, v, h => by
    simp at h
    subst h
    exact ⟨rfl, rfl⟩
  | w :: l, i + 1, v, h => by
    have ih := rstCells_at l i v (by simpa using h)
    rw [show (i + 1) * 2 = i * 2 + 1 + 1 from by omega]
    simpa [rstCells] using ih
theorem rstCells_set : ∀ (l : List Rst) (i : Nat) (x : Rst), rstCells (l.set i x) = ((rstCells l).set (i * 2) x.v).set (i * 2 + 1) (.int .i64 (x.r : Int))
  | [], i, v => by simp [rstCells]
  | w :: l, 0, v => by simp [rstCells]
  | w :: l, i + 1, v => by
    rw [show (i + 1) * 2 = i * 2 + 1 + 1 from by omega]
    simp [rstCells, rstCells_set l i v]
theorem rstCells_take : ∀ (l : List Rst) (k : Nat), (rstCells l).take (k * 2) = rstCells (l.take k)
  | [], k => by simp [rstCells]
  | c :: l, 0 => by simp [rstCells]
  | c :: l, k + 1 => by
    rw [show (k + 1) * 2 = k * 2 + 1 + 1 from by omega]
    simpa [rstCells] using rstCells_take l k
theorem rst_elem : ElemN Try.prog 116 2 32 (.agg #[.slice none 0 0, .int .i64 0]) := ⟨by kernel_rfl, rfl⟩

/-- The heap: its box at block hb, its row v; the rests' changes lie below block C. -/
structure HpSt (w : World) (C hb : Nat) (v : Value) (L : List Rst) : Prop where
  hC : C ≤ hb
  box : Box w hb 113 #[v]
  own : w.ownsRow C 116 2 v L.length (rstCells L)
  has : ∀ x ∈ L, ∃ A n c, x.v = .slice A n c ∧ n ≤ c ∧ c ≤ maxLen ∧ HasChs w C A n x.cs ∧ x.cs ≠ []
/-- What a call on the heap leaves: all below block C, and all blocks of other types. -/
structure HKeep (C : Nat) (w w' : World) : Prop where
  below : Below C w w'
  other : ∀ (i : Nat) (cs : Array Value) (t : TypeId) (m : Nat × Nat), w.heap[i]? = some (Obj.cells cs t m) → t ≠ 113 → t ≠ 116 → w'.heap[i]? = w.heap[i]?
section
variable {w w' w'' : World} {C hb : Nat} {v : Value} {L : List Rst}
theorem HKeep.refl (C : Nat) (w : World) : HKeep C w w := ⟨Below.refl _ _, fun _ _ _ _ _ _ _ => rfl⟩
theorem HKeep.trans (h : HKeep C w w') (h2 : HKeep C w' w'') : HKeep C w w'' :=
  ⟨h.below.trans h2.below, fun i cs t m e h1 h3 => by
    have e1 := h.other i cs t m e h1 h3
    exact (h2.other i cs t m (e1.trans e) h1 h3).trans e1⟩
theorem HKeep.of (h : Below w.heap.size w w') (hC : C ≤ w.heap.size) : HKeep C w w' := ⟨h.mono hC, fun i _ _ _ e _ _ => h.block i (Array.getElem?_eq_some_iff.1 e).1⟩
theorem HpSt.lt (h : HpSt w C hb v L) : hb < w.heap.size := h.box.lt
theorem HpSt.size (h : HpSt w C hb v L) : C ≤ w.heap.size := Nat.le_of_lt (Nat.lt_of_le_of_lt h.hC h.lt)
theorem HpSt.below (h : HpSt w C hb v L) (hw : Below w.heap.size w w') : HpSt w' C hb v L :=
  ⟨h.hC, h.box.below hw h.lt, own_belowN h.own hw, fun x hx => by
    obtain ⟨A, n, c, e, h1, h2, h3, h4⟩ := h.has x hx
    exact ⟨A, n, c, e, h1, h2, h3.belowOf hw h.size, h4⟩⟩
theorem HpSt.slice (h : HpSt w C hb v L) : ∃ A c, v = .slice A L.length c ∧ L.length ≤ c ∧ c ≤ maxLen ∧ Has w w.heap.size A (L.length * 2) (rstCells L) := own_sliceN h.own
theorem HpSt.cell (h : HpSt w C hb v L) : w.cell? ⟨hb, 0, none⟩ = some v := h.box.cell 0
/-- rest i: its cells, and its first change -/
theorem rst_at {A : Option Addr} (h : Has w w.heap.size A (L.length * 2) (rstCells L)) {i : Nat} (hi : i < L.length) : ∃ a : Addr, A = some a ∧ a.block < w.heap.size ∧ w.cell? (a.add (i * 2)) = some (gl L i).v ∧ w.cell? ⟨(a.add (i * 2)).block, (a.add (i * 2)).off + 1, none⟩ = some (.int .i64 ((gl L i).r : Int)) := by
  obtain ⟨c0, c1⟩ := rstCells_at L i _ (gl_get hi)
  obtain ⟨a, rfl, hb, hc⟩ := h.all (by omega)
  refine ⟨a, rfl, hb, hc _ _ c0, ?_⟩
  rw [← chg_step a _ 1 (by omega)]
  exact hc _ _ c1
theorem HpSt.head (h : HpSt w C hb v L) {i : Nat} (hi : i < L.length) : ∃ (a : Addr) (n c : Nat) (x : Chg), (gl L i).v = .slice (some a) n c ∧ 0 < n ∧ a.block < C ∧ (gl L i).hk = x.kb ∧ w.cell? a = some (.string x.k) ∧ w.cell? ⟨a.block, a.off + 1, none⟩ = some (.string x.v) ∧ w.cell? ⟨a.block, a.off + 2, none⟩ = some (.bool x.g) := by
  obtain ⟨A, n, c, e, h1, h2, h3, h4⟩ := h.has _ (gl_mem hi)
  have hn : 0 < n := by
    have := h3.1
    cases hcs : (gl L i).cs with
    | nil => exact absurd hcs h4
    | cons y l => rw [hcs] at this; simp at this; omega
  obtain ⟨a, x, rfl, hb, hx, c0, c1, c2⟩ := h3.at_ hn
  have ea : a.add (0 * 3) = a := by simp [Addr.add]
  rw [ea] at c0 c1 c2
  refine ⟨a, n, c, x, e, hn, hb, ?_, c0, c1, c2⟩
  unfold Rst.hk
  cases hcs : (gl L i).cs with
  | nil => exact absurd hcs h4
  | cons y l => rw [hcs] at hx; simp at hx; subst hx; rfl
end
theorem below_thn {w wx w' : World} (h : Below w.heap.size w wx) (hb : Below wx.heap.size wx w') : Below w.heap.size w w' := h.trans (hb.mono h.size)

theorem len_any (A : Option Addr) (n c : Nat) (w : World) : Calls Try.prog 78 #[.slice A n c] w fun e w' => e = .returned (.int .i64 (n : Int)) ∧ w = w' := by
  go_enter Try.func78, Try.ntmps78
  go_wp2
  go_ret
  exact ⟨rfl, rfl⟩
end Go.Proofs.Yteioopcacpihpaa

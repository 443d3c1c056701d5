/- 'copy' onto a row of the call's own, and 'make' of a row of bytes: what the walk wants of them. No condition. -/
import Derived.Test.YtghcmlipbmmfjaaStep
import Derived.Test.YtghcmlipbmmfjaaSumC
import Derived.Laws.IdiomCopy
import Derived.Deep.OwnRows
import Derived.Deep.RegionHeld3
namespace Go.Proofs.Ytghcmlipbmmfjaa
open Go.RowKit
open Go.Lib (strCells)

theorem grownBy_more {w w1 w2 : World} {r : Option Nat} (h : w.grownBy w1 r) (k : w1.grownBy w2 r) : w.grownBy w2 r :=
  ⟨k.os.trans h.os, k.tape.trans h.tape, k.output.trans h.output, Nat.le_trans h.size k.size, fun i hi hne => (k.block i (Nat.lt_of_lt_of_le hi h.size) hne).trans (h.block i hi hne)⟩
theorem setCells_own {B g n c : Nat} {e : TypeId} : ∀ (cs : List Value) (o : Nat) (w : World) (xs : List Value), w.ownsRow B e 1 (.slice (some ⟨g, 0, none⟩) n c) n xs → o + cs.length ≤ n →
    (w.setCells g o cs).ownsRow B e 1 (.slice (some ⟨g, 0, none⟩) n c) n (xs.take o ++ (cs ++ xs.drop (o + cs.length))) ∧ w.grownBy (w.setCells g o cs) (some g)
  | [], o, w, xs, h, _ => by
    refine ⟨?_, World.grownBy.refl _ _⟩
    simpa [World.setCells] using h
  | v :: r, o, w, xs, h, hl => by
    rw [List.length_cons] at hl
    have hxl : xs.length = n := by simpa using h.1
    obtain ⟨h1, h2⟩ := h.stored o v
    obtain ⟨h3, h4⟩ := setCells_own r (o + 1) _ _ h1 (by omega)
    refine ⟨?_, grownBy_more h2 h4⟩
    have e1 : (xs.set o v).take (o + 1) = xs.take o ++ [v] := by
      rw [List.take_succ_eq_append_getElem (by simp; omega)]
      simp [List.take_set_of_le]
    have e2 : (xs.set o v).drop (o + 1 + r.length) = xs.drop (o + (v :: r).length) := by
      rw [List.drop_set_of_lt (by omega), List.length_cons, show o + 1 + r.length = o + (r.length + 1) from by omega]
    rw [e1, e2, List.append_assoc] at h3
    exact h3

section
variable {P : Program} {w : World}
theorem run_copy_own {t ty e : TypeId} (ht : P.underlying t = some (.slice e)) (hs : (P.info? e).map (·.size) = some 1) {B g o n c : Nat} {xs : List Value} (hown : w.ownsRow B e 1 (.slice (some ⟨g, 0, none⟩) n c) n xs)
    {D : Option Addr} {dl : Nat} (dc : Nat) {C m : Nat} {A : Option Addr} {ys : List Value} (sc : Nat) (hD : 0 < min m dl → D = some ⟨g, o, none⟩) (hdl : o + dl ≤ n) (hr : Has w C A m ys) (h1 : ∀ u ∈ ys, u.oneCell' = true) :
    ∃ w', (Builtin.copy_ #[t, t] ty #[.slice D dl dc, .slice A m sc]).run P w = .ok (goInt ((min m dl : Nat) : Int)) w' ∧
      w'.ownsRow B e 1 (.slice (some ⟨g, 0, none⟩) n c) n (xs.take o ++ (ys.take dl ++ xs.drop (o + min m dl))) ∧ w.grownBy w' (some g) := by
  have hyl : (ys.take dl).length = min m dl := by rw [List.length_take, hr.1, Nat.min_comm]
  rcases Nat.eq_zero_or_pos (min m dl) with h0 | h0
  · refine ⟨w, ?_, ?_, World.grownBy.refl _ _⟩
    · rw [h0]
      exact run_copy_none w t t ty e D A dl dc m sc ht hs h0
    · have : ys.take dl = [] := List.eq_nil_of_length_eq_zero (by omega)
      rw [this, h0, List.nil_append, Nat.add_zero, List.take_append_drop]
      exact hown
  · obtain rfl := hD h0
    obtain ⟨a, rfl, _, hc⟩ := hr.all (by omega)
    obtain ⟨h3, h4⟩ := setCells_own (ys.take dl) o w xs hown (by omega)
    refine ⟨_, ?_, by rw [hyl] at h3; exact h3, h4⟩
    have hxl : xs.length = n := by simpa using hown.1
    have hrun := run_copy_cells (P := P) w t t ty e g o dl dc a m sc (ys.take dl) ht hs hyl (fun j v hv => hc j v (by
        rw [List.getElem?_take] at hv
        split at hv
        · exact hv
        · cases hv)) (fun j hj => by
        rw [hown.cellAt (o + j) (by omega), List.getElem?_eq_getElem (by omega)]
        rfl) (fun j _ => hown.frozenAt _) fun v hv => h1 v (List.mem_of_mem_take hv)
    rw [hyl] at hrun
    exact hrun

theorem wpList_copy_own {ops : Array Oper} {rest : List Oper} {op : Oper} {a : Act} {Q : Exit → Act → World → Prop} (hgd : op.guard = none) (s x : Operand) (t : TypeId)
    (ho : op.op = .call { callee := .builtin .copy, args := #[s, x], argTypes := #[t, t] }) (e : TypeId) (ht : P.underlying t = some (.slice e)) (hs1 : (P.info? e).map (·.size) = some 1) {B g o n c : Nat} {xs : List Value} (hown : w.ownsRow B e 1 (.slice (some ⟨g, 0, none⟩) n c) n xs)
    {D : Option Addr} {dl dc C m sc : Nat} {A : Option Addr} {ys : List Value} (hs : a.eval s = .slice D dl dc) (hx : a.eval x = .slice A m sc) (hD : 0 < min m dl → D = some ⟨g, o, none⟩) (hdl : o + dl ≤ n) (hr : Has w C A m ys) (h1 : ∀ u ∈ ys, u.oneCell' = true)
    (h : ∀ w', w'.ownsRow B e 1 (.slice (some ⟨g, 0, none⟩) n c) n (xs.take o ++ (ys.take dl ++ xs.drop (o + min m dl))) → w.grownBy w' (some g) → wpList P ops Q rest (a.put op.dst (goInt ((min m dl : Nat) : Int))) w') :
    wpList P ops Q (op :: rest) a w := by
  obtain ⟨w', hrun, h2, h3⟩ := run_copy_own (P := P) (w := w) (t := t) (ty := op.type) ht hs1 hown dc sc hD hdl hr h1
  refine wpList_plain hgd fun K hK => ?_
  unfold Oper.wp execOp
  simp only [ho, resolve, invoke, builtin, Sem.run_bind, Sem.run_pure, Result.andThen_ok, List.map_toArray, List.map_cons, List.map_nil, hs, hx, hrun]
  exact hK _ _ (h w' h2 h3)
theorem step_copy_own {ops : Array Oper} {op : Oper} {a : Act} {K : Act → World → Prop} {Q : Exit → Act → World → Prop} {E : Prop} (hgd : op.guard = none) (s x : Operand) (t : TypeId)
    (ho : op.op = .call { callee := .builtin .copy, args := #[s, x], argTypes := #[t, t] }) (e : TypeId) (ht : P.underlying t = some (.slice e)) (hs1 : (P.info? e).map (·.size) = some 1) {B g o n c : Nat} {xs : List Value} (hown : w.ownsRow B e 1 (.slice (some ⟨g, 0, none⟩) n c) n xs)
    {D : Option Addr} {dl dc C m sc : Nat} {A : Option Addr} {ys : List Value} (hs : a.eval s = .slice D dl dc) (hx : a.eval x = .slice A m sc) (hD : 0 < min m dl → D = some ⟨g, o, none⟩) (hdl : o + dl ≤ n) (hr : Has w C A m ys) (h1 : ∀ u ∈ ys, u.oneCell' = true)
    (h : ∀ w', w'.ownsRow B e 1 (.slice (some ⟨g, 0, none⟩) n c) n (xs.take o ++ (ys.take dl ++ xs.drop (o + min m dl))) → w.grownBy w' (some g) → K (a.put op.dst (goInt ((min m dl : Nat) : Int))) w') :
    if Region.wanted op (yielded ops a.tmps) = true then Oper.wp P op a w K Q else E := by
  have hw : Region.wanted op (yielded ops a.tmps) = true := by simp [Region.wanted, hgd]
  rw [if_pos hw]
  obtain ⟨w', hrun, h2, h3⟩ := run_copy_own (P := P) (w := w) (t := t) (ty := op.type) ht hs1 hown dc sc hD hdl hr h1
  unfold Oper.wp execOp
  simp only [ho, resolve, invoke, builtin, Sem.run_bind, Sem.run_pure, Result.andThen_ok, List.map_toArray, List.map_cons, List.map_nil, hs, hx, hrun]
  exact h w' h2 h3
end

theorem u8_one : (Try.prog.info? 5).map (·.size) = some 1 := by kernel_rfl
theorem make_bytes (k : IntKind) (n : Nat) (hn : n ≤ 281474976710656) : ∃ M : Array Value, M.size = n ∧
    (∀ w : World, (Instr.makeSlice 47 (.int k (n : Int)) (.int k (n : Int))).run Try.prog w = .ok (.slice (some ⟨w.heap.size, 0, none⟩) n n) (w.alloc (.cells M 5))) ∧
    ∀ k, k < n → M.toList[k]? = some (.int .u8 0) := by
  have hinfo : (Try.prog.info? 5).map (fun i => (i.zero, i.size, i.bytes)) = some (some (.int .u8 0), 1, 1) := by kernel_rfl
  refine ⟨madeCells #[.int .u8 0] n, size_madeCells _ _, fun w => run_make_row' (P := Try.prog) 47 5 (.int .u8 0) 1 Try.underlying47 hinfo rfl k k n (by omega) (by omega) w, fun k hk => ?_⟩
  simp [madeCells, hk, Nat.mod_one]

end Go.Proofs.Ytghcmlipbmmfjaa

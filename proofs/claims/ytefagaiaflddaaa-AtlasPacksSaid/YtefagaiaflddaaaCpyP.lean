/- copy onto a row of the call's own, of elements of any size; a row made longer. Condition: rows in memory. -/
import Derived.Test.YtefagaiaflddaaaAtA
import Derived.Laws.IdiomCopy
import Derived.Laws.CopyRow
namespace Go.Proofs.Ytefagaiaflddaaa
open Go.RowKit
open Go.Lib (strCells compareBytes)

theorem grownBy_trans2 {w w1 w2 : World} {g : Option Nat} (h : w.grownBy w1 g) (k : w1.grownBy w2 g) : w.grownBy w2 g :=
  ⟨k.os.trans h.os, k.tape.trans h.tape, k.output.trans h.output, Nat.le_trans h.size k.size, fun i hi hne => (k.block i (Nat.lt_of_lt_of_le hi h.size) hne).trans (h.block i hi hne)⟩
theorem setCells_ownN {B g n c size : Nat} {e : TypeId} : ∀ (cs : List Value) (o : Nat) (w : World) (xs : List Value), w.ownsRow B e size (.slice (some ⟨g, 0, none⟩) n c) n xs → o + cs.length ≤ n * size →
    (w.setCells g o cs).ownsRow B e size (.slice (some ⟨g, 0, none⟩) n c) n (xs.take o ++ (cs ++ xs.drop (o + cs.length))) ∧ w.grownBy (w.setCells g o cs) (some g)
  | [], o, w, xs, h, _ => by
    refine ⟨?_, World.grownBy.refl _ _⟩
    simpa [World.setCells] using h
  | v :: r, o, w, xs, h, hl => by
    rw [List.length_cons] at hl
    have hxl : xs.length = n * size := h.1
    obtain ⟨h1, h2⟩ := h.stored o v
    obtain ⟨h3, h4⟩ := setCells_ownN r (o + 1) _ _ h1 (by omega)
    refine ⟨?_, grownBy_trans2 h2 h4⟩
    have e1 : (xs.set o v).take (o + 1) = xs.take o ++ [v] := by
      rw [List.take_succ_eq_append_getElem (by simp; omega)]
      simp [List.take_set_of_le]
    have e2 : (xs.set o v).drop (o + 1 + r.length) = xs.drop (o + (v :: r).length) := by
      rw [List.drop_set_of_lt (by omega), List.length_cons, show o + 1 + r.length = o + (r.length + 1) from by omega]
    rw [e1, e2, List.append_assoc] at h3
    exact h3
section
variable {P : Program} {w : World}
theorem run_copy_cellsN (w : World) (dT sT ty elem : TypeId) (size b o dLen dCap : Nat) (a : Addr) (sLen sCap : Nat) (cs : List Value)
    (hu : P.underlying dT = some (.slice elem)) (hs : (P.info? elem).map (·.size) = some size) (hn : cs.length = Nat.min sLen dLen * size)
    (hsrc : ∀ j v, cs[j]? = some v → w.cell? (a.add j) = some v) (hc : ∀ j, j < cs.length → (w.cell? ⟨b, o + j, none⟩).isSome = true) (hf : ∀ j, j < cs.length → w.frozen? ⟨b, o + j, none⟩ = false) (h1 : ∀ v ∈ cs, v.oneCell' = true) :
    (Builtin.copy_ #[dT, sT] ty #[.slice (some ⟨b, o, none⟩) dLen dCap, .slice (some a) sLen sCap]).run P w = .ok (goInt ((Nat.min sLen dLen : Nat) : Int)) (w.setCells b o cs) := by
  have hl := run_loadCells_list (P := P) w a cs hsrc
  have hst := run_storeCells_cells (P := P) b o cs 0 w (by simpa using hc) (by simpa using hf) h1
  cases hq : P.info? elem with
  | none => simp [hq] at hs
  | some i =>
    have hi : i.size = size := by simpa [hq] using hs
    rw [hn] at hl
    simp [Builtin.copy_, run_underlying hu, Builtin.lenOf, Builtin.firstCells, sizeOf, typeInfo, hq, hi, hl, hst]
/-- elements of a row in memory over those of a row of the call's own -/
theorem run_copy_ownN {t ty e : TypeId} {size : Nat} (ht : P.underlying t = some (.slice e)) (hs : (P.info? e).map (·.size) = some size) (hs0 : 0 < size) {B g o n c : Nat} {xs : List Value} (hown : w.ownsRow B e size (.slice (some ⟨g, 0, none⟩) n c) n xs)
    {dl : Nat} (dc : Nat) {C m : Nat} {A : Option Addr} {ys : List Value} (sc : Nat) (hdl : o + dl ≤ n) (hr : Has w C A (m * size) ys) (hm : 0 < min m dl) (h1 : ∀ u ∈ ys.take (dl * size), u.oneCell' = true) :
    ∃ w', (Builtin.copy_ #[t, t] ty #[.slice (some ⟨g, o * size, none⟩) dl dc, .slice A m sc]).run P w = .ok (goInt ((min m dl : Nat) : Int)) w' ∧
      w'.ownsRow B e size (.slice (some ⟨g, 0, none⟩) n c) n (xs.take (o * size) ++ (ys.take (dl * size) ++ xs.drop ((o + min m dl) * size))) ∧ w.grownBy w' (some g) := by
  have hyl : (ys.take (dl * size)).length = min m dl * size := by rw [List.length_take, hr.1, Nat.min_comm, Nat.mul_min_mul_right]
  have hxl : xs.length = n * size := hown.1
  have hom : o * size + min m dl * size ≤ n * size := by rw [← Nat.add_mul]; exact Nat.mul_le_mul_right size (by omega)
  obtain ⟨a, rfl, _, hc⟩ := hr.all (Nat.mul_pos (by omega) hs0)
  obtain ⟨h3, h4⟩ := setCells_ownN (ys.take (dl * size)) (o * size) w xs hown (by omega)
  refine ⟨_, ?_, by rw [hyl, ← Nat.add_mul] at h3; exact h3, h4⟩
  exact run_copy_cellsN (P := P) w t t ty e size g (o * size) dl dc a m sc (ys.take (dl * size)) ht hs hyl (fun j v hv => hc j v (by
      rw [List.getElem?_take] at hv
      split at hv
      · exact hv
      · cases hv)) (fun j hj => by
      rw [hown.cellAt (o * size + j) (by omega), List.getElem?_eq_getElem (by omega)]
      rfl) (fun j _ => hown.frozenAt _) h1
theorem wpList_run_copy {ops : Array Oper} {rest : List Oper} {o : Oper} {a : Act} {Q : Exit → Act → World → Prop} (hgd : o.guard = none) (d s : Operand) (t t' : TypeId)
    (ho : o.op = .call { callee := .builtin .copy, args := #[d, s], argTypes := #[t, t'] }) {v u v' : Value} {w' : World} (hd : a.eval d = v) (hs : a.eval s = u)
    (hr : (Builtin.copy_ #[t, t'] o.type #[v, u]).run P w = .ok v' w') (h : wpList P ops Q rest (a.put o.dst v') w') : wpList P ops Q (o :: rest) a w := by
  refine wpList_plain hgd fun K hK => ?_
  unfold Oper.wp execOp
  simp only [ho, resolve, invoke, builtin, Sem.run_bind, Sem.run_pure, Result.andThen_ok, List.map_toArray, List.map_cons, List.map_nil, hd, hs, hr]
  exact hK _ _ h
theorem step_run_copy {ops : Array Oper} {o : Oper} {a : Act} {K : Act → World → Prop} {Q : Exit → Act → World → Prop} {E : Prop} (hgd : o.guard = none) (d s : Operand) (t t' : TypeId)
    (ho : o.op = .call { callee := .builtin .copy, args := #[d, s], argTypes := #[t, t'] }) {v u v' : Value} {w' : World} (hd : a.eval d = v) (hs : a.eval s = u)
    (hr : (Builtin.copy_ #[t, t'] o.type #[v, u]).run P w = .ok v' w') (h : K (a.put o.dst v') w') : if Region.wanted o (yielded ops a.tmps) = true then Oper.wp P o a w K Q else E := by
  have hw : Region.wanted o (yielded ops a.tmps) = true := by simp [Region.wanted, hgd]
  rw [if_pos hw]
  unfold Oper.wp execOp
  simp only [ho, resolve, invoke, builtin, Sem.run_bind, Sem.run_pure, Result.andThen_ok, List.map_toArray, List.map_cons, List.map_nil, hd, hs, hr]
  exact h
end
/-- a row made longer within its capacity -/
theorem own_longer {w : World} {B n n' c size : Nat} {e : TypeId} {g : Nat} {xs : List Value} (h : w.ownsRow B e size (.slice (some ⟨g, 0, none⟩) n c) n xs) (hn : n ≤ n') (hc : n' ≤ c) :
    ∃ sp, sp.length = (n' - n) * size ∧ w.ownsRow B e size (.slice (some ⟨g, 0, none⟩) n' c) n' (xs ++ sp) := by
  rcases h.2 with ⟨hv, -⟩ | ⟨g', cap, cur, hv, hB, hg, h1, h2, h3, h4⟩
  · cases hv
  · injection hv with e1 _ e3
    injection e1 with e1
    injection e1 with e1
    subst e1
    subst e3
    have hle : n * size ≤ n' * size := Nat.mul_le_mul_right size hn
    have hle2 : n' * size ≤ c * size := Nat.mul_le_mul_right size hc
    have e : (cur.toList.take (n' * size)) = xs ++ (cur.toList.take (n' * size)).drop (n * size) := by
      rw [← h4]
      have := List.take_append_drop (n * size) (cur.toList.take (n' * size))
      rw [List.take_take, Nat.min_eq_left hle] at this
      exact this.symm
    have hl : (cur.toList.take (n' * size)).length = n' * size := by rw [List.length_take, Array.length_toList, h3]; omega
    refine ⟨(cur.toList.take (n' * size)).drop (n * size), by rw [List.length_drop, hl, Nat.sub_mul], ⟨by rw [← e]; exact hl, .inr ⟨g, c, cur, rfl, hB, hg, hc, h2, h3, e⟩⟩⟩
/-- .. and shorter -/
theorem own_shorter {w : World} {B n n' c size : Nat} {e : TypeId} {A : Option Addr} {xs : List Value} (h : w.ownsRow B e size (.slice A n c) n xs) (hn : n' ≤ n) : w.ownsRow B e size (.slice A n' c) n' (xs.take (n' * size)) := by
  have hle : n' * size ≤ n * size := Nat.mul_le_mul_right size hn
  refine ⟨by rw [List.length_take, h.1]; omega, ?_⟩
  rcases h.2 with ⟨hv, h0⟩ | ⟨g', cap, cur, hv, hB, hg, h1, h2, h3, h4⟩
  · injection hv with e1 _ e3
    subst e1
    subst e3
    have : n' = 0 := by omega
    subst this
    exact .inl ⟨rfl, rfl⟩
  · injection hv with e1 _ e3
    subst e1
    subst e3
    exact .inr ⟨g', c, cur, rfl, hB, hg, by omega, h2, h3, by rw [← h4, List.take_take, Nat.min_eq_left hle]⟩
theorem pt_size : (Try.prog.info? 46).map (·.size) = some 2 := by kernel_rfl
end Go.Proofs.Ytefagaiaflddaaa

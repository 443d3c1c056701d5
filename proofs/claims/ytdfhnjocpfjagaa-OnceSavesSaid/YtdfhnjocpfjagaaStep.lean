/- append onto a row of the call's own, as one step of a region that draws its order. -/
import Derived.Test.YtdfhnjocpfjagaaElems
import Derived.Deep.RegionHeld3
namespace Go.Proofs.Ytdfhnjocpfjagaa
open Go.RowKit

section
variable {P : Program} {w : World}
theorem step_append_hasN {ops : Array Oper} {o : Oper} {a : Act} {K : Act → World → Prop} {Q : Exit → Act → World → Prop} {E : Prop} (hgd : o.guard = none) (s x : Operand) (t : TypeId)
    (ho : o.op = .call { callee := .builtin .append, args := #[s, x], argTypes := #[t, t] }) (e : TypeId) {size bytes : Nat} {z : Value} (he : ElemN P e size bytes z) (hs0 : 0 < size) (ht : P.underlying t = some (.slice e))
    {B m : Nat} {v : Value} {xs : List Value} (hs : a.eval s = v) (hown : w.ownsRow B e size v m xs) {C n c : Nat} {A : Option Addr} {ys : List Value} (hx : a.eval x = .slice A n c) (hr : Has w C A (n * size) ys)
    (h1 : ∀ u ∈ ys, u.oneCell' = true) (h63 : m + n ≤ maxLen) (hby : (m + n) * bytes ≤ 140737488355328) (hB : B ≤ w.heap.size)
    (h : ∀ v' w', w'.ownsRow B e size v' (m + n) (xs ++ ys) → w.grownBy w' v.ownBlock → (v'.ownBlock = v.ownBlock ∨ v'.ownBlock = some w.heap.size) → K (a.put o.dst v') w') :
    if Region.wanted o (yielded ops a.tmps) = true then Oper.wp P o a w K Q else E := by
  have hw : Region.wanted o (yielded ops a.tmps) = true := by simp [Region.wanted, hgd]
  rw [if_pos hw]
  obtain ⟨v', w', hrun, h2, h3, h4⟩ := run_append_hasN (P := P) (w := w) (t := t) (ty := o.type) he hs0 ht hown c hr h1 h63 hby hB
  unfold Oper.wp execOp
  simp only [ho, resolve, invoke, builtin, Sem.run_bind, Sem.run_pure, Result.andThen_ok, List.map_toArray, List.map_cons, List.map_nil, hs, hx, hrun]
  exact h v' w' h2 h3 h4
end
theorem u8_elemN : ElemN Try.prog 5 1 1 (.int .u8 0) := ⟨by kernel_rfl, rfl⟩

theorem one_at (w : World) (g : Nat) (hg : w.heap.size = g) (u : Value) (t : TypeId) : Has (w.alloc (.cells #[u] t)).drew (g + 1) (some ⟨g, 0, none⟩) (1 * 1) [u] := by
  subst hg
  have h := Has.one w u t _ rfl
  exact Has.more h (by simp)

end Go.Proofs.Ytdfhnjocpfjagaa

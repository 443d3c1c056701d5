/- Structures side by side: some of them, in whatever order. No condition. -/
import Derived.Test.YtdfhnjocpfjagaaSepA
namespace Go.Proofs.Ytdfhnjocpfjagaa
open Go.RowKit

section
variable {Ω : Type} {At : World → (Nat → Prop) → Ω → Prop} {B : Nat} {w : World} {l : List Ω}
/-- some of the structures, in whatever order -/
theorem Sep.sel (h : Sep At B w l) {l' : List Ω} (σ : Nat → Nat) (hσ : ∀ j k, j < l'.length → k < l'.length → σ j = σ k → j = k) (hl : ∀ k o, l'[k]? = some o → l[σ k]? = some o) : Sep At B w l' := by
  obtain ⟨F, h1, h2, h3, h4⟩ := h
  refine ⟨fun k i => k < l'.length ∧ F (σ k) i, fun k o ho => ?_, fun k i hi => h2 _ i hi.2, fun j k i hi hi' => hσ j k hi.1 hi'.1 (h3 _ _ i hi.2 hi'.2), fun k i hk hi => by omega⟩
  have hk : k < l'.length := (List.getElem?_eq_some_iff.1 ho).1
  have e : (fun i => k < l'.length ∧ F (σ k) i) = F (σ k) := by funext i; simp [hk]
  show At w (fun i => k < l'.length ∧ F (σ k) i) o
  rw [e]
  exact h1 _ o (hl k o ho)
end
end Go.Proofs.Ytdfhnjocpfjagaa

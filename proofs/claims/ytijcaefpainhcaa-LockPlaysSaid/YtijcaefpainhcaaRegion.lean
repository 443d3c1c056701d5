/- Moves for a region that draws its order, taken by hand: the condition on the world may be exchanged on the way. -/
import Derived.Deep.RegionHeld3
namespace Go.Proofs.Ytijcaefpainhcaa
open Go

section
variable {P : Program} {ops : Array Oper} {Q : Exit → Act → World → Prop} {md : Region.Mode} {S S' : World → Prop}

/-- a condition that says more serves too -/
theorem held_more (h : ∀ w, S' w → S w) : ∀ (fuel : Nat) (listed : Array Bool) (a : Act) (w : World), wpAnyH P md ops Q S' fuel listed a w → wpAnyH P md ops Q S fuel listed a w
  | 0, _, _, _, hw => hw
  | fuel + 1, _, _, _, hw => ⟨hw.1, fun i hi => wpOp_mono (fun a' w' h' => ⟨h w' h'.1, held_more h fuel _ a' w' h'.2⟩) (hw.2 i hi)⟩
end

end Go.Proofs.Ytijcaefpainhcaa

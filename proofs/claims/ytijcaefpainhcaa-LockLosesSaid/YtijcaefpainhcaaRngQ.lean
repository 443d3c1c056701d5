/- Small words for the laws of spans: one range as a literal; the same rows. No condition. -/
import Derived.Test.YtijcaefpainhcaaRngP
namespace Go.Proofs.Ytijcaefpainhcaa
open Go.RowKit
open Go.Lib (strCells compareBytes)

theorem one_lit (w : World) (a : Rg) : HasRgs (w.alloc (.cells #[.string a.lo, .string a.hi] 23)) (w.heap.size + 1) (some ⟨w.heap.size, 0, none⟩) 1 [a] := ⟨rfl, rg_lit w a⟩
theorem same_true {A A' : Option Addr} {n n' c c' : Nat} {l : List Rg} {w : World} (h : HasRgs w w.heap.size A n l) (h' : HasRgs w w.heap.size A' n' l) (hn : n ≤ 1000000) (hn' : n' ≤ 1000000) :
    Calls Try.prog 18 #[.slice A n c, .slice A' n' c'] w fun e w' => e = .returned (.bool true) ∧ Below w.heap.size w w' := by
  have h1 := sameR_any A A' n n' c c' _ _ l l w h h' (by unfold maxLen; omega) (by unfold maxLen; omega)
  rw [decide_eq_true rfl] at h1
  exact h1
end Go.Proofs.Ytijcaefpainhcaa

/- Same of two rows with the same values is true. Condition: rows in memory. -/
import Derived.Test.YtdfhnjocpfjagaaTupC
import Derived.Test.YtdfhnjocpfjagaaSpecCut
import Derived.Test.YtdfhnjocpfjagaaConv
import Derived.Laws.StructEq
namespace Go.Proofs.Ytdfhnjocpfjagaa
open Go.RowKit
open Go.Lib (strCells compareBytes)

theorem below_drews {B : Nat} {a w : World} (h : Below B a w) (n : Nat) : Below B a (w.drewN n) := ⟨h.os, h.tape, h.output, h.size, h.block⟩
theorem HasVals.draws {w : World} {B n : Nat} {A : Option Addr} {l : List TVal} (h : HasVals w B A n l) (k : Nat) : HasVals (w.drewN k) B A n l := h

theorem same_true (A A' : Option Addr) (n c c' C C' : Nat) (L : List TVal) (w : World) (ha : HasVals w C A n L) (hb : HasVals w C' A' n L) (hn : n ≤ maxLen) :
    Calls Try.prog 42 #[.slice A n c, .slice A' n c'] w fun e w' => e = .returned (.bool true) ∧ Below w.heap.size w w' := by
  unfold maxLen at hn
  have H := Lib.hid ha
  have H' := Lib.hid hb
  clear ha hb
  go_enter Try.func42, Try.ntmps42
  go_wp2
  go_loopw [5] (fun i wr => ∃ k : Nat, k ≤ n ∧ i = .int .i64 (k : Int) ∧ ∃ m, wr = w.drewN m) (fun i _ => n - (intOf i).toNat)
  case atStart => exact ⟨0, by omega, rfl, 0, rfl⟩
  case round =>
    obtain ⟨k, hk, rfl, m, rfl⟩ := hrel
    by_cases hlt : k < n
    · obtain ⟨a, v, rfl, _, hv, c0, c1, c2⟩ := H.out.at_ hlt
      obtain ⟨b, u, rfl, _, hu, d0, d1, d2⟩ := H'.out.at_ hlt
      have e : u = v := by rw [hv] at hu; injection hu with h; exact h.symm
      subst e
      clear hv hu
      have hk0 : (0 : Int) ≤ (k : Int) := by omega
      have hk1 : (k : Int) < (n : Int) := by omega
      go_wp2
      go_quiet (fail)
      go_wp2
      go_roundw
      case rel => exact ⟨k + 1, by omega, by go_num, _, rfl⟩
      case measure => simp [intOf]; omega
    · go_wp2
      go_ret
      exact ⟨rfl, below_drews (Below.refl _ _) _⟩

theorem byte_at (s : ByteArray) (k : Nat) (h : k < s.size) : s[k] = s.data.toList[k]?.getD 0 := by
  have h' : k < s.data.toList.length := by rw [← Lib.size_eq]; exact h
  simp [List.getElem?_eq_getElem h']
  rfl

end Go.Proofs.Ytdfhnjocpfjagaa

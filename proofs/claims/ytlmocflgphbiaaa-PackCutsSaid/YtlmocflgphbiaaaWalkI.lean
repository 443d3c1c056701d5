/- SameTexts of two lists with the same texts is true. Condition: both are in memory. -/
import Derived.Test.YtlmocflgphbiaaaWalkH
import Derived.BigQuiet
namespace Go.Proofs.Ytlmocflgphbiaaa
open Go.RowKit
open Go.Lib (strCells)

theorem below_drews {B : Nat} {a w : World} (h : Below B a w) (n : Nat) : Below B a (w.drewN n) := ⟨h.os, h.tape, h.output, h.size, h.block⟩
theorem strVals_raw (ss : List ByteArray) : strVals (raw ss) = ss.map Value.string := by simp [strVals, raw]
theorem strVals_at {L : List (List UInt8)} {k : Nat} (h : k < L.length) : (strVals L).getD k undef = .string ⟨(L[k]?.getD []).toArray⟩ := by simp [strVals, h]

set_option maxHeartbeats 400000 in
theorem sameTexts_true (A A' : Option Addr) (n c c' C C' : Nat) (L : List (List UInt8)) (w : World) (ha : Has w C A n (strVals L)) (hb : Has w C' A' n (strVals L)) (hn : n ≤ 4611686018427387904) :
    Calls Try.prog 26 #[.slice A n c, .slice A' n c'] w fun e w' => e = .returned (.bool true) ∧ Below w.heap.size w w' := by
  have Hl : Hid (L.length = n) := Lib.hid (by have := ha.1; rwa [strVals, List.length_map] at this)
  go_enter Try.func26, Try.ntmps26
  go_wp2
  go_loopw [5] (fun i wr => ∃ k : Nat, k ≤ n ∧ i = .int .i64 (k : Int) ∧ ∃ m, wr = w.drewN m) (fun i _ => n - (intOf i).toNat)
  case atStart => exact ⟨0, by omega, rfl, 0, rfl⟩
  case round =>
    obtain ⟨k, hk, rfl, m, rfl⟩ := hrel
    by_cases hlt : k < n
    · obtain ⟨a, rfl, hab, hc⟩ := ha.cell hlt
      obtain ⟨b, rfl, hbb, hd⟩ := hb.cell hlt
      rw [strVals_at (by have := Hl.out; omega)] at hc hd
      go_wp2
      go_quiet (fail)
      go_wp2
      go_roundw
      case rel => exact ⟨k + 1, by omega, by go_num, _, rfl⟩
      case measure => simp [intOf]; omega
    · go_wp2
      go_ret
      exact ⟨rfl, below_drews (Below.refl _ _) _⟩

end Go.Proofs.Ytlmocflgphbiaaa

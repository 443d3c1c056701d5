/- Append of package disk where it is down or full. Condition: a disk in memory, of at most a million bytes. -/
import Derived.Test.YtghcmlipbmmfjaaDskD
import Derived.Deep.RegionLaw
namespace Go.Proofs.Ytghcmlipbmmfjaa
open Go.RowKit
open Go.Lib (strCells)

section
variable {w : World} {B sb : Nat} {D : Nat → Prop} {S : DState}
theorem append_down (h : Disk w B sb D S) (hon : S.on = false) (v : Value) : Calls Try.prog 26 #[.pointer (some ⟨sb, 0, none⟩), v] w fun e w' => e = .returned (.int .i64 15) ∧ w = w' := by
  obtain ⟨cp, lg, ws, h, hD⟩ := h
  obtain ⟨-, q1, -⟩ := h.cells
  rw [hon] at q1
  clear h hD
  go_enter Try.func26, Try.ntmps26
  go_wp2
  go_ret
  exact ⟨rfl, rfl⟩
set_option maxHeartbeats 800000 in
theorem append_full (h : Disk w B sb D S) (hon : S.on = true) (A : Option Addr) (n c Bl : Nat) (l : List UInt8) (hh : HasBytes w Bl A n l) (hB : Bl ≤ w.heap.size) (hn : n ≤ 65536) (hC : S.C.length ≤ 1000000) (hL : S.L.length ≤ 1000000) (hf : S.room < S.used + (8 + n)) :
    Calls Try.prog 26 #[.pointer (some ⟨sb, 0, none⟩), .slice A n c] w fun e w' => e = .returned (.int .i64 6) ∧ Below w.heap.size w w' := by
  have H := Lib.hid h
  obtain ⟨cp, lg, ws, h, hD⟩ := h
  obtain ⟨q0, q1, -⟩ := h.cells
  have hsb := h.box.lt
  rw [hon] at q1
  have Hw := Lib.hid (wrap_any A n c Bl l w hh hB hn)
  have Hu := Lib.hid (fun w (h : Disk w B sb D S) => used_any h (by omega) (by omega))
  have hX1 : S.used ≤ 2000008 := by unfold DState.used takenN; split <;> omega
  obtain ⟨X, hX⟩ : ∃ X, S.used = X := ⟨_, rfl⟩
  rw [hX] at Hu hf hX1
  have hf1 : decide ((S.room : Int) < (X : Int) + (8 + (n : Int))) = true := by simp; omega
  have hf2 : (S.room : Int) < (X : Int) + ((8 + n : Nat) : Int) := by omega
  clear h hD hon hX hh
  go_enter Try.func26, Try.ntmps26
  go_wp2_with fail
  refine Hw.out.mono ?_
  rintro e w1 ⟨v, rfl, hown, hb1⟩
  obtain ⟨A1, c1, rfl, -⟩ := own_slice hown
  have p0 : w1.cell? ⟨sb, 0, none⟩ = some (.int .i64 (S.room : Int)) := (hb1.cell (by exact hsb)).trans q0
  have Hb1 := Lib.hid hb1
  have Hu1 := Lib.hid (fun j => Hu.out (w1.drewN j) ((H.out.below hb1).below (below_drews (Below.refl _ _) j)))
  clear hown hb1
  go_wp2
  go_quiet (first | (go_at_call 20; refine Calls.quiet_of (Hu1.out _)))
  go_wp2
  go_ret
  exact ⟨rfl, below_drews Hb1.out _⟩
end

end Go.Proofs.Ytghcmlipbmmfjaa

/- Append and Flip of package disk. Condition: a disk in memory, of at most a million bytes. -/
import Derived.Test.YtbiifmcfamgmfaaDskD
import Derived.Laws.BitsAllLaws
import Derived.Deep.RegionLaw
namespace Go.Proofs.Ytbiifmcfamgmfaa
open Go.RowKit
open Go.Lib (strCells)

section
variable {w : World} {B sb : Nat} {D : Nat → Prop} {S : DState}
theorem u8_turn (b c : UInt8) : bits .xor .u8 (b.toNat : Int) (c.toNat : Int) = ((b ^^^ c).toNat : Int) := by
  have hb := b.toNat_lt
  have hc := c.toNat_lt
  have h2 : bits .xor .u8 (b.toNat : Int) (c.toNat : Int) = ((b.toNat ^^^ c.toNat : Nat) : Int) := u8_xor_nat b.toNat c.toNat (by omega) (by omega)
  rw [h2, UInt8.toNat_xor]
theorem flip_neg (q : Int) (hq : q < 0) (v : Value) : Calls Try.prog 20 #[.pointer (some ⟨sb, 0, none⟩), .int .i64 q, v] w fun e w' => e = .returned (.bool false) ∧ w = w' := by
  go_enter Try.func20, Try.ntmps20
  go_wp2
  go_ret
  exact ⟨rfl, rfl⟩
theorem flip_ok (h : Disk w B sb D S) (hk : S.k = true) (q : Int) (n : Nat) (hq : q = (n : Int)) (b x : UInt8) (hx : S.L[n]? = some x) :
    Calls Try.prog 20 #[.pointer (some ⟨sb, 0, none⟩), .int .i64 q, .int .u8 (b.toNat : Int)] w fun e w' => e = .returned (.bool true) ∧ Disk w' B sb D { S with L := S.L.set n (x ^^^ b) } ∧ Keeps D w w' ∧ w'.heap.size = w.heap.size := by
  subst hq
  obtain ⟨cp, lg, ws, h, hD⟩ := h
  have hn := (List.getElem?_eq_some_iff.1 hx).1
  obtain ⟨-, -, -, q3, -⟩ := h.cells
  have hl := h.lown hk
  obtain ⟨A, c, hlg, -⟩ := own_slice hl
  rw [hlg] at hl
  obtain ⟨g, rfl, -⟩ := own_at hl (by omega)
  have hc : w.cell? ⟨g, n, none⟩ = some (.int .u8 (x.toNat : Int)) := by
    rw [hl.cellAt n (by omega)]
    simp [byteCells, hx]
  have hf := hl.frozenAt n
  have hst := hl.stored n (.int .u8 ((x ^^^ b).toNat : Int))
  have hb := u8_turn x b
  have Hend : Hid (Disk (w.setCell ⟨g, n, none⟩ (.int .u8 ((x ^^^ b).toNat : Int))) B sb D { S with L := S.L.set n (x ^^^ b) } ∧ Keeps D w (w.setCell ⟨g, n, none⟩ (.int .u8 ((x ^^^ b).toNat : Int))) ∧ (w.setCell ⟨g, n, none⟩ (.int .u8 ((x ^^^ b).toNat : Int))).heap.size = w.heap.size) := Lib.hid (by
    have hne := h.logNe (g := g) (by rw [hlg]; rfl)
    have hl1 : (w.setCell ⟨g, n, none⟩ (.int .u8 ((x ^^^ b).toNat : Int))).ownsRow B 5 1 lg (S.L.set n (x ^^^ b)).length (byteCells (S.L.set n (x ^^^ b))) := by
      rw [hlg, List.length_set, ← byteCells_set]
      exact hst.1
    have hk' : ∀ i, i ≠ g → (w.setCell ⟨g, n, none⟩ (.int .u8 ((x ^^^ b).toNat : Int))).heap[i]? = w.heap[i]? := fun i hi => Below.heap_setCell _ _ _ _ hi
    have hgD : D g := hD g (.inr (.inr (.inl (by rw [hlg]; rfl))))
    refine ⟨⟨cp, lg, ws, ⟨h.sB, (hk' sb fun e => hne.1 e.symm).trans h.box, own_keep1 h.crow fun i hi => hk' i fun e => ?_, CutRow.of_own hl1, fun _ => hl1, own_keep1 h.wrow fun i hi => hk' i fun e => hne.2 (e ▸ hi), h.apart⟩, hD⟩, Keeps.set hgD, by simp [World.setCell]⟩
    exact h.apart i hi (by rw [hlg, e]; rfl))
  rw [hlg] at q3
  have hn1 : (n : Int) < (S.L.length : Int) := by omega
  have hn0 : (0 : Int) ≤ (n : Int) := by omega
  clear h hl hst hlg hx hD
  go_enter Try.func20, Try.ntmps20
  go_wp2
  go_ret
  exact ⟨rfl, Hend.out⟩

theorem append_down (h : Disk w B sb D S) (hon : S.on = false) (v : Value) : Calls Try.prog 11 #[.pointer (some ⟨sb, 0, none⟩), v] w fun e w' => e = .returned (.int .i64 15) ∧ w = w' := by
  obtain ⟨cp, lg, ws, h, hD⟩ := h
  obtain ⟨-, q1, -⟩ := h.cells
  rw [hon] at q1
  clear h hD
  go_enter Try.func11, Try.ntmps11
  go_wp2
  go_ret
  exact ⟨rfl, rfl⟩
set_option maxHeartbeats 800000 in
theorem append_full (h : Disk w B sb D S) (hon : S.on = true) (A : Option Addr) (n c Bl : Nat) (l : List UInt8) (hh : HasBytes w Bl A n l) (hB : Bl ≤ w.heap.size) (hn : n ≤ 65536) (hC : S.C.length ≤ 1000000) (hL : S.L.length ≤ 1000000) (hf : S.room < S.used + (8 + n)) :
    Calls Try.prog 11 #[.pointer (some ⟨sb, 0, none⟩), .slice A n c] w fun e w' => e = .returned (.int .i64 6) ∧ Below w.heap.size w w' := by
  have H := Lib.hid h
  obtain ⟨cp, lg, ws, h, hD⟩ := h
  obtain ⟨q0, q1, -⟩ := h.cells
  have hsb := h.box.lt
  rw [hon] at q1
  have Hw := Lib.hid (wrap_any A n c Bl l w hh hB hn)
  have Hu := Lib.hid (fun w (h : Disk w B sb D S) => used_any h (by omega) (by omega))
  have hX1 : S.used ≤ 2000008 := by unfold DState.used takenN; split <;> omega
  obtain ⟨X, hX⟩ : ∃ X, S.used = X := ⟨_, rfl⟩
  rw [hX] at Hu hf hX1
  have hf1 : decide ((S.room : Int) < (X : Int) + (8 + (n : Int))) = true := by simp; omega
  have hf2 : (S.room : Int) < (X : Int) + ((8 + n : Nat) : Int) := by omega
  clear h hD hon hX hh
  go_enter Try.func11, Try.ntmps11
  go_wp2_with fail
  refine Hw.out.mono ?_
  rintro e w1 ⟨v, rfl, hown, hb1⟩
  obtain ⟨A1, c1, rfl, -⟩ := own_slice hown
  have p0 : w1.cell? ⟨sb, 0, none⟩ = some (.int .i64 (S.room : Int)) := (hb1.cell (by exact hsb)).trans q0
  have Hb1 := Lib.hid hb1
  have Hu1 := Lib.hid (fun j => Hu.out (w1.drewN j) ((H.out.below hb1).below (below_drews (Below.refl _ _) j)))
  clear hown hb1
  go_wp2
  go_quiet (first | (go_at_call 16; refine Calls.quiet_of (Hu1.out _)))
  go_wp2
  go_ret
  exact ⟨rfl, below_drews Hb1.out _⟩
end

end Go.Proofs.Ytbiifmcfamgmfaa

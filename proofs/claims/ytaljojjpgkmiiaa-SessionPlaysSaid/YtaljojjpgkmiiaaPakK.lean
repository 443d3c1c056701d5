/- pack.Join puts the parts one behind the other. Condition: the parts are in memory, fewer than 10^8 bytes. -/
import Derived.Test.YtaljojjpgkmiiaaPakD
import Derived.WalkLawsBesides
namespace Go.Proofs.Ytaljojjpgkmiiaa
open Go.RowKit
open Go.Lib (strCells)

/-! ### Join -/
def Parts (w : World) (B : Nat) (A : Option Addr) (n : Nat) (vs : List Value) (ps : List (List UInt8)) : Prop :=
  Has w B A n vs ∧ vs.length = ps.length ∧ ∀ k, k < ps.length → ∃ A' n' c', vs[k]? = some (.slice A' n' c') ∧ HasBytes w B A' n' (ps.getD k [])

def flat : List (List UInt8) → List UInt8
  | [] => []
  | p :: r => p ++ flat r
theorem flat_app (a b : List (List UInt8)) : flat (a ++ b) = flat a ++ flat b := by
  induction a with
  | nil => rfl
  | cons x a ih => simp [flat, ih]
theorem flat_succ {ps : List (List UInt8)} {k : Nat} (h : k < ps.length) : flat (ps.take (k + 1)) = flat (ps.take k) ++ ps.getD k [] := by
  rw [List.take_succ_eq_append_getElem h, flat_app]
  simp [flat, h]
theorem flat_le (ps : List (List UInt8)) (k : Nat) : (flat (ps.take k)).length ≤ (flat ps).length := by
  have h := List.take_append_drop k ps
  have : flat ps = flat (ps.take k) ++ flat (ps.drop k) := by rw [← flat_app, h]
  rw [this, List.length_append]
  omega

set_option maxRecDepth 100000 in
set_option maxHeartbeats 800000 in
theorem join_any (A : Option Addr) (n c C : Nat) (vs : List Value) (ps : List (List UInt8)) (w : World) (h : Parts w C A n vs ps) (hC : C ≤ w.heap.size) (hs : (flat ps).length ≤ 100000000) (hn : n ≤ 1000000) :
    Calls Try.prog 64 #[.slice A n c] w (Gives w.heap.size (flat ps).length (byteCells (flat ps)) w) := by
  obtain ⟨hv, hvl, hp⟩ := h
  have Hl : Hid (ps.length = n) := Lib.hid (by rw [← hvl]; exact hv.1)
  have Hp := Lib.hid hp
  clear hvl hp
  go_enter Try.func64, Try.ntmps64
  go_wp2
  go_loopw [3, 5, 8] (fun v _ i wr => ∃ k : Nat, k ≤ n ∧ i = .int .i64 (k : Int) ∧ wr.ownsRow w.heap.size 5 1 v (flat (ps.take k)).length (byteCells (flat (ps.take k))) ∧ Below w.heap.size w wr) (fun _ _ i _ => n - (intOf i).toNat)
  case atStart => exact ⟨0, by omega, rfl, World.ownsRow_nil _ _ _ _, Below.refl _ _⟩
  case round =>
    obtain ⟨k, hk, rfl, hown', hb⟩ := hrel
    have hBr : w.heap.size ≤ wr.heap.size := hb.size
    have hle := flat_le ps k
    by_cases hlt : k < n
    · obtain ⟨a, rfl, hab, hc0⟩ := hv.cell hlt
      obtain ⟨A', n', c', hvk, hpk⟩ := Hp.out k (by have := Hl.out; omega)
      have hc : wr.cell? (a.add k) = some (.slice A' n' c') := by
        rw [hb.cell (by rw [addr_block]; omega), hc0]
        simp [hvk]
      have hle2 := flat_le ps (k + 1)
      have hs0 := flat_succ (ps := ps) (k := k) (by have := Hl.out; omega)
      have hle3 : (flat (ps.take k)).length + n' ≤ 100000000 := by
        rw [hs0, List.length_append, hpk.len] at hle2
        omega
      have Hpk := Lib.hid (hpk.belowOf hb hC)
      have Hlen := Lib.hid hpk.len
      have Hs := Lib.hid hs0
      have Hown' := Lib.hid hown'
      have Hb := Lib.hid hb
      clear hc0 hvk hpk hs0 hle2 hown' hb
      go_wp2_with (at_builtin; refine wpList_append_has rfl (.tmp 12) (.tmp 13) _ rfl 5 u8_elem Try.underlying76 rfl Hown'.out rfl Hpk.out (byteCells_one _) (by simp only [maxLen]; omega) (by omega) hBr ?_; intro v3 w3 hown3 hg3 _)
      have Hb3 := Lib.hid (below_own Hb.out Hown'.out hg3 hBr)
      go_roundw
      case rel =>
        refine ⟨k + 1, by omega, by go_num, ?_, Hb3.out⟩
        rw [Hs.out, byteCells_app, List.length_append, Hlen.out]
        exact hown3
      case measure => simp [intOf]; omega
    · go_wp2
      go_ret
      have e1 : ps.take k = ps := List.take_of_length_le (by have := Hl.out; omega)
      rw [e1] at hown'
      exact ret_own rfl hown' rfl rfl hb

end Go.Proofs.Ytaljojjpgkmiiaa

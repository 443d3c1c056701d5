/- What a plan done to a map answers, both kinds as one (act_out, outM). -/
import Derived.Test.YtefagaiaflddaaaActA
namespace Go.Proofs.Ytefagaiaflddaaa
open Go.RowKit
open Go.Lib (strCells compareBytes)

open Classical in
/-- what act and does answer -/
noncomputable def outM (k ep : Int) (l : List Pt) (s : ByteArray) (node : Int) : MapR := if k = 1 ∨ k = 2 ∨ k = 3 then actT k ep l s node else (ep, l, 0)
theorem act_out {k ep node : Int} {A : Option Addr} {n c C : Nat} {l : List Pt} {s : ByteArray} {w w' : World} {e : Ending} (h : ActPost k ep A n c l s node w e w') (hA : HasPts w C A n l) (hC : C ≤ w.heap.size) :
    ∃ A3 c3, e = .returned (.tuple #[.agg #[.int .i64 (outM k ep l s node).1, .slice A3 (outM k ep l s node).2.1.length c3], .int .i64 (outM k ep l s node).2.2]) ∧ HasPts w' w'.heap.size A3 (outM k ep l s node).2.1.length (outM k ep l s node).2.1 ∧ Below w.heap.size w w' := by
  unfold outM
  rcases h with ⟨h1, v, rfl, o, hb⟩ | ⟨h1, rfl, hb⟩
  · rw [if_pos h1]
    obtain ⟨A3, c3, rfl, -, -, x3⟩ := o.slice
    exact ⟨A3, c3, rfl, x3, hb⟩
  · rw [if_neg h1]
    have hl := hA.1
    subst hl
    exact ⟨A, c, rfl, (hA.belowOf hb hC).more (Nat.le_trans hC hb.size), hb⟩
theorem goT_len8 {ep : Int} {l : List Pt} {r : Option (List Pt)} (hr : RightP l → ∀ l', r = some l' → RightP l') : (goT ep l r).2.1.length ≤ 8 := by
  obtain ⟨⟨me, ml, mz⟩, hm⟩ : ∃ m, goT ep l r = m := ⟨_, rfl⟩
  rw [hm]
  show ml.length ≤ 8
  by_cases hz : mz = 0
  · subst hz
    exact (go_right hr hm).2.2.2.2.2.most
  · unfold goT at hm
    split at hm
    · injection hm with _ h9; injection h9 with h9 _; rw [← h9]; simp
    · cases r with
      | none => injection hm with _ h9; injection h9 with h9 _; rw [← h9]; simp
      | some l2 =>
        simp only at hm
        split at hm
        · injection hm with _ h9; injection h9 with h9 _; rw [← h9]; simp
        · injection hm with _ h9; injection h9 with _ h9; exact absurd h9.symm hz
theorem outM_len (k ep : Int) (l : List Pt) (s : ByteArray) (node : Int) (hl : l.length ≤ 50) : (outM k ep l s node).2.1.length ≤ 50 := by
  unfold outM
  split
  · refine Nat.le_trans (m := 8) ?_ (by omega)
    unfold actT
    split
    · exact goT_len8 fun hr l' e => split_right hr e
    · split
      · exact goT_len8 fun hr l' e => merge_right hr e
      · exact goT_len8 fun hr l' e => move_right hr e
  · exact hl
end Go.Proofs.Ytefagaiaflddaaa

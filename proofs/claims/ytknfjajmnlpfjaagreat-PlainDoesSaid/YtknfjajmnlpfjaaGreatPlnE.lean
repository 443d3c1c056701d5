/- A record's clone holds the same values in new memory. Condition: the record is in memory. -/
import Derived.Test.YtknfjajmnlpfjaaGreatPlnB
import Derived.Test.YtknfjajmnlpfjaaGreatBoxes
import Derived.Test.YtknfjajmnlpfjaaGreatClone
namespace Go.Proofs.YtknfjajmnlpfjaaGreat
open Go.RowKit
open Go.Lib (strCells compareBytes)

set_option maxRecDepth 100000 in
set_option maxHeartbeats 1600000 in
theorem recClone_any (A : Option Addr) (n c B : Nat) (l : List TVal) (w : World) (h : HasVals w B A n l) (hn : n ≤ 1000) (hw : B ≤ w.heap.size) (hs : ∀ u ∈ l, u.s.size ≤ 140737488355328) :
    Calls Tryz.prog 45 #[.slice A n c] w fun e w' => ∃ v, e = .returned v ∧ w'.ownsRow w.heap.size 53 3 v l.length (valCells l) ∧ Below w.heap.size w w' := by
  have H := Lib.hid h
  have Hs := Lib.hid hs
  have Hl := Lib.hid h.1
  clear h hs
  go_enter Tryz.func45, Tryz.ntmps45
  go_wp2
  go_loopw [3, 5, 8] (fun cv _ i wr => ∃ k : Nat, k ≤ n ∧ i = .int .i64 (k : Int) ∧ wr.ownsRow w.heap.size 53 3 cv k (valCells (l.take k)) ∧ Below w.heap.size w wr) (fun _ _ i _ => n - (intOf i).toNat)
  case atStart => exact ⟨0, by omega, rfl, World.ownsRow_nil _ _ _ _, Below.refl _ _⟩
  case round =>
    obtain ⟨k, hk, rfl, hown, hb⟩ := hrel
    have Hown := Lib.hid hown
    have Hb := Lib.hid hb
    have hsz := hb.size
    clear hown hb
    by_cases hlt : k < n
    · obtain ⟨a, v, rfl, hab, hv, c0, c1, c2⟩ := (H.out.belowOf Hb.out hw).at_ hlt
      obtain ⟨vk, vn, vs⟩ := v
      simp only at c0 c1 c2
      have hvs := Hs.out _ (List.mem_of_getElem? hv)
      simp only at hvs
      have E : Hid (l.take (k + 1) = l.take k ++ [⟨vk, vn, vs⟩]) := Lib.hid (by rw [List.take_add_one, hv]; rfl)
      have hk0 : (0 : Int) ≤ (k : Int) := by omega
      have hk1 : (k : Int) < (n : Int) := by omega
      clear hv
      go_wp2_with fail
      refine (clone_any vs _ hvs).mono ?_
      rintro e w2 ⟨rfl, hb2⟩
      obtain ⟨q0, q1, q2, f0, f1, f2⟩ := box_at (g := wr.heap.size) (by simpa using hb2) rfl
      obtain ⟨W3, hW3⟩ : ∃ W3, w2.setCell ⟨wr.heap.size, 2, none⟩ (.string vs) = W3 := ⟨_, rfl⟩
      have hB3 : Below wr.heap.size wr W3 := by
        rw [← hW3]
        exact (Below.then (below_alloc _ _) hb2).setCell (Nat.le_refl _) _
      have p0 : W3.cell? ⟨wr.heap.size, 0, none⟩ = some (.int .i64 vk) := by
        rw [← hW3]; exact (World.cell?_setCell_other _ _ _ _ (fun e => by injection e with _ e; omega)).trans q0
      have p1 : W3.cell? ⟨wr.heap.size, 1, none⟩ = some (.int .i64 vn) := by
        rw [← hW3]; exact (World.cell?_setCell_other _ _ _ _ (fun e => by injection e with _ e; omega)).trans q1
      have p2 : W3.cell? ⟨wr.heap.size, 2, none⟩ = some (.string vs) := by
        rw [← hW3]; exact World.cell?_setCell_same _ _ _ q2
      have Hown3 := Lib.hid (own_belowN Hown.out hB3)
      have Hb3 := Lib.hid (Hb.out.trans (hB3.mono hsz))
      have hs3 := Hb3.out.size
      clear hb2 hB3
      go_wp2_with (at_builtin; refine wpList_append_hasN rfl (.tmp 16) (.tmp 18) _ rfl 53 val_elem (by omega) Tryz.underlying32 rfl (Hown3.out.alloc _) rfl (vals_lit W3 vk vn vs) (valCells_one _) (by simp only [maxLen]; omega) (by omega) (le_alloc hs3 _) ?_; intro v4 w4 hown4 hg4 hz4; have Hb4 : Hid (Below w.heap.size w w4) := Lib.hid (below_ownN (Hb3.out.alloc hs3 _) (Hown3.out.alloc _) hg4 (le_alloc hs3 _)); clear hg4 hz4)
      go_roundw
      case rel =>
        refine ⟨k + 1, by omega, by go_num, ?_, Hb4.out⟩
        rw [E.out, valCells_app]
        exact hown4
      case measure => simp [intOf]; omega
    · have e : l.take k = l := List.take_of_length_le (by have := Hl.out; omega)
      have E : Hid (k = l.length) := Lib.hid (by have := Hl.out; omega)
      rw [e] at Hown
      clear e
      go_wp2
      go_ret
      exact ⟨_, rfl, by rw [← E.out]; exact Hown.out, Hb.out⟩
end Go.Proofs.YtknfjajmnlpfjaaGreat

/- slices.Clone of a row of parts. Condition: the row is in memory. -/
import Derived.Test.YtefagaiaflddaaaAtA
namespace Go.Proofs.Ytefagaiaflddaaa
open Go.RowKit
open Go.Lib (strCells compareBytes)

theorem own_emptyP (w : World) (B : Nat) (hB : B ≤ w.heap.size) : (w.alloc (.cells #[] 46)).ownsRow B 46 2 (.slice (some ⟨w.heap.size, 0, none⟩) 0 0) 0 [] :=
  ⟨rfl, .inr ⟨w.heap.size, 0, #[], rfl, hB, heap_alloc_new w _, Nat.le_refl _, by simp [maxLen], rfl, rfl⟩⟩
set_option maxRecDepth 100000 in
/-- slices.Clone: a row of the call's own that holds what the row holds -/
theorem cloneP_any (A : Option Addr) (n c C : Nat) (l : List Pt) (w : World) (h : HasPts w C A n l) (hn : n ≤ 1000000) (hC : C ≤ w.heap.size) :
    Calls Try.prog 53 #[.slice A n c] w (GivesPt w.heap.size l w) := by
  have H := Lib.hid h
  have hl := h.1
  cases A with
  | none =>
    have hl0 : l = [] := by
      obtain ⟨h1, h2⟩ := h
      rcases Nat.eq_zero_or_pos n with h0 | h0
      · exact List.eq_nil_of_length_eq_zero (by omega)
      · obtain ⟨a, e, -⟩ := h2.all (by omega); cases e
    subst hl0
    have q := Lib.run_eql_slice_nil (P := Try.prog) w 22 46 none n c 0 0 Try.underlying22
    clear h hl
    go_enter Try.func53, Try.ntmps53
    go_wp2
    go_ret
    exact ⟨_, rfl, OwnPts.nil _ _, Below.refl _ _⟩
  | some a =>
    have q := Lib.run_eql_slice_nil (P := Try.prog) w 22 46 (some a) n c 0 0 Try.underlying22
    have Hl := Lib.hid hl
    clear h hl
    go_enter Try.func53, Try.ntmps53
    go_wp2_with (at_builtin; refine wpList_append_hasN rfl (.tmp 5) (.tmp 6) _ rfl 46 pt_elem (by omega) Try.underlying22 rfl (own_emptyP w w.heap.size (Nat.le_refl _)) rfl (H.out.2.alloc hC _) (ptCells_one _) (by simp only [maxLen]; omega) (by omega) (by simp) ?_; intro v1 w1 hown1 hg1 hz1; have Hb1 : Hid (Below w.heap.size w w1) := Lib.hid (below_ownN (below_box _) (own_emptyP w w.heap.size (Nat.le_refl _)) hg1 (by simp)); clear hg1 hz1)
    go_ret
    exact ⟨_, rfl, by unfold OwnPts; rw [Hl.out]; simpa using hown1, Hb1.out⟩
end Go.Proofs.Ytefagaiaflddaaa

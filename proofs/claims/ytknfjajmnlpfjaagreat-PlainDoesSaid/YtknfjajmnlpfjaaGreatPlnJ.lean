/- A new store, and the clone of a row of numbers. -/
import Derived.Test.YtknfjajmnlpfjaaGreatPlnI
namespace Go.Proofs.YtknfjajmnlpfjaaGreat
open Go.RowKit
open Go.Lib (strCells compareBytes)

theorem new_store (w : World) (B : Nat) (hB : B ≤ w.heap.size) : Store ((w.alloc (.map #[] 0)).alloc (.cells #[.map (some w.heap.size), .slice none 0 0, .int .i64 0] 59)) B (w.heap.size + 1) w.heap.size (.slice none 0 0) [] [] 0 where
  sB := by omega
  mB := hB
  box := made_at (by simp) _ _
  own := ((World.ownsMap_made w Tryz.prog 9 Rv).alloc _)
  rise := Rise.nil
  recs := by simp
  good := by simp
  irow := World.ownsRow_nil _ _ _ _
  flds := by simp
  ids := List.Pairwise.nil
  nums := by simp
  most := by omega
set_option maxRecDepth 100000 in
theorem new_any (w : World) (B : Nat) (hB : B ≤ w.heap.size) : Calls Tryz.prog 6 #[] w fun e w' => e = .returned (.pointer (some ⟨w.heap.size + 1, 0, none⟩)) ∧ Store w' B (w.heap.size + 1) w.heap.size (.slice none 0 0) [] [] 0 ∧ Below w.heap.size w w' := by
  have H := Lib.hid (new_store w B hB)
  clear hB
  have hmk := run_makeMap (P := Tryz.prog) 57 w
  go_enter Tryz.func6, Tryz.ntmps6
  go_wp2
  go_ret
  exact ⟨rfl, H.out, (below_alloc _ _).alloc (by simp) _⟩

theorem int_elem : Elem Tryz.prog 3 8 (.int .i64 0) := ⟨by kernel_rfl, rfl⟩
theorem intCells_one (l : List Int) : ∀ u ∈ intCells l, u.oneCell' = true := by
  intro u hu
  unfold intCells at hu
  obtain ⟨x, _, rfl⟩ := List.mem_map.1 hu
  rfl
theorem own_empty (w : World) (g : Nat) (hg : w.heap.size = g) (t : TypeId) (B : Nat) (hB : B ≤ g) : (w.alloc (.cells #[] t)).ownsRow B t 1 (.slice (some ⟨g, 0, none⟩) 0 0) 0 [] := by
  subst hg
  exact ⟨rfl, .inr ⟨w.heap.size, 0, #[], rfl, hB, heap_alloc_new w _, Nat.le_refl _, by simp [maxLen], rfl, rfl⟩⟩
set_option maxRecDepth 100000 in
theorem cloneInts_any (A : Option Addr) (n c B : Nat) (l : List Int) (w : World) (h : HasInts w B A n l) (h1 : 1 ≤ n) (hn : n ≤ 1000) (hB : B ≤ w.heap.size) :
    Calls Tryz.prog 42 #[.slice A n c] w fun e w' => ∃ v, e = .returned v ∧ w'.ownsRow w.heap.size 3 1 v l.length (intCells l) ∧ Below w.heap.size w w' := by
  have Hl := Lib.hid h.1
  obtain ⟨a, _, rfl, -⟩ := h.at_ (k := 0) (by omega)
  have H := Lib.hid h
  clear h
  have q := Lib.run_eql_slice_nil (P := Tryz.prog) w 37 3 (some a) n c 0 0 Tryz.underlying37
  go_enter Tryz.func42, Tryz.ntmps42
  go_wp2_with (at_builtin; refine wpList_append_has rfl (.tmp 5) (.tmp 6) _ rfl 3 int_elem Tryz.underlying37 rfl (own_empty w w.heap.size rfl _ w.heap.size (Nat.le_refl _)) rfl (Has.alloc H.out.2 hB _) (intCells_one _) (by simp only [maxLen]; omega) (by omega) (by simp) ?_; intro v1 w1 hown1 hg1 hz1; have Hb1 : Hid (Below w.heap.size w w1) := Lib.hid (below_own (below_alloc _ _) (own_empty w w.heap.size rfl _ w.heap.size (Nat.le_refl _)) hg1 (by simp)); clear hg1 hz1)
  go_ret
  exact ⟨_, rfl, by rw [Hl.out]; simpa using hown1, Hb1.out⟩
end Go.Proofs.YtknfjajmnlpfjaaGreat

/- strings.Clone gives the text again; it lays one new row. Condition: the text is shorter than 2^47 bytes. -/
import Derived.Test.YtdfhnjocpfjagaaConv
import Derived.WalkKit
import Derived.Lib.Hide
import Derived.Deep.OwnRows
import Derived.Lib.BufferWrite
import Derived.Laws.MakeOwn
namespace Go.Proofs.Ytdfhnjocpfjagaa
open Go.RowKit

theorem row_add (g j : Nat) : (⟨g, 0, none⟩ : Addr).add j = ⟨g, j, none⟩ := by unfold Addr.add; split <;> simp_all
set_option maxHeartbeats 800000 in
theorem cloneLite_any (s : ByteArray) (w : World) (hs : s.size ≤ 140737488355328) :
    Calls Try.prog 112 #[.string s] w fun e w' => e = .returned (.string s) ∧ Below w.heap.size w w' := by
  have hsl := Lib.size_eq s
  by_cases h0 : s.size = 0
  · have e : s = ⟨#[]⟩ := by
      obtain ⟨⟨l⟩⟩ := s
      rw [h0] at hsl
      have : l = [] := List.eq_nil_of_length_eq_zero hsl.symm
      rw [this]
    clear h0 hsl
    subst e
    go_enter Try.func112, Try.ntmps112
    go_wp2
    go_ret
    exact ⟨rfl, Below.refl _ _⟩
  · have hinfo : (Try.prog.info? 5).map (fun i => (i.zero, i.size, i.bytes)) = some (some (.int .u8 0), 1, 1) := by kernel_rfl
    have hone : (Try.prog.info? 5).map (·.size) = some 1 := by kernel_rfl
    have hco : Try.prog.cellsOf 5 = 1 := by kernel_rfl
    have hptr : Try.prog.underlying 175 = some (.pointer 5) := by kernel_rfl
    obtain ⟨M, hM⟩ : ∃ M, madeCells #[Value.int .u8 0] s.size = M := ⟨_, rfl⟩
    have hMs : M.size = s.size := by rw [← hM, size_madeCells]
    have hmk := run_make_row' (P := Try.prog) 22 5 (.int .u8 0) 1 Try.underlying22 hinfo rfl .i64 .i64 s.size (by omega) (by omega)
    rw [hM] at hmk
    have hcp := Lib.run_copy_row_string (P := Try.prog) (w.alloc (.cells M 5)) 22 9 3 5 w.heap.size 0 s.size s.size s M 5 Try.underlying22 hone (heap_alloc_new w _) (Nat.le_refl _) (by omega)
    obtain ⟨Y, hY⟩ : ∃ Y, (M.toList.take 0 ++ Lib.byteCells s.data.toList ++ M.toList.drop (0 + s.size)).toArray = Y := ⟨_, rfl⟩
    have hYl : Y.toList = byteCells s.data.toList := by
      rw [← hY, List.take_zero, List.nil_append, List.drop_of_length_le (by rw [Array.length_toList]; omega), List.append_nil]
      rfl
    rw [hY] at hcp
    have hYs : Y.size = s.size := by rw [← Array.length_toList, hYl, byteCells_length, ← hsl]
    have hgY : ((w.alloc (.cells M 5)).setRow w.heap.size Y).heap[w.heap.size]? = some (.cells Y 5 (0, 0)) := setRow_heap _ _ M _ 5 (0, 0) (heap_alloc_new w _)
    have hUS := Lib.run_unsafeString_row (P := Try.prog) ((w.alloc (.cells M 5)).setRow w.heap.size Y) 175 3 9 5 hptr hco w.heap.size Y.size (by unfold World.shape?; rw [hgY]) s.data.toList (fun e => h0 (by rw [hsl, e]; rfl)) (by omega) (by omega)
      (fun j x hx => by
        rw [row_add, cell_of_row _ _ _ _ _ _ hgY, ← Array.getElem?_toList, hYl]
        simp [byteCells, hx])
    rw [← hsl] at hUS
    have Hb : Hid (Below w.heap.size w (((w.alloc (.cells M 5)).setRow w.heap.size Y).freeze ⟨w.heap.size, 0, none⟩ s.size)) := Lib.hid (by
      have hb1 : Below w.heap.size w (w.alloc (.cells M 5)) := (Below.refl _ w).alloc (Nat.le_refl _) _
      have hb2 : Below w.heap.size (w.alloc (.cells M 5)) ((w.alloc (.cells M 5)).setRow w.heap.size Y) := ⟨rfl, rfl, rfl, by simp, fun k hk => setRow_other _ _ _ _ (by omega)⟩
      exact Lib.below_freeze (hb1.trans hb2) (p := ⟨w.heap.size, 0, none⟩) (Nat.le_refl _) _)
    have hpos : ((s.size : Int) == 0) = false := by simpa using h0
    have hpos0 : 0 < s.size := by omega
    clear hY hM hYl hYs hgY hinfo hone hco hptr hMs hsl h0
    go_enter Try.func112, Try.ntmps112
    go_wp2
    go_ret
    exact ⟨rfl, Hb.out⟩

theorem clone_any (s : ByteArray) (w : World) (hs : s.size ≤ 140737488355328) :
    Calls Try.prog 78 #[.string s] w fun e w' => e = .returned (.string s) ∧ Below w.heap.size w w' := by
  go_enter Try.func78, Try.ntmps78
  go_wp2_with fail
  refine (cloneLite_any s w hs).mono ?_
  rintro e w1 ⟨rfl, hb1⟩
  have Hb := Lib.hid hb1
  clear hb1
  go_wp2
  go_ret
  exact ⟨rfl, Hb.out⟩

end Go.Proofs.Ytdfhnjocpfjagaa

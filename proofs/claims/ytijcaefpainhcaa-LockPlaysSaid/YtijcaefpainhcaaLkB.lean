/- Package lock: New, Renew, Free, Ids. Condition: the table is in memory. -/
import Derived.Test.YtijcaefpainhcaaLkA
import Derived.Test.YtijcaefpainhcaaLkA
namespace Go.Proofs.Ytijcaefpainhcaa
open Go.RowKit

theorem run_max_i64 (x y : Int) (w : World) : (Builtin.max_ #[3, 3] 3 #[.int .i64 x, .int .i64 y]).run Try.prog w = .ok (.int .i64 (if x < y then y else x)) w := by
  show (pure (Value.int .i64 (if y > x then y else x)) : Sem Value).run Try.prog w = _
  simp
set_option maxRecDepth 100000 in
theorem lockNew_any (x : Int) (w : World) : Calls Try.prog 27 #[.int .i64 x] w fun e w' => ∃ sb mb, e = .returned (.pointer (some ⟨sb, 0, none⟩)) ∧ LkAt w' (addF (fun _ => False) w w') sb mb (if x < 1 then 1 else x) [] ∧ Below w.heap.size w w' := by
  obtain ⟨y, hy⟩ : ∃ y, (if x < 1 then 1 else x) = y := ⟨_, rfl⟩
  obtain ⟨w1, hw1⟩ : ∃ w1, (w.alloc (.map #[] 0)).alloc (.cells #[.int .i64 y, .map (some w.heap.size)] 75) = w1 := ⟨_, rfl⟩
  have hsz : w1.heap.size = w.heap.size + 1 + 1 := by rw [← hw1]; simp
  have hbox : Box w1 (w.heap.size + 1) 75 #[.int .i64 y, .map (some w.heap.size)] := by
    have := Box.made (w.alloc (.map #[] 0)) 75 #[.int .i64 y, .map (some w.heap.size)]
    rw [World.size_alloc, hw1] at this
    exact this
  have hown : w1.ownsMap Try.prog 3 Rn w.heap.size 0 (lmap []) := hw1 ▸ (World.ownsMap_made w Try.prog 3 Rn).alloc _
  have H : Hid (LkAt w1 (addF (fun _ => False) w w1) (w.heap.size + 1) w.heap.size y []) := Lib.hid ⟨.inr (by omega), .inr (by omega), by simp, fun i hi => hi.elim False.elim (fun hi => hi.2), hbox, hown, List.Pairwise.nil, by simp, by simp, List.Pairwise.nil⟩
  have HB : Hid (Below w.heap.size w w1) := Lib.hid (hw1 ▸ ((Below.refl _ w).alloc (Nat.le_refl _) _).alloc (by simp) _)
  clear hbox hown hsz
  have hmk := run_makeMap (P := Try.prog) 73 w
  have hmax := run_max_i64 x 1
  rw [hy] at hmax ⊢
  clear hy
  go_enter Try.func27, Try.ntmps27
  go_wp2
  go_ret
  exact ⟨_, _, rfl, H.out, HB.out⟩
end Go.Proofs.Ytijcaefpainhcaa

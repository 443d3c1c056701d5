/- The laws' check that the frames are awake. -/
import Derived.Test.YteegnohfmonakaaFrmI
import Derived.Lib.AppendStr
import Derived.Lib.SlBytesConst
namespace Go.Proofs.Yteegnohfmonakaa
open Go.RowKit
open Go.Lib (strCells)

theorem frame_a : frameOf [97] = [0, 0, 0, 1, 229, 140, 151, 146, 97] := by decide +kernel
theorem first_a : firstErr [0, 0, 0, 1, 229, 140, 151, 146, 97, 120] = 0 ∧ sizeAt [0, 0, 0, 1, 229, 140, 151, 146, 97, 120] = 1 ∧ payAt [0, 0, 0, 1, 229, 140, 151, 146, 97, 120] = [97] := by decide +kernel
theorem strCells_bytes (s : ByteArray) (l : List UInt8) (h : s.data.toList = l) : strCells s = byteCells l := by
  subst h
  rfl

set_option maxHeartbeats 800000 in
theorem awake_any (w : World) : Calls Try.prog 8 #[] w fun e w' => e = .returned (.bool true) ∧ Below w.heap.size w w' := by
  have kc := fun C n c => Lib.run_convert_bytes_const (P := Try.prog) w 22 5 C n c Try.underlying22 Try.underlying5
  obtain ⟨i0, hi, hz, hs1, hb1⟩ := u8_elem.get
  go_enter Try.func8, Try.ntmps8
  go_wp2_with fail
  refine (wrap_any _ 1 1 _ [97] _ (lit_mark w _ rfl _ _ _ _ rfl) (by simp) (by omega)).mono ?_
  rintro e w1 ⟨v1, rfl, hown1, hb1'⟩
  have Hb1 : Hid (Below w.heap.size w w1) := Lib.hid (((Below.refl _ _).alloc (Nat.le_refl _) _).trans (hb1'.mono (by simp)))
  have hown1 := own_base hown1 (show w.heap.size ≤ _ by simp)
  rw [frame_a] at hown1
  obtain ⟨A1, c1, rfl, _, _, hh1⟩ := own_slice hown1
  have Hh1 := Lib.hid hh1
  clear hb1' hown1 hh1
  have Hg1 := Lib.hid Hb1.out.size
  go_wp2_with (at_builtin; refine Lib.wpList_append_own_string _ rfl (.tmp 13) _ _ _ rfl w1.heap.size 5 i0 Try.underlying22 Try.underlying9 hi hz hs1 hb1 _ 0 [] rfl (empty_own w1 w1.heap.size (Nat.le_refl _) 5) ⟨#[0, 0, 0, 1, 229, 140, 151, 146, 97, 120]⟩ rfl (by decide) (by decide) (le_alloc (Nat.le_refl _) _) ?_; intro v2 w2 hown2 hg2 _; have Hb2 : Hid (Below w1.heap.size w1 w2) := Lib.hid (below_own ((Below.refl _ _).alloc (Nat.le_refl _) _) (empty_own w1 w1.heap.size (Nat.le_refl _) 5) hg2 (le_alloc (Nat.le_refl _) _)); obtain ⟨A2, c2, rfl, hc2, _, hh2⟩ := own_slice hown2; have Hh2 : Hid (HasBytes w2 w2.heap.size A2 10 [0, 0, 0, 1, 229, 140, 151, 146, 97, 120]) := Lib.hid hh2; have hc2' : 10 ≤ c2 := hc2; clear hown2 hg2 hh2 hc2)
  refine (first_any A2 10 c2 _ [0, 0, 0, 1, 229, 140, 151, 146, 97, 120] w2 Hh2.out (Nat.le_refl _) (by omega) hc2').mono ?_
  rintro e w3 (⟨he, _⟩ | ⟨_, v3, rfl, hown3, _, hb3⟩)
  · exact absurd first_a.1 he
  rw [first_a.2.1, first_a.2.2] at hown3
  obtain ⟨A3, c3, rfl, _, _, hh3⟩ := own_slice hown3
  have hcv3' := string_run hh3 c3
  have hcv1' := string_run ((Hh1.out.belowOf Hb2.out (Nat.le_refl _)).belowOf hb3 Hb2.out.size) c1
  have Hb3 : Hid (Below w.heap.size w w3) := Lib.hid ((Hb1.out.trans (Hb2.out.mono Hg1.out)).trans (hb3.mono (Nat.le_trans Hg1.out Hb2.out.size)))
  have hs1 : 8 + (((1 : Nat)) : Int) = 9 := rfl
  rw [first_a.2.1]
  clear hown3 hh3 hb3
  go_wp2
  go_ret
  exact ⟨rfl, Hb3.out⟩

end Go.Proofs.Yteegnohfmonakaa

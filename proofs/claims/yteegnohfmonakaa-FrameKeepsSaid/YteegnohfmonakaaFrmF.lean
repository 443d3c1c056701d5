/- The document's Wrap of layer 6 gives what the plain text (SpecFrame) gives. Condition: the bytes are in memory. -/
import Derived.Test.YteegnohfmonakaaFrmE
namespace Go.Proofs.Yteegnohfmonakaa
open Go.RowKit
open Go.Lib (strCells)

theorem refWrap_large (A : Option Addr) (n c : Nat) (w : World) (hn : 65536 < n) :
    Calls Try.prog 10 #[.slice A n c] w fun e w' => e = .returned (.tuple #[.slice none 0 0, .int .i64 4]) ∧ w = w' := by
  go_enter Try.func10, Try.ntmps10
  go_wp2
  go_ret2
  exact ⟨rfl, rfl⟩

theorem empty_own (w : World) (B : Nat) (hB : B ≤ w.heap.size) (t : TypeId) : (w.alloc (.cells #[] t)).ownsRow B t 1 (.slice (some ⟨w.heap.size, 0, none⟩) 0 0) 0 [] :=
  World.ownsRow_lit (base := B) (e := t) (size := 1) w #[] 0 hB (by simp [maxLen]) rfl

set_option maxHeartbeats 1600000 in
theorem refWrap_any (A : Option Addr) (n c B : Nat) (l : List UInt8) (w : World) (h : HasBytes w B A n l) (hB : B ≤ w.heap.size) (hn : n ≤ 65536) :
    Calls Try.prog 10 #[.slice A n c] w fun e w' => ∃ v, e = .returned (.tuple #[v, .int .i64 0]) ∧ w'.ownsRow w.heap.size 5 1 v (8 + n) (byteCells (frameOf l)) ∧ Below w.heap.size w w' := by
  have Hl := Lib.hid h.len
  have H := Lib.hid h
  have HB := Lib.hid hB
  clear h hB
  go_enter Try.func10, Try.ntmps10
  go_wp2_with fail
  refine (refPut_any n w (by omega)).mono ?_
  rintro e w1 ⟨v1, rfl, hown1, hb1⟩
  obtain ⟨A1, c1, rfl, hc1, hcm1, hh1⟩ := own_slice hown1
  have Hown1 := Lib.hid hown1
  have Hh1 := Lib.hid hh1
  have Hb1 := Lib.hid hb1
  have Hg1 := Lib.hid hb1.size
  have H1 := Lib.hid (H.out.belowOf hb1 HB.out)
  clear hown1 hh1 hb1 hcm1
  have Hem := Lib.hid (empty_own w1 w1.heap.size (Nat.le_refl _) 5)
  go_wp2_with (first
    | (at_builtin; refine wpList_append_has rfl (.tmp 13) (.tmp 14) _ rfl 5 u8_elem Try.underlying22 rfl Hem.out rfl (Hh1.out.alloc (Nat.le_refl _) _) (byteCells_one _) (by simp only [maxLen]; omega) (by omega) (le_alloc (Nat.le_refl _) _) ?_; intro v2 w2 hown2 hg2 hz2; have Hown2 := Lib.hid hown2; have Hb2 : Hid (Below w1.heap.size w1 w2) := Lib.hid (below_own ((Below.refl _ _).alloc (Nat.le_refl _) _) Hem.out hg2 (le_alloc (Nat.le_refl _) _)); clear hown2 hg2 hz2)
    | (at_builtin; refine wpList_append_has rfl (.tmp 15) (.tmp 16) _ rfl 5 u8_elem Try.underlying22 rfl Hown2.out rfl (H1.out.belowOf Hb2.out (Nat.le_trans HB.out Hg1.out)) (byteCells_one _) (by simp only [maxLen]; omega) (by omega) Hb2.out.size ?_; intro v3 w3 hown3 hg3 hz3; have Hown3 := Lib.hid hown3; have Hb3 : Hid (Below w1.heap.size w1 w3) := Lib.hid (below_own Hb2.out Hown2.out hg3 Hb2.out.size); clear hown3 hg3 hz3; obtain ⟨A3, c3, rfl, hc3, hcm3, hh3⟩ := own_slice Hown3.out; have Hh3 := Lib.hid hh3; clear hh3 hcm3))
  have Hall : Hid (HasBytes w3 w3.heap.size A3 (4 + n) (sumPut n ++ l)) := Lib.hid (by
    have := Hh3.out
    rw [List.nil_append, ← byteCells_app, Nat.zero_add] at this
    exact this)
  have hS := sumOf_lt (sumPut n ++ l)
  refine (refOf_any A3 (4 + n) c3 _ (sumPut n ++ l) w3 Hall.out (by simp only [maxLen]; omega)).mono ?_
  rintro e w4 ⟨rfl, rfl⟩
  go_wp2_with fail
  refine (refPut_any (sumOf (sumPut n ++ l)) w3 hS).mono ?_
  rintro e w4 ⟨v4, rfl, hown4, hb4⟩
  obtain ⟨A4, c4, rfl, hc4, hcm4, hh4⟩ := own_slice hown4
  have Hh4 := Lib.hid hh4
  have Hb4 : Hid (Below w1.heap.size w1 w4) := Lib.hid (Hb3.out.trans (hb4.mono Hb3.out.size))
  have Hown1' := Lib.hid (own_below Hown1.out Hb4.out)
  have H4 := Lib.hid (H1.out.belowOf Hb4.out (Nat.le_trans HB.out Hg1.out))
  have Hb4' : Hid (Below w.heap.size w w4) := Lib.hid (Hb1.out.trans (Hb4.out.mono Hg1.out))
  clear hown4 hh4 hb4 hcm4 hc4
  go_wp2_with (first
    | (at_builtin; refine wpList_append_has rfl (.tmp 18) (.tmp 21) _ rfl 5 u8_elem Try.underlying22 rfl Hown1'.out rfl Hh4.out (byteCells_one _) (by simp only [maxLen]; omega) (by omega) Hb4'.out.size ?_; intro v5 w5 hown5 hg5 hz5; have Hown5 := Lib.hid hown5; have Hb5 : Hid (Below w.heap.size w w5) := Lib.hid (below_own Hb4'.out Hown1'.out hg5 Hb4'.out.size); clear hown5 hg5 hz5)
    | (at_builtin; refine wpList_append_has rfl (.tmp 22) (.tmp 23) _ rfl 5 u8_elem Try.underlying22 rfl Hown5.out rfl (H.out.belowOf Hb5.out HB.out) (byteCells_one _) (by simp only [maxLen]; omega) (by omega) Hb5.out.size ?_; intro v6 w6 hown6 hg6 hz6; have Hown6 := Lib.hid hown6; have Hb6 : Hid (Below w.heap.size w w6) := Lib.hid (below_own Hb5.out Hown5.out hg6 Hb5.out.size); clear hown6 hg6 hz6))
  go_ret2
  exact ⟨_, rfl, own_row Hown6.out (by omega) (by rw [frameOf, Hl.out, byteCells_app, byteCells_app, List.append_assoc]), Hb6.out⟩

end Go.Proofs.Yteegnohfmonakaa

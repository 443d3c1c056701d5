/- The example that each law of layer 12 begins with holds. No condition. -/
import Derived.Test.YtefagaiaflddaaaGoB
import Derived.Test.YtefagaiaflddaaaAtP
import Derived.BigQuiet
namespace Go.Proofs.Ytefagaiaflddaaa
open Go.RowKit
open Go.Lib (strCells compareBytes)

def exP : Pt := ⟨⟨#[]⟩, 2⟩
def exM : Pt := ⟨⟨#[109]⟩, 2⟩
def exN : Pt := ⟨⟨#[109]⟩, 3⟩
theorem ex_small0 : exP.lo.size ≤ maxLen := Nat.zero_le _
theorem ex_small1 : (⟨#[109]⟩ : ByteArray).size ≤ maxLen := by show 1 ≤ maxLen; unfold maxLen; omega
theorem ex_smallP : ∀ p ∈ [exP], p.lo.size ≤ maxLen := fun p hp => by simp at hp; subst hp; exact ex_small0
theorem ex_smallM : ∀ p ∈ [exP, exM], p.lo.size ≤ maxLen := fun p hp => by
  simp at hp
  rcases hp with rfl | rfl
  · exact ex_small0
  · exact ex_small1
theorem ex_start : startT 2 = (1, [exP], 0) := by unfold startT; rw [if_pos (by omega)]; rfl
theorem ex_right : RightP [exP] := ⟨by simp, by simp, fun p hp => by simp at hp; subst hp; rfl, List.pairwise_singleton _ _, fun p hp => by simp at hp; subst hp; exact ⟨by decide, by decide, by decide⟩⟩
theorem ex_hold : holdN [exP] (⟨#[109]⟩ : ByteArray).data.toList = 0 := hold_eq ⟨⟨exP, rfl, not_lt_nil _⟩, fun j q hj hq => by
  have := (List.getElem?_eq_some_iff.1 hq).1
  simp at this
  omega⟩
theorem ex_split : splitP [exP] ⟨#[109]⟩ = some [exP, exM] := by
  unfold splitP
  rw [ex_hold, if_neg]
  · rfl
  · rintro (h | h | h)
    · exact absurd h (by decide)
    · exact absurd h (by decide)
    · exact absurd h (by decide)
theorem ex_go : goT 1 [exP] (splitP [exP] ⟨#[109]⟩) = (2, [exP, exM], 0) := by
  unfold goT
  rw [if_neg (fun h => h (check_zero.2 ⟨by omega, by omega, ex_right⟩)), ex_split]
  rfl
theorem ex_right2 : RightP [exP, exM] := split_right ex_right ex_split
theorem ex_hold2 : holdN [exP, exM] (⟨#[122]⟩ : ByteArray).data.toList = 1 := hold_eq ⟨⟨exM, rfl, by decide⟩, fun j q hj hq => by
  have := (List.getElem?_eq_some_iff.1 hq).1
  simp at this
  omega⟩
theorem ex_move : moveP [exP, exM] ⟨#[122]⟩ 3 = some [exP, exN] := by
  unfold moveP
  rw [ex_hold2, if_neg]
  · rfl
  · rintro (h | h)
    · exact h ⟨by omega, by omega⟩
    · exact absurd h (by decide)
theorem ex_go2 : goT 2 [exP, exM] (moveP [exP, exM] ⟨#[122]⟩ 3) = (3, [exP, exN], 0) := by
  unfold goT
  rw [if_neg (fun h => h (check_zero.2 ⟨by omega, by omega, ex_right2⟩)), ex_move]
  rfl
theorem ex_pack : packT 1 [exP] = ([1, 1, 0, 2], 0) := by
  have h0 : numForm 0 = [0] := numForm_lo (by omega)
  have h1 : numForm 1 = [1] := numForm_lo (by omega)
  have h2 : numForm 2 = [2] := numForm_lo (by omega)
  unfold packT
  rw [if_pos (check_zero.2 ⟨by omega, by omega, ex_right⟩)]
  have : packM (1 : Int).toNat [exP] = [1, 1, 0, 2] := by
    show numForm 1 ++ (numForm 1 ++ ((numForm 0 ++ []) ++ (numForm 2 ++ []))) = _
    rw [h0, h1, h2]
    rfl
  rw [this]
set_option maxRecDepth 100000 in
set_option maxHeartbeats 3200000 in
theorem awake12_any (w : World) : Calls Try.prog 9 #[] w fun e w' => e = .returned (.bool true) ∧ Below w.heap.size w w' := by
  have Hst := Lib.hid (start_any 2 w)
  rw [ex_start] at Hst
  go_enter Try.func9, Try.ntmps9
  go_wp2_with fail
  refine Hst.out.mono ?_
  rintro e w1 ⟨v1, rfl, o1, b1⟩
  obtain ⟨A1, c1, rfl, -, -, x1⟩ := o1.slice
  have hb1 := below_box (w := w1) (Obj.cells #[.int .i64 1, .slice A1 1 c1] 24)
  have hx1 : HasPts (w1.alloc (.cells #[.int .i64 1, .slice A1 1 c1] 24)) w1.heap.size A1 1 [exP] := x1.belowOf hb1 (Nat.le_refl _)
  have HX1 := Lib.hid hx1
  have Hsp := Lib.hid (split_any 1 A1 1 c1 w1.heap.size [exP] ⟨#[109]⟩ (w1.alloc (.cells #[.int .i64 1, .slice A1 1 c1] 24)) hx1 (by simp) (by simp [maxLen]) ex_smallP ex_small1)
  rw [ex_go] at Hsp
  have HB1 : Hid (Below w.heap.size w (w1.alloc (.cells #[.int .i64 1, .slice A1 1 c1] 24)) ∧ Box (w1.alloc (.cells #[.int .i64 1, .slice A1 1 c1] 24)) w1.heap.size 24 #[.int .i64 1, .slice A1 1 c1]) := Lib.hid ⟨b1.alloc b1.size _, Box.made _ _ _⟩
  clear o1 x1 b1 hx1 hb1 Hst
  go_wp2_with fail
  refine Hsp.out.mono ?_
  rintro e w2 ⟨v2, rfl, o2, b2⟩
  obtain ⟨A2, c2, rfl, -, -, x2⟩ := o2.slice
  have hb2 := below_box (w := w2) (Obj.cells #[.int .i64 2, .slice A2 2 c2] 24)
  have hx2 : HasPts (w2.alloc (.cells #[.int .i64 2, .slice A2 2 c2] 24)) w2.heap.size A2 2 [exP, exM] := x2.belowOf hb2 (Nat.le_refl _)
  have Hmv := Lib.hid (move_any 2 A2 2 c2 w2.heap.size [exP, exM] ⟨#[122]⟩ 3 (w2.alloc (.cells #[.int .i64 2, .slice A2 2 c2] 24)) hx2 (by simp) (by simp [maxLen]) ex_smallM)
  rw [ex_go2] at Hmv
  have HB2 : Hid (Below (w1.alloc (.cells #[.int .i64 1, .slice A1 1 c1] 24)).heap.size (w1.alloc (.cells #[.int .i64 1, .slice A1 1 c1] 24)) (w2.alloc (.cells #[.int .i64 2, .slice A2 2 c2] 24))) := Lib.hid (b2.alloc b2.size _)
  clear o2 x2 b2 hx2 hb2 Hsp
  go_wp2_with fail
  refine Hmv.out.mono ?_
  rintro e w3 ⟨v3, rfl, o3, b3⟩
  have ho3 := o3
  unfold OwnPts at ho3
  obtain ⟨A3, c3, rfl, -, -, x3⟩ := o3.slice
  obtain ⟨g3, rfl, -⟩ := own_head (m := 2) (size := 2) (e := 46) ho3 (by omega)
  have hb3 := below_box (w := w3) (Obj.cells #[.int .i64 3, .slice (some ⟨g3, 0, none⟩) 2 c3] 24)
  have HO3 := Lib.hid (own_belowN ho3 hb3)
  have HB3 : Hid (Below (w1.alloc (.cells #[.int .i64 1, .slice A1 1 c1] 24)).heap.size (w1.alloc (.cells #[.int .i64 1, .slice A1 1 c1] 24)) (w3.alloc (.cells #[.int .i64 3, .slice (some ⟨g3, 0, none⟩) 2 c3] 24))) := Lib.hid (HB2.out.trans ((b3.alloc b3.size _).mono HB2.out.size))
  have HBx3 : Hid (Box (w3.alloc (.cells #[.int .i64 3, .slice (some ⟨g3, 0, none⟩) 2 c3] 24)) w3.heap.size 24 #[.int .i64 3, .slice (some ⟨g3, 0, none⟩) 2 c3]) := Lib.hid (Box.made _ _ _)
  have hbx1 := HB1.out.2.below HB3.out (by simp)
  have q0 : (w3.alloc (.cells #[.int .i64 3, .slice (some ⟨g3, 0, none⟩) 2 c3] 24)).cell? ⟨w1.heap.size, 0, none⟩ = some (.int .i64 1) := hbx1.cell 0
  have q1 : (w3.alloc (.cells #[.int .i64 3, .slice (some ⟨g3, 0, none⟩) 2 c3] 24)).cell? ⟨w1.heap.size, 1, none⟩ = some (.slice A1 1 c1) := hbx1.cell 1
  have Hpk := Lib.hid (packM_any 1 A1 1 c1 w1.heap.size [exP] (w3.alloc (.cells #[.int .i64 3, .slice (some ⟨g3, 0, none⟩) 2 c3] 24)) (HX1.out.belowOf HB3.out (by simp)) (by have := HB3.out.size; simp only [World.size_alloc] at this ⊢; omega) (by simp [maxLen]) ex_smallP)
  unfold PackPostM at Hpk
  rw [ex_pack] at Hpk
  clear o3 x3 b3 ho3 hb3 hbx1 Hmv
  go_wp2_with fail
  refine Hpk.out.mono ?_
  rintro e w4 ⟨rfl, b4⟩
  have hbx := HBx3.out.below b4 HBx3.out.lt
  have y0 : w4.cell? ⟨w3.heap.size, 0, none⟩ = some (.int .i64 3) := hbx.cell 0
  have y1 : w4.cell? ⟨w3.heap.size, 1, none⟩ = some (.slice (some ⟨g3, 0, none⟩) 2 c3) := hbx.cell 1
  have ho4 := own_belowN HO3.out b4
  have z0 : w4.cell? ⟨g3, 2, none⟩ = some (.string ⟨#[109]⟩) := ho4.cellAt 2 (by show 2 < 4; omega)
  have z1 : w4.cell? ⟨g3, 3, none⟩ = some (.int .i64 3) := ho4.cellAt 3 (by show 3 < 4; omega)
  have HE : Hid (Below w.heap.size w w4) := Lib.hid ((HB1.out.1.trans (HB3.out.mono HB1.out.1.size)).trans (b4.mono (Nat.le_trans HB1.out.1.size HB3.out.size)))
  clear hbx ho4 b4 q0 q1
  go_wp2
  go_ret
  exact ⟨rfl, HE.out⟩
end Go.Proofs.Ytefagaiaflddaaa

/- The example that each law of layer 13 begins with holds. No condition. -/
import Derived.Test.YtabcoidjbigdbaaLetG
import Derived.Test.YtabcoidjbigdbaaLetL
namespace Go.Proofs.Ytabcoidjbigdbaa
open Go.RowKit
open Go.Lib (strCells)

def exL : Let := ⟨1, 0, 2, 0, 0, 0, 0, ⟨#[97]⟩, ⟨#[]⟩, [], [], 0, true, ⟨#[]⟩⟩
def exB : List UInt8 := [1, 0, 2, 0, 0, 0, 0, 0, 1, 1, 97, 0, 0, 0, 0]
theorem ex_forms : formsOf exL.toks = exB := by
  have h0 : numForm 0 = [0] := numForm_lo (by omega)
  have h1 : numForm 1 = [1] := numForm_lo (by omega)
  have h2 : numForm 2 = [2] := numForm_lo (by omega)
  show numForm 1 ++ (numForm 0 ++ (numForm 2 ++ (numForm 0 ++ (numForm 0 ++ (numForm 0 ++ (numForm 0 ++ (numForm 0 ++ (numForm 1 ++ ((numForm 1 ++ [97]) ++ ((numForm 0 ++ []) ++ ((numForm 0 ++ []) ++ (numForm 0 ++ (numForm 0 ++ []))))))))))))) = _
  rw [h0, h1, h2]
  rfl
theorem ex_err : exL.err = 0 := err_zero.2 ⟨by decide, by decide, by decide, by rw [ex_forms]; decide⟩
theorem ex_packedL : exL.packed = exB := by unfold Let.packed; rw [if_pos ex_err, ex_forms]
theorem ex_unp : (letU exB).2 = 0 ∧ (letU exB).1.to = 2 ∧ (letU exB).1.s = ⟨#[97]⟩ ∧ (letU exB).1.yes = true := by decide +kernel
set_option maxRecDepth 100000 in
set_option maxHeartbeats 3200000 in
theorem awake13_any (w : World) : Calls Try.prog 10 #[] w fun e w' => e = .returned (.bool true) ∧ Below w.heap.size w w' := by
  have Hpk := Lib.hid (letPack_any exL none 0 0 none 0 0 w.heap.size w (HasLps.nil _ _ _) (HasLis.nil _ _ _) (Nat.le_refl _) ⟨by simp [maxLen], by simp [maxLen]⟩ (by decide) (by simp [exL]) (by simp [exL]))
  unfold LetPackPost at Hpk
  rw [ex_packedL, ex_err] at Hpk
  go_enter Try.func10, Try.ntmps10
  go_wp2_with fail
  refine Hpk.out.mono ?_
  rintro e w1 ⟨rfl, b1⟩
  have Hun := Lib.hid (letUnpack_any ⟨exB.toArray⟩ w1 (by decide))
  rw [show (ByteArray.mk exB.toArray).data.toList = exB from rfl] at Hun
  obtain ⟨R, hR⟩ : ∃ R, letU exB = R := ⟨_, rfl⟩
  have hU := ex_unp
  rw [hR] at Hun hU
  obtain ⟨⟨kd, fr, to', a, b, c, d, s, t, ps, is, cd, ys, bd⟩, er⟩ := R
  obtain ⟨u0, u1, u2, u3⟩ := hU
  simp only at u0 u1 u2 u3
  subst u0 u1 u2 u3
  unfold UnpPost at Hun
  have HB1 := Lib.hid b1
  clear b1 hR Hpk
  go_wp2_with fail
  refine Hun.out.mono ?_
  rintro e w2 ⟨Ap, np, cp, Ai, ni, ci, rfl, -, -, b2⟩
  have HB2 : Hid (Below w.heap.size w w2) := Lib.hid (HB1.out.trans (b2.mono HB1.out.size))
  clear b2 Hun
  go_wp2
  go_ret
  exact ⟨rfl, HB2.out.alloc HB2.out.size _⟩
end Go.Proofs.Ytabcoidjbigdbaa

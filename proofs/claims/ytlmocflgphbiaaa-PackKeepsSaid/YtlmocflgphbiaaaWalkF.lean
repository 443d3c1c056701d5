/- The examples that each law begins with hold. No condition. -/
import Derived.Test.YtlmocflgphbiaaaWalkE
namespace Go.Proofs.Ytlmocflgphbiaaa
open Go.RowKit
open Go.Lib (strCells)

theorem getNum_300 : getNum [172, 2, 9] 0 = (300, 2, 0) := by decide +kernel
theorem form_300 : numForm 300 = [172, 2] := by
  rw [numForm_big (by omega), numForm_small (by omega)]
  decide
theorem form_ab : textForm [97, 98] = [2, 97, 98] := by
  rw [textForm, numForm_small (by simp)]
  rfl

set_option maxHeartbeats 400000 in
theorem awake_any (w : World) : Calls Try.prog 10 #[] w fun e w' => e = .returned (.bool true) ∧ Below w.heap.size w w' := by
  go_enter Try.func10, Try.ntmps10
  go_wp2_with fail
  have hlit := Has.lit w #[.int .u8 172, .int .u8 2, .int .u8 9] 5
  refine (getNum_any _ 3 3 _ 0 [172, 2, 9] _ hlit (by simp [maxLen]) (by omega)).mono ?_
  rintro e w' ⟨rfl, rfl⟩
  rw [getNum_300]
  have hb0 : Below w.heap.size w (w.alloc (.cells #[.int .u8 172, .int .u8 2, .int .u8 9] 5)) := (Below.refl _ _).alloc (Nat.le_refl _) _
  clear hlit
  go_wp2_with fail
  refine (num_any 300 _ (by omega)).mono ?_
  rintro e w1 ⟨v1, rfl, hown1, hb1⟩
  obtain ⟨A1, c1, rfl, hc1, hm1, hh1⟩ := own_slice hown1
  have e1 : (if (300 : Int) < 0 then [] else numForm (300 : Int).toNat) = [172, 2] := form_300
  rw [e1] at hh1 ⊢
  have hs1 := run_string_of (P := Try.prog) (n := 2) (l := [172, 2]) hh1 c1 25 9 5 Try.underlying25 Try.underlying5 Try.underlying9
  have hb01 := hb0.trans (hb1.mono (le_alloc (Nat.le_refl _) _))
  clear hown1 hc1 hm1 hh1 hb0 hb1 e1
  go_wp2_with fail
  refine (text_any ⟨#[97, 98]⟩ _ (by decide)).mono ?_
  rintro e w2 ⟨v2, rfl, hown2, hb2⟩
  obtain ⟨A2, c2, rfl, hc2, hm2, hh2⟩ := own_slice hown2
  have e2 : textForm (ByteArray.mk #[97, 98]).data.toList = [2, 97, 98] := form_ab
  rw [e2] at hh2 ⊢
  have hs2 := run_string_of (P := Try.prog) (n := 3) (l := [2, 97, 98]) hh2 c2 25 9 5 Try.underlying25 Try.underlying5 Try.underlying9
  have hb02 := hb01.trans (hb2.mono hb01.size)
  clear hown2 hc2 hm2 hh2 hb01 hb2 hs1 e2
  go_wp2
  go_ret
  exact ⟨rfl, hb02⟩

end Go.Proofs.Ytlmocflgphbiaaa

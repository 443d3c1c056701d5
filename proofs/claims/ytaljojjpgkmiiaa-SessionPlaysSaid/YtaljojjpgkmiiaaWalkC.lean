/- pack.addNum and pack.Num put the form of a number behind a row of the call's own. Condition: the row is shorter than 2^46. -/
import Derived.Test.YtaljojjpgkmiiaaWalkB
import Derived.Test.YtaljojjpgkmiiaaAppend
namespace Go.Proofs.Ytaljojjpgkmiiaa
open Go.RowKit
open Go.Lib (strCells)

theorem numForm_small {k : Nat} (h : k < 128) : numForm k = [UInt8.ofNat k] := by rw [numForm, if_pos h]
theorem numForm_big {k : Nat} (h : 128 ≤ k) : numForm k = UInt8.ofNat (k % 128 + 128) :: numForm (k / 128) := by rw [numForm, if_neg (by omega)]
theorem numForm_len : ∀ (j k : Nat), k < 128 ^ (j + 1) → (numForm k).length ≤ j + 1
  | 0, k, h => by rw [numForm_small (by simpa using h)]; simp
  | j + 1, k, h => by
    by_cases hk : k < 128
    · rw [numForm_small hk]; simp
    · rw [numForm_big (by omega)]
      have := numForm_len j (k / 128) (by rw [Nat.pow_succ] at h; omega)
      simp only [List.length_cons]
      omega
theorem numForm_len9 {k : Nat} (h : k < 9223372036854775808) : (numForm k).length ≤ 9 := numForm_len 8 k (by omega)

theorem and_127 (k : Nat) (h : k < 9223372036854775808) : bits .and .i64 (k : Int) 127 = ((k % 128 : Nat) : Int) := by
  have h1 : bits .and .i64 (k : Int) 127 = (k : Int) % 128 := bits_mask .i64 63 (by decide) (fun n h0 h1 => IntWalk.i64_in n ⟨by omega, by omega⟩) 7 (by decide) k (by omega) (by omega)
  rw [h1]
  omega
theorem or_128 (k : Nat) : bits .or .i64 ((k % 128 : Nat) : Int) 128 = ((k % 128 + 128 : Nat) : Int) := by
  have h := or_small (k % 128) 128 (by omega) (by omega)
  have e := Nat.two_pow_add_eq_or_of_lt (i := 7) (b := k % 128) (by omega) 1
  rw [show (2 : Nat) ^ 7 * 1 = 128 from by decide] at e
  rw [Nat.or_comm, ← e, Nat.add_comm] at h
  exact h

set_option maxHeartbeats 400000 in
theorem addNum_any (B m k : Nat) (v : Value) (xs : List Value) (w : World) (hown : w.ownsRow B 5 1 v m xs) (hB : B ≤ w.heap.size) (hk : k < 9223372036854775808) (hm : m ≤ 70368744177664) :
    Calls Try.prog 102 #[v, .int .i64 (k : Int)] w (Gives B (m + (numForm k).length) (xs ++ byteCells (numForm k)) w) := by
  have hlen := numForm_len9 hk
  go_enter Try.func102, Try.ntmps102
  go_wp2
  go_loopw [0, 1] (fun v i wr => ∃ (k' : Nat) (pre : List UInt8), k' ≤ k ∧ i = .int .i64 (k' : Int) ∧ numForm k = pre ++ numForm k' ∧ wr.ownsRow B 5 1 v (m + pre.length) (xs ++ byteCells pre) ∧ Below B w wr) (fun _ i _ => (intOf i).toNat)
  case atStart => exact ⟨k, [], Nat.le_refl _, rfl, rfl, by simpa [byteCells] using hown, Below.refl _ _⟩
  case round =>
    obtain ⟨k', pre, hk', rfl, hf, hown', hb⟩ := hrel
    have Hf := Lib.hid hf
    have hpl : pre.length ≤ 9 := by have := congrArg List.length hf; simp only [List.length_append] at this; omega
    have hBr : B ≤ wr.heap.size := Nat.le_trans hB hb.size
    clear hf
    have hand := and_127 k' (by omega)
    have hor : bits .or .i64 ((k' : Int) % 128) 128 = (k' : Int) % 128 + 128 := or_128 k'
    by_cases hlt : 128 ≤ k'
    · go_wp2_with (at_builtin; refine wpList_append_has rfl (.tmp 7) (.tmp 12) _ rfl 5 u8_elem Try.underlying76 rfl (hown'.alloc _) rfl (Has.one wr _ _ _ rfl) (one_int _ _) (by simp only [maxLen]; omega) (by omega) (le_alloc hBr _) ?_; intro v' w1 hown1 hg1 _)
      have hb1 : Below B w w1 := below_own (hb.alloc hBr _) (hown'.alloc _) hg1 (le_alloc hBr _)
      go_roundw
      case rel =>
        refine ⟨k' / 128, pre ++ [UInt8.ofNat (k' % 128 + 128)], by omega, by go_num, ?_, ?_, hb1⟩
        · rw [Hf.out, numForm_big hlt, List.append_assoc]
          rfl
        · rw [byteCells_app, byte_cell _ (by omega), ← List.append_assoc, List.length_append]
          exact hown1
      case measure => simp [intOf]; omega
    · go_wp2_with (at_builtin; refine wpList_append_has rfl (.tmp 16) (.tmp 19) _ rfl 5 u8_elem Try.underlying76 rfl (hown'.alloc _) rfl (Has.one wr _ _ _ rfl) (one_int _ _) (by simp only [maxLen]; omega) (by omega) (le_alloc hBr _) ?_; intro v' w1 hown1 hg1 _)
      have hb1 : Below B w w1 := below_own (hb.alloc hBr _) (hown'.alloc _) hg1 (le_alloc hBr _)
      go_ret
      have hn : numForm k' = [UInt8.ofNat k'] := numForm_small (by omega)
      refine ret_own rfl hown1 ?_ ?_ hb1
      · rw [Hf.out, hn, List.length_append]; rfl
      · rw [Hf.out, hn, byteCells_app, byte_cell _ (by omega), List.append_assoc]

theorem gives_mono {B B' m : Nat} {xs : List Value} {w : World} {e : Ending} {w' : World} (h : Gives B m xs w e w') (hB : B' ≤ B) : ∃ v', e = .returned v' ∧ w'.ownsRow B 5 1 v' m xs ∧ Below B' w w' := by
  obtain ⟨v', he, ho, hb⟩ := h
  exact ⟨v', he, ho, hb.mono hB⟩

/-- Num -/
theorem num_any (k : Int) (w : World) (hk : k < 9223372036854775808) :
    Calls Try.prog 65 #[.int .i64 k] w (Gives w.heap.size (if k < 0 then [] else numForm k.toNat).length (byteCells (if k < 0 then [] else numForm k.toNat)) w) := by
  by_cases h : k < 0
  · rw [if_pos h]
    go_enter Try.func65, Try.ntmps65
    go_wp2
    go_ret
    exact ⟨_, rfl, World.ownsRow_nil _ _ _ _, Below.refl _ _⟩
  · rw [if_neg h]
    obtain ⟨q, rfl⟩ : ∃ q : Nat, k = q := ⟨k.toNat, by omega⟩
    rw [Int.toNat_natCast]
    go_enter Try.func65, Try.ntmps65
    go_wp2_with fail
    refine (addNum_any w.heap.size 0 q (.slice none 0 0) [] w (World.ownsRow_nil _ _ _ _) (Nat.le_refl _) (by omega) (by omega)).mono ?_
    rintro e w' ⟨v', rfl, hown, hb⟩
    go_wp2
    go_ret
    exact ret_own rfl hown (by omega) rfl hb

end Go.Proofs.Ytaljojjpgkmiiaa

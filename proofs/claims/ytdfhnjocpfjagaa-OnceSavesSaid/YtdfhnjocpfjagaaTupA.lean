/- Good and the comparisons of single values, of the program and of the document, give what the plain text (SpecTuple) gives. No condition. -/
import Derived.Test.YtdfhnjocpfjagaaVals
import Derived.Test.YtdfhnjocpfjagaaWords
import Derived.WalkKit
import Derived.WalkSpells
import Derived.WalkLawsBesides
import Derived.IntWalk
import Derived.BigQuiet
import Derived.Deep.QuietTactic
namespace Go.Proofs.Ytdfhnjocpfjagaa
open Go.RowKit
open Go.Lib (strCells)

theorem good_any (k n : Int) (s : ByteArray) (w : World) :
    Calls Try.prog 28 #[.agg #[.int .i64 k, .int .i64 n, .string s]] w fun e w' => e = .returned (.bool (goodB k n s)) ∧ Below w.heap.size w w' := by
  have hx : k = 0 ∨ k = 1 ∨ k = 2 ∨ (¬ k = 0 ∧ ¬ k = 1 ∧ ¬ k = 2) := by omega
  have e0 : goodB 0 n s = (n == 0 && s.toList.isEmpty) := rfl
  have e1 : goodB 1 n s = s.toList.isEmpty := rfl
  have e2 : goodB 2 n s = (n == 0 && decide (s.size ≤ 32)) := rfl
  have E0 := Lib.hid e0
  have E1 := Lib.hid e1
  have E2 := Lib.hid e2
  clear e0 e1 e2
  rcases hx with rfl | rfl | rfl | ⟨h0, h1, h2⟩
  · by_cases hn : n = 0
    · subst hn
      go_enter Try.func28, Try.ntmps28
      go_wp2
      go_ret
      exact ⟨ret_bool (by rw [E0.out]; simp), below_box _⟩
    · have hb : (n == 0) = false := by simpa using hn
      go_enter Try.func28, Try.ntmps28
      go_wp2
      go_ret
      exact ⟨ret_bool (by rw [E0.out, hb]; rfl), below_box _⟩
  · go_enter Try.func28, Try.ntmps28
    go_wp2
    go_ret
    exact ⟨ret_bool (by rw [E1.out]), below_box _⟩
  · by_cases hn : n = 0
    · subst hn
      go_enter Try.func28, Try.ntmps28
      go_wp2
      go_ret
      exact ⟨ret_bool (by rw [E2.out]; simp; omega), below_box _⟩
    · have hb : (n == 0) = false := by simpa using hn
      go_enter Try.func28, Try.ntmps28
      go_wp2
      go_ret
      exact ⟨ret_bool (by rw [E2.out, hb]; rfl), below_box _⟩
  · have E3 : Hid (goodB k n s = false) := Lib.hid (by unfold goodB; rw [if_neg h0, if_neg h1, if_neg h2])
    have b0 : (k == 0) = false := by simpa using h0
    have b1 : (k == 1) = false := by simpa using h1
    have b2 : (k == 2) = false := by simpa using h2
    clear h0 h1 h2
    go_enter Try.func28, Try.ntmps28
    go_wp2
    go_ret
    exact ⟨ret_bool (by rw [E3.out]), below_box _⟩

theorem refGood_any (k n : Int) (s : ByteArray) (w : World) :
    Calls Try.prog 29 #[.agg #[.int .i64 k, .int .i64 n, .string s]] w fun e w' => e = .returned (.bool (goodB k n s)) ∧ Below w.heap.size w w' := by
  have hx : k = 0 ∨ k = 1 ∨ k = 2 ∨ (¬ k = 0 ∧ ¬ k = 1 ∧ ¬ k = 2) := by omega
  have e0 : goodB 0 n s = (n == 0 && s.toList.isEmpty) := rfl
  have e1 : goodB 1 n s = s.toList.isEmpty := rfl
  have e2 : goodB 2 n s = (n == 0 && decide (s.size ≤ 32)) := rfl
  have E0 := Lib.hid e0
  have E1 := Lib.hid e1
  have E2 := Lib.hid e2
  clear e0 e1 e2
  rcases hx with rfl | rfl | rfl | ⟨h0, h1, h2⟩
  · by_cases hn : n = 0
    · subst hn
      by_cases hs : s.toList.isEmpty = true
      · go_enter Try.func29, Try.ntmps29
        go_wp2
        go_ret
        exact ⟨ret_bool (by rw [E0.out]; simp [hs]), below_box _⟩
      · have hs' : s.toList.isEmpty = false := by simpa using hs
        go_enter Try.func29, Try.ntmps29
        go_wp2
        go_ret
        exact ⟨ret_bool (by rw [E0.out]; simp [hs']), below_box _⟩
    · have hb : (n == 0) = false := by simpa using hn
      go_enter Try.func29, Try.ntmps29
      go_wp2
      go_ret
      exact ⟨ret_bool (by rw [E0.out, hb]; rfl), below_box _⟩
  · cases hs : s.toList.isEmpty with
    | true =>
      go_enter Try.func29, Try.ntmps29
      go_wp2
      go_ret
      exact ⟨ret_bool (by rw [E1.out]; simp [hs]), below_box _⟩
    | false =>
      go_enter Try.func29, Try.ntmps29
      go_wp2
      go_ret
      exact ⟨ret_bool (by rw [E1.out]; simp [hs]), below_box _⟩
  · by_cases hn : n = 0
    · subst hn
      go_enter Try.func29, Try.ntmps29
      go_wp2
      go_ret
      exact ⟨ret_bool (by rw [E2.out]; simp; omega), below_box _⟩
    · have hb : (n == 0) = false := by simpa using hn
      go_enter Try.func29, Try.ntmps29
      go_wp2
      go_ret
      exact ⟨ret_bool (by rw [E2.out, hb]; rfl), below_box _⟩
  · have E3 : Hid (goodB k n s = false) := Lib.hid (by unfold goodB; rw [if_neg h0, if_neg h1, if_neg h2])
    have b0 : (k == 0) = false := by simpa using h0
    have b1 : (k == 1) = false := by simpa using h1
    have b2 : (k == 2) = false := by simpa using h2
    clear h0 h1 h2
    go_enter Try.func29, Try.ntmps29
    go_wp2
    go_ret
    exact ⟨ret_bool (by rw [E3.out]), below_box _⟩

/-! ### the library's comparisons -/
theorem isNaN_any (x : Int) (w : World) : Calls Try.prog 122 #[.int .i64 x] w fun e w' => e = .returned (.bool false) ∧ w = w' := by
  go_enter Try.func122, Try.ntmps122
  go_wp2
  go_ret
  exact ⟨ret_bool (by simp), rfl⟩
theorem cmpInt_any (x y : Int) (w : World) : Calls Try.prog 109 #[.int .i64 x, .int .i64 y] w fun e w' => e = .returned (.int .i64 (sgn x y)) ∧ w = w' := by
  by_cases h : x < y
  · have E : Hid (sgn x y = -1) := Lib.hid (if_pos h)
    go_enter Try.func109, Try.ntmps109
    go_wp2_with fail
    refine (isNaN_any _ _).mono ?_
    rintro e w' ⟨rfl, rfl⟩
    go_wp2_with fail
    refine (isNaN_any _ _).mono ?_
    rintro e w' ⟨rfl, rfl⟩
    go_wp2
    go_ret
    exact ⟨ret_i64 (by rw [E.out]), rfl⟩
  · by_cases h' : y < x
    · have E : Hid (sgn x y = 1) := Lib.hid (by unfold sgn; rw [if_neg h, if_pos h'])
      go_enter Try.func109, Try.ntmps109
      go_wp2_with fail
      refine (isNaN_any _ _).mono ?_
      rintro e w' ⟨rfl, rfl⟩
      go_wp2_with fail
      refine (isNaN_any _ _).mono ?_
      rintro e w' ⟨rfl, rfl⟩
      go_wp2
      go_ret
      exact ⟨ret_i64 (by rw [E.out]), rfl⟩
    · have E : Hid (sgn x y = 0) := Lib.hid (by unfold sgn; rw [if_neg h, if_neg h'])
      go_enter Try.func109, Try.ntmps109
      go_wp2_with fail
      refine (isNaN_any _ _).mono ?_
      rintro e w' ⟨rfl, rfl⟩
      go_wp2_with fail
      refine (isNaN_any _ _).mono ?_
      rintro e w' ⟨rfl, rfl⟩
      go_wp2
      go_ret
      exact ⟨ret_i64 (by rw [E.out]), rfl⟩

end Go.Proofs.Ytdfhnjocpfjagaa

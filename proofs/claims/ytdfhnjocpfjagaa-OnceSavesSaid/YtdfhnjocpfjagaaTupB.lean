/- The comparison of texts and of values, of the program and of the document, give what the plain text (SpecTuple) gives. No condition. -/
import Derived.Test.YtdfhnjocpfjagaaTupA
import Derived.Test.YtdfhnjocpfjagaaCmpS
import Derived.Lib.Bytealg
import Derived.Deep.RegionWith
import Derived.Deep.RegionHeld3
namespace Go.Proofs.Ytdfhnjocpfjagaa
open Go.RowKit
open Go.Lib (strCells compareBytes)

/-- the first that is not 0 -/
def firstOf (x y z : Int) : Int := if x ≠ 0 then x else if y ≠ 0 then y else z
theorem or_any (x y z : Int) (g : Nat) (w : World) (h0 : w.cell? ⟨g, 0, none⟩ = some (.int .i64 x)) (h1 : w.cell? ⟨g, 1, none⟩ = some (.int .i64 y)) (h2 : w.cell? ⟨g, 2, none⟩ = some (.int .i64 z)) :
    Calls Try.prog 108 #[.slice (some ⟨g, 0, none⟩) 3 3] w fun e w' => e = .returned (.int .i64 (firstOf x y z)) ∧ w = w' := by
  have Hc : Hid (∀ k, k < 3 → ∃ v, w.cell? ⟨g, k, none⟩ = some (.int .i64 v) ∧ (k = 0 → v = x) ∧ (k = 1 → v = y) ∧ (k = 2 → v = z)) := Lib.hid fun k hk => by
    have : k = 0 ∨ k = 1 ∨ k = 2 := by omega
    rcases this with rfl | rfl | rfl
    · exact ⟨x, h0, by omega, by omega, by omega⟩
    · exact ⟨y, h1, by omega, by omega, by omega⟩
    · exact ⟨z, h2, by omega, by omega, by omega⟩
  clear h0 h1 h2
  go_enter Try.func108, Try.ntmps108
  go_wp2
  go_loop [5, 8] (fun v i => ∃ k : Nat, k ≤ 3 ∧ i = .int .i64 (k : Int) ∧ Hid ((0 < k → x = 0) ∧ (1 < k → y = 0) ∧ (2 < k → z = 0))) (fun _ i => 3 - (intOf i).toNat)
  case atStart => exact ⟨0, by omega, rfl, Lib.hid ⟨by omega, by omega, by omega⟩⟩
  case round =>
    obtain ⟨k, hk, rfl, Hz⟩ := hrel
    by_cases hlt : k < 3
    · obtain ⟨v, hc, hv⟩ := Hc.out k hlt
      have Hv := Lib.hid hv
      clear hv
      by_cases hv0 : v = 0
      · subst hv0
        go_wp2
        go_round
        case rel =>
          refine ⟨k + 1, by omega, by go_num, Lib.hid ?_⟩
          have := Hv.out
          have := Hz.out
          refine ⟨fun _ => ?_, fun _ => ?_, fun _ => ?_⟩ <;> omega
        case measure => simp [intOf]; omega
      · have hb : (v == 0) = false := by simpa using hv0
        have hb' : (v != 0) = true := by simpa using hv0
        have E : Hid (firstOf x y z = v) := Lib.hid (by
          have := Hv.out
          have := Hz.out
          unfold firstOf
          split
          · omega
          · split <;> omega)
        clear hv0
        go_wp2
        go_ret
        exact ⟨ret_i64 (by rw [E.out]), rfl⟩
    · obtain rfl : k = 3 := by omega
      have E : Hid (firstOf x y z = 0) := Lib.hid (by
        have := Hz.out
        unfold firstOf
        split
        · omega
        · split <;> omega)
      go_wp2
      go_ret
      exact ⟨ret_i64 (by rw [E.out]), rfl⟩

theorem or_laid (x y z : Int) (W : World) (t : TypeId) (g : Nat) (hg : W.heap.size = g) :
    Calls Try.prog 108 #[.slice (some ⟨g, 0, none⟩) 3 3] (W.alloc (.cells #[.int .i64 x, .int .i64 y, .int .i64 z] t)).drew fun e w' => e = .returned (.int .i64 (firstOf x y z)) ∧ (W.alloc (.cells #[.int .i64 x, .int .i64 y, .int .i64 z] t)).drew = w' := by
  subst hg
  have hb := Box.made W t #[.int .i64 x, .int .i64 y, .int .i64 z]
  exact or_any x y z _ _ (hb.cell 0) (hb.cell 1) (hb.cell 2)

theorem refBelow_any (v u : TVal) (w : World) :
    Calls Try.prog 74 #[vagg v, vagg u] w fun e w' => e = .returned (.bool (if v.k ≠ u.k then decide (v.k < u.k) else if v.k = 1 then decide (v.n < u.n) else Op.bytesLess v.s.toList u.s.toList)) ∧ Below w.heap.size w w' := by
  obtain ⟨k, n, s⟩ := v
  obtain ⟨k', n', s'⟩ := u
  simp only [vagg]
  by_cases hk : k = k'
  · subst hk
    by_cases h1 : k = 1
    · subst h1
      go_enter Try.func74, Try.ntmps74
      go_wp2
      go_ret
      exact ⟨by simp, (below_box _).trans ((Below.refl _ _).alloc (by simp) _)⟩
    · have hb : (k == 1) = false := by simpa using h1
      go_enter Try.func74, Try.ntmps74
      go_wp2
      go_ret
      exact ⟨by simp, (below_box _).trans ((Below.refl _ _).alloc (by simp) _)⟩
  · have hb : (k == k') = false := by simpa using hk
    have hb' : (k != k') = true := by simpa using hk
    go_enter Try.func74, Try.ntmps74
    go_wp2
    go_ret
    exact ⟨by simp, (below_box _).trans ((Below.refl _ _).alloc (by simp) _)⟩

theorem firstOf_cmpV (v u : TVal) : firstOf (sgn v.k u.k) (sgn v.n u.n) (compareBytes v.t u.t) = cmpV v u := by
  have h0 : ∀ a b : Int, sgn a b = 0 ↔ a = b := fun a b => ⟨sgn_zero, fun h => by subst h; exact sgn_self _⟩
  unfold firstOf cmpV
  simp only [ne_eq, h0]
theorem compareVals_any (v u : TVal) (w : World) :
    Calls Try.prog 73 #[vagg v, vagg u] w fun e w' => e = .returned (.int .i64 (cmpV v u)) ∧ Below w.heap.size w w' := by
  obtain ⟨k, n, s⟩ := v
  obtain ⟨k', n', s'⟩ := u
  simp only [vagg]
  go_enter Try.func73, Try.ntmps73
  go_wp2
  go_region_held3 (fun wx => wx.cell? ⟨w.heap.size, 0, none⟩ = some (.int .i64 k) ∧ wx.cell? ⟨w.heap.size, 1, none⟩ = some (.int .i64 n) ∧ wx.cell? ⟨w.heap.size, 2, none⟩ = some (.string s) ∧
      wx.cell? ⟨w.heap.size + 1, 0, none⟩ = some (.int .i64 k') ∧ wx.cell? ⟨w.heap.size + 1, 1, none⟩ = some (.int .i64 n') ∧ wx.cell? ⟨w.heap.size + 1, 2, none⟩ = some (.string s'))
    (go_keep)
    (first
      | (go_at_call 110; refine (strCompare_any _ _ _).mono ?_; rintro e w' ⟨rfl, rfl⟩)
      | (go_at_call 109; refine (cmpInt_any _ _ _).mono ?_; rintro e w' ⟨rfl, rfl⟩)
      | (go_at_call 108; refine (or_laid _ _ _ _ _ _ ?_).mono ?_; (simp only [World.size_alloc]); rintro e w' ⟨rfl, rfl⟩))
  go_wp2
  go_ret
  exact ⟨ret_i64 (firstOf_cmpV ⟨k, n, s⟩ ⟨k', n', s'⟩), (((below_box _).alloc (le_alloc (Nat.le_refl _) _) _).alloc (le_alloc (le_alloc (Nat.le_refl _) _) _) _).drew⟩

end Go.Proofs.Ytdfhnjocpfjagaa

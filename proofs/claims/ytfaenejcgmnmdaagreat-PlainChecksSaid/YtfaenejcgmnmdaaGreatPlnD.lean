/- The document's check of an operation gives what the plain text (checkT) gives: the kinds 9 to 11, and all of them. Condition: the operation is in memory. -/
import Derived.Test.YtfaenejcgmnmdaaGreatPlnD1
namespace Go.Proofs.YtfaenejcgmnmdaaGreat
open Go.RowKit
open Go.Lib (strCells compareBytes)

set_option maxRecDepth 100000 in
set_option maxHeartbeats 1600000 in
theorem refCheck_k9 (key to : ByteArray) (rc old low high : List TVal) (id lim sp nd : Int) (fs : List Int) (rv ov fv lv hv : Value) (w : World) :
    Calls Tryz.prog 12 #[.agg (opCells ⟨9, key, to, rc, old, id, fs, low, high, lim, sp, nd⟩ rv ov fv lv hv)] w (RefChecked (checkT ⟨9, key, to, rc, old, id, fs, low, high, lim, sp, nd⟩) w) := by
  have Hsl := Lib.hid (Lib.size_eq key)
  by_cases h1 : sp = 0 ∨ sp = 1
  · by_cases h2 : 100 < key.size
    · have E : Hid (checkT ⟨9, key, to, rc, old, id, fs, low, high, lim, sp, nd⟩ = 1) := Lib.hid (by show firstN [inE sp 0 1, inE key.size 1 100] = _; simp only [firstN, inE]; (repeat' split) <;> omega)
      rcases h1 with rfl | rfl
      · unfold opCells
        go_enter Tryz.func12, Tryz.ntmps12
        go_wp2
        go_ret
        exact refChecked E.out (by simp) (below_alloc _ _)
      · unfold opCells
        go_enter Tryz.func12, Tryz.ntmps12
        go_wp2
        go_ret
        exact refChecked E.out (by simp) (below_alloc _ _)
    · by_cases h3 : key.size = 0
      · have E : Hid (checkT ⟨9, key, to, rc, old, id, fs, low, high, lim, sp, nd⟩ = 1) := Lib.hid (by show firstN [inE sp 0 1, inE key.size 1 100] = _; simp only [firstN, inE]; (repeat' split) <;> omega)
        have hb : (key.toList == []) = true := by
          rw [Lib.toList_data, show key.data.toList = [] from List.eq_nil_of_length_eq_zero (by have := Hsl.out; omega)]; rfl
        rcases h1 with rfl | rfl
        · unfold opCells
          go_enter Tryz.func12, Tryz.ntmps12
          go_wp2
          go_ret
          exact refChecked E.out (by simp) (below_alloc _ _)
        · unfold opCells
          go_enter Tryz.func12, Tryz.ntmps12
          go_wp2
          go_ret
          exact refChecked E.out (by simp) (below_alloc _ _)
      · have E : Hid (checkT ⟨9, key, to, rc, old, id, fs, low, high, lim, sp, nd⟩ = 0) := Lib.hid (by show firstN [inE sp 0 1, inE key.size 1 100] = _; simp only [firstN, inE]; (repeat' split) <;> omega)
        have hb : (key.toList == []) = false := by
          rw [Lib.toList_data]
          refine beq_eq_false_iff_ne.2 fun e => h3 ?_
          rw [Hsl.out, e]; rfl
        rcases h1 with rfl | rfl
        · unfold opCells
          go_enter Tryz.func12, Tryz.ntmps12
          go_wp2
          go_ret
          exact refChecked E.out (by simp) (below_alloc _ _)
        · unfold opCells
          go_enter Tryz.func12, Tryz.ntmps12
          go_wp2
          go_ret
          exact refChecked E.out (by simp) (below_alloc _ _)
  · have b0 : (sp == 0) = false := by simp; omega
    have b1 : (sp == 1) = false := by simp; omega
    have b0' : (sp != 0) = true := by simp; omega
    have b1' : (sp != 1) = true := by simp; omega
    have E : Hid (checkT ⟨9, key, to, rc, old, id, fs, low, high, lim, sp, nd⟩ = 1) := Lib.hid (by show firstN [inE sp 0 1, inE key.size 1 100] = _; simp only [firstN, inE]; (repeat' split) <;> omega)
    unfold opCells
    go_enter Tryz.func12, Tryz.ntmps12
    go_wp2
    go_ret
    exact refChecked E.out (by simp) (below_alloc _ _)

set_option maxRecDepth 100000 in
set_option maxHeartbeats 1600000 in
theorem refCheck_k10 (key to : ByteArray) (rc old low high : List TVal) (id lim sp nd : Int) (fs : List Int) (rv ov fv lv hv : Value) (w : World) :
    Calls Tryz.prog 12 #[.agg (opCells ⟨10, key, to, rc, old, id, fs, low, high, lim, sp, nd⟩ rv ov fv lv hv)] w (RefChecked (checkT ⟨10, key, to, rc, old, id, fs, low, high, lim, sp, nd⟩) w) := by
  have Hsl := Lib.hid (Lib.size_eq key)
  by_cases h1 : sp = 0 ∨ sp = 1
  · by_cases h2 : 100 < key.size
    · have E : Hid (checkT ⟨10, key, to, rc, old, id, fs, low, high, lim, sp, nd⟩ = 1) := Lib.hid (by show firstN [inE sp 0 1, inE key.size 1 100] = _; simp only [firstN, inE]; (repeat' split) <;> omega)
      rcases h1 with rfl | rfl
      · unfold opCells
        go_enter Tryz.func12, Tryz.ntmps12
        go_wp2
        go_ret
        exact refChecked E.out (by simp) (below_alloc _ _)
      · unfold opCells
        go_enter Tryz.func12, Tryz.ntmps12
        go_wp2
        go_ret
        exact refChecked E.out (by simp) (below_alloc _ _)
    · by_cases h3 : key.size = 0
      · have E : Hid (checkT ⟨10, key, to, rc, old, id, fs, low, high, lim, sp, nd⟩ = 1) := Lib.hid (by show firstN [inE sp 0 1, inE key.size 1 100] = _; simp only [firstN, inE]; (repeat' split) <;> omega)
        have hb : (key.toList == []) = true := by
          rw [Lib.toList_data, show key.data.toList = [] from List.eq_nil_of_length_eq_zero (by have := Hsl.out; omega)]; rfl
        rcases h1 with rfl | rfl
        · unfold opCells
          go_enter Tryz.func12, Tryz.ntmps12
          go_wp2
          go_ret
          exact refChecked E.out (by simp) (below_alloc _ _)
        · unfold opCells
          go_enter Tryz.func12, Tryz.ntmps12
          go_wp2
          go_ret
          exact refChecked E.out (by simp) (below_alloc _ _)
      · have E : Hid (checkT ⟨10, key, to, rc, old, id, fs, low, high, lim, sp, nd⟩ = 0) := Lib.hid (by show firstN [inE sp 0 1, inE key.size 1 100] = _; simp only [firstN, inE]; (repeat' split) <;> omega)
        have hb : (key.toList == []) = false := by
          rw [Lib.toList_data]
          refine beq_eq_false_iff_ne.2 fun e => h3 ?_
          rw [Hsl.out, e]; rfl
        rcases h1 with rfl | rfl
        · unfold opCells
          go_enter Tryz.func12, Tryz.ntmps12
          go_wp2
          go_ret
          exact refChecked E.out (by simp) (below_alloc _ _)
        · unfold opCells
          go_enter Tryz.func12, Tryz.ntmps12
          go_wp2
          go_ret
          exact refChecked E.out (by simp) (below_alloc _ _)
  · have b0 : (sp == 0) = false := by simp; omega
    have b1 : (sp == 1) = false := by simp; omega
    have b0' : (sp != 0) = true := by simp; omega
    have b1' : (sp != 1) = true := by simp; omega
    have E : Hid (checkT ⟨10, key, to, rc, old, id, fs, low, high, lim, sp, nd⟩ = 1) := Lib.hid (by show firstN [inE sp 0 1, inE key.size 1 100] = _; simp only [firstN, inE]; (repeat' split) <;> omega)
    unfold opCells
    go_enter Tryz.func12, Tryz.ntmps12
    go_wp2
    go_ret
    exact refChecked E.out (by simp) (below_alloc _ _)

set_option maxRecDepth 100000 in
set_option maxHeartbeats 1600000 in
theorem refCheck_k11 (key to : ByteArray) (rc old low high : List TVal) (id lim sp nd : Int) (fs : List Int) (rv ov fv lv hv : Value) (w : World) :
    Calls Tryz.prog 12 #[.agg (opCells ⟨11, key, to, rc, old, id, fs, low, high, lim, sp, nd⟩ rv ov fv lv hv)] w (RefChecked (checkT ⟨11, key, to, rc, old, id, fs, low, high, lim, sp, nd⟩) w) := by
  have Hsl := Lib.hid (Lib.size_eq key)
  by_cases h1 : sp = 0 ∨ sp = 1
  · by_cases h2 : 100 < key.size
    · have E : Hid (checkT ⟨11, key, to, rc, old, id, fs, low, high, lim, sp, nd⟩ = 1) := Lib.hid (by show firstN [inE sp 0 1, inE key.size 0 100, inE nd 1 4] = _; simp only [firstN, inE]; (repeat' split) <;> omega)
      rcases h1 with rfl | rfl
      · unfold opCells
        go_enter Tryz.func12, Tryz.ntmps12
        go_wp2
        go_ret
        exact refChecked E.out (by simp) (below_alloc _ _)
      · unfold opCells
        go_enter Tryz.func12, Tryz.ntmps12
        go_wp2
        go_ret
        exact refChecked E.out (by simp) (below_alloc _ _)
    · by_cases h3 : nd < 1
      · have E : Hid (checkT ⟨11, key, to, rc, old, id, fs, low, high, lim, sp, nd⟩ = 1) := Lib.hid (by show firstN [inE sp 0 1, inE key.size 0 100, inE nd 1 4] = _; simp only [firstN, inE]; (repeat' split) <;> omega)
        rcases h1 with rfl | rfl
        · unfold opCells
          go_enter Tryz.func12, Tryz.ntmps12
          go_wp2
          go_ret
          exact refChecked E.out (by simp) (below_alloc _ _)
        · unfold opCells
          go_enter Tryz.func12, Tryz.ntmps12
          go_wp2
          go_ret
          exact refChecked E.out (by simp) (below_alloc _ _)
      · by_cases h4 : 4 < nd
        · have E : Hid (checkT ⟨11, key, to, rc, old, id, fs, low, high, lim, sp, nd⟩ = 1) := Lib.hid (by show firstN [inE sp 0 1, inE key.size 0 100, inE nd 1 4] = _; simp only [firstN, inE]; (repeat' split) <;> omega)
          rcases h1 with rfl | rfl
          · unfold opCells
            go_enter Tryz.func12, Tryz.ntmps12
            go_wp2
            go_ret
            exact refChecked E.out (by simp) (below_alloc _ _)
          · unfold opCells
            go_enter Tryz.func12, Tryz.ntmps12
            go_wp2
            go_ret
            exact refChecked E.out (by simp) (below_alloc _ _)
        · have E : Hid (checkT ⟨11, key, to, rc, old, id, fs, low, high, lim, sp, nd⟩ = 0) := Lib.hid (by show firstN [inE sp 0 1, inE key.size 0 100, inE nd 1 4] = _; simp only [firstN, inE]; (repeat' split) <;> omega)
          rcases h1 with rfl | rfl
          · unfold opCells
            go_enter Tryz.func12, Tryz.ntmps12
            go_wp2
            go_ret
            exact refChecked E.out (by simp) (below_alloc _ _)
          · unfold opCells
            go_enter Tryz.func12, Tryz.ntmps12
            go_wp2
            go_ret
            exact refChecked E.out (by simp) (below_alloc _ _)
  · have b0 : (sp == 0) = false := by simp; omega
    have b1 : (sp == 1) = false := by simp; omega
    have b0' : (sp != 0) = true := by simp; omega
    have b1' : (sp != 1) = true := by simp; omega
    have E : Hid (checkT ⟨11, key, to, rc, old, id, fs, low, high, lim, sp, nd⟩ = 1) := Lib.hid (by show firstN [inE sp 0 1, inE key.size 0 100, inE nd 1 4] = _; simp only [firstN, inE]; (repeat' split) <;> omega)
    unfold opCells
    go_enter Tryz.func12, Tryz.ntmps12
    go_wp2
    go_ret
    exact refChecked E.out (by simp) (below_alloc _ _)

set_option maxRecDepth 100000 in
set_option maxHeartbeats 1600000 in
theorem refCheck_k0 (key to : ByteArray) (rc old low high : List TVal) (id lim sp nd : Int) (fs : List Int) (rv ov fv lv hv : Value) (K : Int) (w : World) (h1 : ¬ K = 1) (h2 : ¬ K = 2) (h3 : ¬ K = 3) (h4 : ¬ K = 4) (h5 : ¬ K = 5) (h6 : ¬ K = 6) (h7 : ¬ K = 7) (h8 : ¬ K = 8) (h9 : ¬ K = 9) (h10 : ¬ K = 10) (h11 : ¬ K = 11) (h12 : ¬ K = 12) :
    Calls Tryz.prog 12 #[.agg (opCells ⟨K, key, to, rc, old, id, fs, low, high, lim, sp, nd⟩ rv ov fv lv hv)] w (RefChecked (checkT ⟨K, key, to, rc, old, id, fs, low, high, lim, sp, nd⟩) w) := by
  have E : Hid (checkT ⟨K, key, to, rc, old, id, fs, low, high, lim, sp, nd⟩ = 1) := Lib.hid (by simp [checkT, errsT, firstN, h1, h2, h3, h4, h5, h6, h7, h8, h9, h10, h11, h12])
  have e1 : (K == 1) = false := by simpa using h1
  have e2 : (K == 2) = false := by simpa using h2
  have e3 : (K == 3) = false := by simpa using h3
  have e4 : (K == 4) = false := by simpa using h4
  have e5 : (K == 5) = false := by simpa using h5
  have e6 : (K == 6) = false := by simpa using h6
  have e7 : (K == 7) = false := by simpa using h7
  have e8 : (K == 8) = false := by simpa using h8
  have e9 : (K == 9) = false := by simpa using h9
  have e10 : (K == 10) = false := by simpa using h10
  have e11 : (K == 11) = false := by simpa using h11
  have e12 : (K == 12) = false := by simpa using h12
  clear h1 h2 h3 h4 h5 h6 h7 h8 h9 h10 h11 h12
  unfold opCells
  go_enter Tryz.func12, Tryz.ntmps12
  go_wp2
  go_ret
  exact refChecked E.out (by simp) (below_alloc _ _)

set_option maxRecDepth 100000 in
theorem refCheck_any (v : Value) (o : TOp) (B : Nat) (w : World) (hB : B ≤ w.heap.size) (ho : OpIs w B v o) : Calls Tryz.prog 12 #[v] w (RefChecked (checkT o) w) := by
  obtain ⟨rv, ov, fv, lv, hv, rfl, h1, h2, h3, h4, h5⟩ := ho
  obtain ⟨k, key, to, rc, old, id, fs, low, high, lim, sp, nd⟩ := o
  by_cases k1 : k = 1
  · subst k1; exact refCheck_k1 key to rc old low high id lim sp nd fs rv ov fv lv hv B w hB h1
  by_cases k2 : k = 2
  · subst k2; exact refCheck_k2 key to rc old low high id lim sp nd fs rv ov fv lv hv w
  by_cases k3 : k = 3
  · subst k3; exact refCheck_k3 key to rc old low high id lim sp nd fs rv ov fv lv hv w
  by_cases k4 : k = 4
  · subst k4; exact refCheck_k4 key to rc old low high id lim sp nd fs rv ov fv lv hv B w hB h1 h2
  by_cases k5 : k = 5
  · subst k5; exact refCheck_k5 key to rc old low high id lim sp nd fs rv ov fv lv hv w
  by_cases k6 : k = 6
  · subst k6; exact refCheck_k6 key to rc old low high id lim sp nd fs rv ov fv lv hv B w hB h4 h5
  by_cases k7 : k = 7
  · subst k7; exact refCheck_k7 key to rc old low high id lim sp nd fs rv ov fv lv hv B w hB h3
  by_cases k8 : k = 8
  · subst k8; exact refCheck_k8 key to rc old low high id lim sp nd fs rv ov fv lv hv w
  by_cases k9 : k = 9
  · subst k9; exact refCheck_k9 key to rc old low high id lim sp nd fs rv ov fv lv hv w
  by_cases k10 : k = 10
  · subst k10; exact refCheck_k10 key to rc old low high id lim sp nd fs rv ov fv lv hv w
  by_cases k11 : k = 11
  · subst k11; exact refCheck_k11 key to rc old low high id lim sp nd fs rv ov fv lv hv w
  by_cases k12 : k = 12
  · subst k12; exact refCheck_k12 key to rc old low high id lim sp nd fs rv ov fv lv hv w
  exact refCheck_k0 key to rc old low high id lim sp nd fs rv ov fv lv hv k w k1 k2 k3 k4 k5 k6 k7 k8 k9 k10 k11 k12
end Go.Proofs.YtfaenejcgmnmdaaGreat

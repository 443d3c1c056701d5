/- The document's check of an operation, its lightness, and that of all of a row, give what the plain text (checkT) gives. Condition: the operation is in memory. -/
import Derived.Test.YtfaenejcgmnmdaaGreatPlnC
import Derived.Test.YtfaenejcgmnmdaaGreatRecD
namespace Go.Proofs.YtfaenejcgmnmdaaGreat
open Go.RowKit
open Go.Lib (strCells compareBytes)

theorem keepbox {w wx : World} {cs : Array Value} {t : TypeId} (h : Below (w.alloc (.cells cs t)).heap.size (w.alloc (.cells cs t)) wx) (i : Nat) : wx.cell? ⟨w.heap.size, i, none⟩ = cs[i]? :=
  ((Box.made w t cs).below h (by simp)).cell i

set_option maxRecDepth 100000 in
theorem refRecKey_any (s : ByteArray) (w : World) : Calls Tryz.prog 33 #[.string s] w fun e w' => e = .returned (.bool (keyOk s.data.toList)) ∧ w = w' := by
  have Hsl := Lib.hid (Lib.size_eq s)
  by_cases h0 : 1 ≤ s.size
  · have E : Hid (keyOk s.data.toList = decide (s.size ≤ 16)) := Lib.hid (by unfold keyOk; rw [decide_eq_true (by have := Hsl.out; omega), Lib.size_eq]; rfl)
    go_enter Tryz.func33, Tryz.ntmps33
    go_wp2
    go_ret
    refine ⟨ret_bool ?_, rfl⟩
    rw [E.out]
    by_cases h : s.size ≤ 16
    · have h' : (s.size : Int) ≤ 16 := by omega
      simp [h, h']
    · have h' : ¬ (s.size : Int) ≤ 16 := by omega
      simp [h, h']
  · have E : Hid (keyOk s.data.toList = false) := Lib.hid (by unfold keyOk; rw [decide_eq_false (by have := Hsl.out; omega)]; rfl)
    have h1 : s.size = 0 := by omega
    clear h0
    go_enter Tryz.func33, Tryz.ntmps33
    go_wp2
    go_ret
    exact ⟨ret_bool (by rw [E.out]), rfl⟩
set_option maxRecDepth 100000 in
theorem limit_any (n : Int) (w : World) : Calls Tryz.prog 35 #[.int .i64 n] w fun e w' => e = .returned (.bool (decide (inE n 1 64 = 0))) ∧ w = w' := by
  by_cases h1 : 1 ≤ n
  · by_cases h2 : n ≤ 64
    · have E : Hid (inE n 1 64 = 0) := Lib.hid (by unfold inE; rw [if_neg (by omega)])
      go_enter Tryz.func35, Tryz.ntmps35
      go_wp2
      go_ret
      exact ⟨ret_bool (by rw [E.out]; rfl), rfl⟩
    · have E : Hid (inE n 1 64 = 1) := Lib.hid (by unfold inE; rw [if_pos (by omega)])
      go_enter Tryz.func35, Tryz.ntmps35
      go_wp2
      go_ret
      exact ⟨ret_bool (by rw [E.out]; rfl), rfl⟩
  · have E : Hid (inE n 1 64 = 1) := Lib.hid (by unfold inE; rw [if_pos (by omega)])
    go_enter Tryz.func35, Tryz.ntmps35
    go_wp2
    go_ret
    exact ⟨ret_bool (by rw [E.out]; rfl), rfl⟩

theorem firstN_one (x : Nat) : firstN [x] = x := by
  unfold firstN
  split
  · rename_i h; rw [h]; rfl
  · rfl
theorem firstN_last (x : Nat) : firstN [0, 0, x] = x := firstN_one x
def RefChecked (x : Nat) (w : World) (e : Ending) (w' : World) : Prop := e = .returned (.int .i64 (x : Int)) ∧ Below w.heap.size w w'
theorem refChecked {x y : Nat} {z : Int} {w w' : World} (hx : x = y) (hz : z = (y : Int)) (hb : Below w.heap.size w w') : RefChecked x w (.returned (.int .i64 z)) w' := ⟨by rw [hz, hx], hb⟩

set_option maxRecDepth 100000 in
set_option maxHeartbeats 1600000 in
theorem refCheck_k2 (key to : ByteArray) (rc old low high : List TVal) (id lim sp nd : Int) (fs : List Int) (rv ov fv lv hv : Value) (w : World) :
    Calls Tryz.prog 12 #[.agg (opCells ⟨2, key, to, rc, old, id, fs, low, high, lim, sp, nd⟩ rv ov fv lv hv)] w (RefChecked (checkT ⟨2, key, to, rc, old, id, fs, low, high, lim, sp, nd⟩) w) := by
  cases hk : keyOk key.data.toList with
  | true =>
    have E : Hid (checkT ⟨2, key, to, rc, old, id, fs, low, high, lim, sp, nd⟩ = 0) := Lib.hid (by simp [checkT, errsT, firstN, keyE, hk])
    unfold opCells
    go_enter Tryz.func12, Tryz.ntmps12
    go_wp2_with fail
    refine (refRecKey_any _ _).mono ?_
    rintro e w1 ⟨rfl, rfl⟩
    rw [hk]
    go_wp2
    go_ret
    exact refChecked E.out (by simp) (below_alloc _ _)
  | false =>
    have E : Hid (checkT ⟨2, key, to, rc, old, id, fs, low, high, lim, sp, nd⟩ = 1) := Lib.hid (by simp [checkT, errsT, firstN, keyE, hk])
    unfold opCells
    go_enter Tryz.func12, Tryz.ntmps12
    go_wp2_with fail
    refine (refRecKey_any _ _).mono ?_
    rintro e w1 ⟨rfl, rfl⟩
    rw [hk]
    go_wp2
    go_ret
    exact refChecked E.out (by simp) (below_alloc _ _)

set_option maxRecDepth 100000 in
set_option maxHeartbeats 1600000 in
theorem refCheck_k3 (key to : ByteArray) (rc old low high : List TVal) (id lim sp nd : Int) (fs : List Int) (rv ov fv lv hv : Value) (w : World) :
    Calls Tryz.prog 12 #[.agg (opCells ⟨3, key, to, rc, old, id, fs, low, high, lim, sp, nd⟩ rv ov fv lv hv)] w (RefChecked (checkT ⟨3, key, to, rc, old, id, fs, low, high, lim, sp, nd⟩) w) := by
  cases hk : keyOk key.data.toList with
  | true =>
    have E : Hid (checkT ⟨3, key, to, rc, old, id, fs, low, high, lim, sp, nd⟩ = 0) := Lib.hid (by simp [checkT, errsT, firstN, keyE, hk])
    unfold opCells
    go_enter Tryz.func12, Tryz.ntmps12
    go_wp2_with fail
    refine (refRecKey_any _ _).mono ?_
    rintro e w1 ⟨rfl, rfl⟩
    rw [hk]
    go_wp2
    go_ret
    exact refChecked E.out (by simp) (below_alloc _ _)
  | false =>
    have E : Hid (checkT ⟨3, key, to, rc, old, id, fs, low, high, lim, sp, nd⟩ = 1) := Lib.hid (by simp [checkT, errsT, firstN, keyE, hk])
    unfold opCells
    go_enter Tryz.func12, Tryz.ntmps12
    go_wp2_with fail
    refine (refRecKey_any _ _).mono ?_
    rintro e w1 ⟨rfl, rfl⟩
    rw [hk]
    go_wp2
    go_ret
    exact refChecked E.out (by simp) (below_alloc _ _)

set_option maxRecDepth 100000 in
set_option maxHeartbeats 1600000 in
theorem refCheck_k1 (key to : ByteArray) (rc old low high : List TVal) (id lim sp nd : Int) (fs : List Int) (rv ov fv lv hv : Value) (B : Nat) (w : World) (hB : B ≤ w.heap.size) (h1 : IsVals w B rv rc) :
    Calls Tryz.prog 12 #[.agg (opCells ⟨1, key, to, rc, old, id, fs, low, high, lim, sp, nd⟩ rv ov fv lv hv)] w (RefChecked (checkT ⟨1, key, to, rc, old, id, fs, low, high, lim, sp, nd⟩) w) := by
  obtain ⟨A1, n1, c1, rfl, h10, h11, h12, -⟩ := h1
  have H1 : Hid (Calls Tryz.prog 34 #[.slice A1 n1 c1] (w.alloc (.cells #[.int .i64 1, .string key, .string to, (.slice A1 n1 c1), ov, .int .i64 id, fv, lv, hv, .int .i64 lim, .int .i64 sp, .int .i64 nd] 26)) _) := Lib.hid (refRecCheck_any A1 n1 c1 B rc _ (h12.belowOf (below_alloc _ _) hB) (by omega) (Nat.le_trans hB (below_alloc _ _).size))
  clear h12
  cases hk : keyOk key.data.toList with
  | false =>
    have E : Hid (checkT ⟨1, key, to, rc, old, id, fs, low, high, lim, sp, nd⟩ = 1) := Lib.hid (by simp [checkT, errsT, firstN, keyE, hk])
    unfold opCells
    go_enter Tryz.func12, Tryz.ntmps12
    go_wp2_with fail
    refine (refRecKey_any _ _).mono ?_
    rintro e w1 ⟨rfl, rfl⟩
    rw [hk]
    go_wp2
    go_ret
    exact refChecked E.out (by simp) (below_alloc _ _)
  | true =>
    by_cases hr : recErr rc = 0
    · have E : Hid (checkT ⟨1, key, to, rc, old, id, fs, low, high, lim, sp, nd⟩ = 0) := Lib.hid (by simp [checkT, errsT, firstN, keyE, hk, hr])
      unfold opCells
      go_enter Tryz.func12, Tryz.ntmps12
      go_wp2_with fail
      refine (refRecKey_any _ _).mono ?_
      rintro e w1 ⟨rfl, rfl⟩
      rw [hk]
      go_wp2_with fail
      refine H1.out.mono ?_
      rintro e w2 ⟨rfl, hb2⟩
      have q0 := keepbox hb2 0
      have q4 := keepbox hb2 4
      have Hb2 := Lib.hid (Below.then (below_alloc _ _) hb2)
      clear hb2
      rw [hr]
      go_wp2
      go_ret
      exact refChecked E.out (by simp) (Hb2.out)
    · have E : Hid (checkT ⟨1, key, to, rc, old, id, fs, low, high, lim, sp, nd⟩ = recErr rc) := Lib.hid (by simp [checkT, errsT, firstN, keyE, hk, hr])
      have hrb : ((recErr rc : Int) != 0) = true := by simpa using hr
      unfold opCells
      go_enter Tryz.func12, Tryz.ntmps12
      go_wp2_with fail
      refine (refRecKey_any _ _).mono ?_
      rintro e w1 ⟨rfl, rfl⟩
      rw [hk]
      go_wp2_with fail
      refine H1.out.mono ?_
      rintro e w2 ⟨rfl, hb2⟩
      have q0 := keepbox hb2 0
      have q4 := keepbox hb2 4
      have Hb2 := Lib.hid (Below.then (below_alloc _ _) hb2)
      clear hb2
      go_wp2
      go_ret
      exact refChecked E.out (by simp) (Hb2.out)

set_option maxRecDepth 100000 in
set_option maxHeartbeats 1600000 in
theorem refCheck_k4 (key to : ByteArray) (rc old low high : List TVal) (id lim sp nd : Int) (fs : List Int) (rv ov fv lv hv : Value) (B : Nat) (w : World) (hB : B ≤ w.heap.size) (h1 : IsVals w B rv rc) (h2 : IsVals w B ov old) :
    Calls Tryz.prog 12 #[.agg (opCells ⟨4, key, to, rc, old, id, fs, low, high, lim, sp, nd⟩ rv ov fv lv hv)] w (RefChecked (checkT ⟨4, key, to, rc, old, id, fs, low, high, lim, sp, nd⟩) w) := by
  obtain ⟨A1, n1, c1, rfl, h10, h11, h12, -⟩ := h1
  obtain ⟨A2, n2, c2, rfl, h20, h21, h22, -⟩ := h2
  have Hl := Lib.hid h22.1
  have H22 := Lib.hid h22
  have H1 : Hid (Calls Tryz.prog 34 #[.slice A1 n1 c1] (w.alloc (.cells #[.int .i64 4, .string key, .string to, (.slice A1 n1 c1), (.slice A2 n2 c2), .int .i64 id, fv, lv, hv, .int .i64 lim, .int .i64 sp, .int .i64 nd] 26)) _) := Lib.hid (refRecCheck_any A1 n1 c1 B rc _ (h12.belowOf (below_alloc _ _) hB) (by omega) (Nat.le_trans hB (below_alloc _ _).size))
  clear h22
  clear h12
  cases hk : keyOk key.data.toList with
  | false =>
    have E : Hid (checkT ⟨4, key, to, rc, old, id, fs, low, high, lim, sp, nd⟩ = 1) := Lib.hid (by simp [checkT, errsT, firstN, keyE, hk])
    unfold opCells
    go_enter Tryz.func12, Tryz.ntmps12
    go_wp2_with fail
    refine (refRecKey_any _ _).mono ?_
    rintro e w1 ⟨rfl, rfl⟩
    rw [hk]
    go_wp2
    go_ret
    exact refChecked E.out (by simp) (below_alloc _ _)
  | true =>
    by_cases hr : recErr rc = 0
    · by_cases h0 : n2 = 0
      · have ho : oldE old = 0 := by unfold oldE; rw [if_pos (by have := Hl.out; omega)]
        have E : Hid (checkT ⟨4, key, to, rc, old, id, fs, low, high, lim, sp, nd⟩ = 0) := Lib.hid (by simp [checkT, errsT, firstN, keyE, hk, hr, ho])
        subst h0
        clear ho
        unfold opCells
        go_enter Tryz.func12, Tryz.ntmps12
        go_wp2_with fail
        refine (refRecKey_any _ _).mono ?_
        rintro e w1 ⟨rfl, rfl⟩
        rw [hk]
        go_wp2_with fail
        refine H1.out.mono ?_
        rintro e w2 ⟨rfl, hb2⟩
        have q0 := keepbox hb2 0
        have q4 := keepbox hb2 4
        have Hb2 := Lib.hid (Below.then (below_alloc _ _) hb2)
        clear hb2
        rw [hr]
        go_wp2
        go_ret
        exact refChecked E.out (by simp) (Hb2.out)
      · have ho : oldE old = recErr old := by unfold oldE; rw [if_neg (by have := Hl.out; omega)]
        have E : Hid (checkT ⟨4, key, to, rc, old, id, fs, low, high, lim, sp, nd⟩ = recErr old) := Lib.hid (by show firstN [keyE key, recErr rc, oldE old] = _; rw [hr, ho, show keyE key = 0 from by simp [keyE, hk]]; exact firstN_last _)
        have hp : (0 : Int) < (n2 : Int) := by omega
        clear ho h0
        unfold opCells
        go_enter Tryz.func12, Tryz.ntmps12
        go_wp2_with fail
        refine (refRecKey_any _ _).mono ?_
        rintro e w1 ⟨rfl, rfl⟩
        rw [hk]
        go_wp2_with fail
        refine H1.out.mono ?_
        rintro e w2 ⟨rfl, hb2⟩
        have q0 := keepbox hb2 0
        have q4 := keepbox hb2 4
        have Hb2 := Lib.hid (Below.then (below_alloc _ _) hb2)
        clear hb2
        rw [hr]
        go_wp2_with fail
        refine (refRecCheck_any A2 n2 c2 B old _ (H22.out.belowOf Hb2.out hB) (by omega) (Nat.le_trans hB Hb2.out.size)).mono ?_
        rintro e w3 ⟨rfl, hb3⟩
        have Hb3 := Lib.hid (Below.then Hb2.out hb3)
        clear hb3
        go_wp2
        go_ret
        exact refChecked E.out (by simp) (Hb3.out)
    · have E : Hid (checkT ⟨4, key, to, rc, old, id, fs, low, high, lim, sp, nd⟩ = recErr rc) := Lib.hid (by simp [checkT, errsT, firstN, keyE, hk, hr])
      have hrb : ((recErr rc : Int) != 0) = true := by simpa using hr
      unfold opCells
      go_enter Tryz.func12, Tryz.ntmps12
      go_wp2_with fail
      refine (refRecKey_any _ _).mono ?_
      rintro e w1 ⟨rfl, rfl⟩
      rw [hk]
      go_wp2_with fail
      refine H1.out.mono ?_
      rintro e w2 ⟨rfl, hb2⟩
      have q0 := keepbox hb2 0
      have q4 := keepbox hb2 4
      have Hb2 := Lib.hid (Below.then (below_alloc _ _) hb2)
      clear hb2
      go_wp2
      go_ret
      exact refChecked E.out (by simp) (Hb2.out)

set_option maxRecDepth 100000 in
set_option maxHeartbeats 1600000 in
theorem refCheck_k5 (key to : ByteArray) (rc old low high : List TVal) (id lim sp nd : Int) (fs : List Int) (rv ov fv lv hv : Value) (w : World) :
    Calls Tryz.prog 12 #[.agg (opCells ⟨5, key, to, rc, old, id, fs, low, high, lim, sp, nd⟩ rv ov fv lv hv)] w (RefChecked (checkT ⟨5, key, to, rc, old, id, fs, low, high, lim, sp, nd⟩) w) := by
  by_cases h1 : 16 < key.size
  · have E : Hid (checkT ⟨5, key, to, rc, old, id, fs, low, high, lim, sp, nd⟩ = 1) := Lib.hid (by show firstN [inE key.size 0 16, inE to.size 0 16, inE lim 1 64] = _; simp only [firstN, inE]; (repeat' split) <;> omega)
    unfold opCells
    go_enter Tryz.func12, Tryz.ntmps12
    go_wp2
    go_ret
    exact refChecked E.out (by simp) (below_alloc _ _)
  · by_cases h2 : 16 < to.size
    · have E : Hid (checkT ⟨5, key, to, rc, old, id, fs, low, high, lim, sp, nd⟩ = 1) := Lib.hid (by show firstN [inE key.size 0 16, inE to.size 0 16, inE lim 1 64] = _; simp only [firstN, inE]; (repeat' split) <;> omega)
      unfold opCells
      go_enter Tryz.func12, Tryz.ntmps12
      go_wp2
      go_ret
      exact refChecked E.out (by simp) (below_alloc _ _)
    · cases hl : decide (inE lim 1 64 = 0) with
      | true =>
        have hl' : ¬ (lim < 1 ∨ 64 < lim) := by
          intro h
          simp [inE, h] at hl
        have E : Hid (checkT ⟨5, key, to, rc, old, id, fs, low, high, lim, sp, nd⟩ = 0) := Lib.hid (by show firstN [inE key.size 0 16, inE to.size 0 16, inE lim 1 64] = _; simp only [firstN, inE]; (repeat' split) <;> omega)
        clear hl'
        unfold opCells
        go_enter Tryz.func12, Tryz.ntmps12
        go_wp2_with fail
        refine (limit_any _ _).mono ?_
        rintro e w1 ⟨rfl, rfl⟩
        rw [hl]
        go_wp2
        go_ret
        exact refChecked E.out (by simp) (below_alloc _ _)
      | false =>
        have hl' : lim < 1 ∨ 64 < lim := by
          refine Classical.byContradiction fun h => ?_
          simp [inE, h] at hl
        have E : Hid (checkT ⟨5, key, to, rc, old, id, fs, low, high, lim, sp, nd⟩ = 1) := Lib.hid (by show firstN [inE key.size 0 16, inE to.size 0 16, inE lim 1 64] = _; simp only [firstN, inE]; (repeat' split) <;> omega)
        clear hl'
        unfold opCells
        go_enter Tryz.func12, Tryz.ntmps12
        go_wp2_with fail
        refine (limit_any _ _).mono ?_
        rintro e w1 ⟨rfl, rfl⟩
        rw [hl]
        go_wp2
        go_ret
        exact refChecked E.out (by simp) (below_alloc _ _)

set_option maxRecDepth 100000 in
set_option maxHeartbeats 1600000 in
theorem refCheck_k8 (key to : ByteArray) (rc old low high : List TVal) (id lim sp nd : Int) (fs : List Int) (rv ov fv lv hv : Value) (w : World) :
    Calls Tryz.prog 12 #[.agg (opCells ⟨8, key, to, rc, old, id, fs, low, high, lim, sp, nd⟩ rv ov fv lv hv)] w (RefChecked (checkT ⟨8, key, to, rc, old, id, fs, low, high, lim, sp, nd⟩) w) := by
  by_cases h1 : id < 1
  · have E : Hid (checkT ⟨8, key, to, rc, old, id, fs, low, high, lim, sp, nd⟩ = 1) := Lib.hid (by show firstN [inE id 1 6] = _; simp only [firstN, inE]; (repeat' split) <;> omega)
    unfold opCells
    go_enter Tryz.func12, Tryz.ntmps12
    go_wp2
    go_ret
    exact refChecked E.out (by simp) (below_alloc _ _)
  · by_cases h2 : 6 < id
    · have E : Hid (checkT ⟨8, key, to, rc, old, id, fs, low, high, lim, sp, nd⟩ = 1) := Lib.hid (by show firstN [inE id 1 6] = _; simp only [firstN, inE]; (repeat' split) <;> omega)
      unfold opCells
      go_enter Tryz.func12, Tryz.ntmps12
      go_wp2
      go_ret
      exact refChecked E.out (by simp) (below_alloc _ _)
    · have E : Hid (checkT ⟨8, key, to, rc, old, id, fs, low, high, lim, sp, nd⟩ = 0) := Lib.hid (by show firstN [inE id 1 6] = _; simp only [firstN, inE]; (repeat' split) <;> omega)
      unfold opCells
      go_enter Tryz.func12, Tryz.ntmps12
      go_wp2
      go_ret
      exact refChecked E.out (by simp) (below_alloc _ _)

set_option maxRecDepth 100000 in
set_option maxHeartbeats 1600000 in
theorem refCheck_k12 (key to : ByteArray) (rc old low high : List TVal) (id lim sp nd : Int) (fs : List Int) (rv ov fv lv hv : Value) (w : World) :
    Calls Tryz.prog 12 #[.agg (opCells ⟨12, key, to, rc, old, id, fs, low, high, lim, sp, nd⟩ rv ov fv lv hv)] w (RefChecked (checkT ⟨12, key, to, rc, old, id, fs, low, high, lim, sp, nd⟩) w) := by
  have E : Hid (checkT ⟨12, key, to, rc, old, id, fs, low, high, lim, sp, nd⟩ = 0) := Lib.hid (rfl)
  unfold opCells
  go_enter Tryz.func12, Tryz.ntmps12
  go_wp2
  go_ret
  exact refChecked E.out (by simp) (below_alloc _ _)

set_option maxRecDepth 100000 in
set_option maxHeartbeats 1600000 in
theorem refCheck_k7 (key to : ByteArray) (rc old low high : List TVal) (id lim sp nd : Int) (fs : List Int) (rv ov fv lv hv : Value) (B : Nat) (w : World) (hB : B ≤ w.heap.size) (h1 : IsInts w B fv fs) :
    Calls Tryz.prog 12 #[.agg (opCells ⟨7, key, to, rc, old, id, fs, low, high, lim, sp, nd⟩ rv ov fv lv hv)] w (RefChecked (checkT ⟨7, key, to, rc, old, id, fs, low, high, lim, sp, nd⟩) w) := by
  obtain ⟨A1, n1, c1, rfl, h10, h11, h12, -⟩ := h1
  have H12 := Lib.hid h12
  clear h12
  have E : Hid (checkT ⟨7, key, to, rc, old, id, fs, low, high, lim, sp, nd⟩ = idxErr 1 fs) := Lib.hid (firstN_one _)
  unfold opCells
  go_enter Tryz.func12, Tryz.ntmps12
  go_wp2_with fail
  refine (refCheckIndex_any 1 A1 n1 c1 B fs _ (H12.out.belowOf (below_alloc _ _) hB) (by omega) (Nat.le_trans hB (below_alloc _ _).size)).mono ?_
  rintro e w1 ⟨rfl, hb1⟩
  have Hb1 := Lib.hid (Below.then (below_alloc _ _) hb1)
  clear hb1
  go_wp2
  go_ret
  exact refChecked E.out (by simp) (Hb1.out)

set_option maxRecDepth 100000 in
set_option maxHeartbeats 1600000 in
theorem refCheck_k6 (key to : ByteArray) (rc old low high : List TVal) (id lim sp nd : Int) (fs : List Int) (rv ov fv lv hv : Value) (B : Nat) (w : World) (hB : B ≤ w.heap.size) (h1 : IsVals w B lv low) (h2 : IsVals w B hv high) :
    Calls Tryz.prog 12 #[.agg (opCells ⟨6, key, to, rc, old, id, fs, low, high, lim, sp, nd⟩ rv ov fv lv hv)] w (RefChecked (checkT ⟨6, key, to, rc, old, id, fs, low, high, lim, sp, nd⟩) w) := by
  obtain ⟨A1, n1, c1, rfl, h10, h11, h12, -⟩ := h1
  obtain ⟨A2, n2, c2, rfl, h20, h21, h22, -⟩ := h2
  have H12 := Lib.hid h12
  have H22 := Lib.hid h22
  clear h12 h22
  by_cases h1 : id < 1
  · have E : Hid (checkT ⟨6, key, to, rc, old, id, fs, low, high, lim, sp, nd⟩ = 1) := Lib.hid (by show firstN [inE id 1 6, rowErr low, rowErr high, inE lim 1 64] = _; simp only [firstN, inE]; (repeat' split) <;> omega)
    unfold opCells
    go_enter Tryz.func12, Tryz.ntmps12
    go_wp2
    go_ret
    exact refChecked E.out (by simp) (below_alloc _ _)
  · by_cases h2 : 6 < id
    · have E : Hid (checkT ⟨6, key, to, rc, old, id, fs, low, high, lim, sp, nd⟩ = 1) := Lib.hid (by show firstN [inE id 1 6, rowErr low, rowErr high, inE lim 1 64] = _; simp only [firstN, inE]; (repeat' split) <;> omega)
      unfold opCells
      go_enter Tryz.func12, Tryz.ntmps12
      go_wp2
      go_ret
      exact refChecked E.out (by simp) (below_alloc _ _)
    · have hi : inE id 1 6 = 0 := by unfold inE; rw [if_neg (by omega)]
      by_cases h3 : rowErr low = 0
      · by_cases h4 : rowErr high = 0
        · cases hl : decide (inE lim 1 64 = 0) with
          | true =>
            have hl' : inE lim 1 64 = 0 := by simpa using hl
            have E : Hid (checkT ⟨6, key, to, rc, old, id, fs, low, high, lim, sp, nd⟩ = 0) := Lib.hid (by simp [checkT, errsT, firstN, hi, h3, h4, hl'])
            clear hl' hi
            unfold opCells
            go_enter Tryz.func12, Tryz.ntmps12
            go_wp2_with fail
            refine (refRow_any A1 n1 c1 B low _ (H12.out.belowOf (below_alloc _ _) hB) (by omega) (Nat.le_trans hB (below_alloc _ _).size)).mono ?_
            rintro e w1 ⟨rfl, hb1⟩
            have q8 := keepbox hb1 8
            have Hb0 := Lib.hid hb1
            have Hb1 := Lib.hid (Below.then (below_alloc _ _) hb1)
            clear hb1
            rw [h3]
            go_wp2_with fail
            refine (refRow_any A2 n2 c2 B high _ (H22.out.belowOf Hb1.out hB) (by omega) (Nat.le_trans hB Hb1.out.size)).mono ?_
            rintro e w2 ⟨rfl, hb2⟩
            have q9 := keepbox (Below.then Hb0.out hb2) 9
            have Hb2 := Lib.hid (Below.then Hb1.out hb2)
            clear hb2
            rw [h4]
            go_wp2_with fail
            refine (limit_any _ _).mono ?_
            rintro e w3 ⟨rfl, rfl⟩
            rw [hl]
            go_wp2
            go_ret
            exact refChecked E.out (by simp) (Hb2.out)
          | false =>
            have hl' : inE lim 1 64 = 1 := by
              have h := of_decide_eq_false hl
              unfold inE at h ⊢
              by_cases hc : lim < 1 ∨ 64 < lim
              · rw [if_pos hc]
              · rw [if_neg hc] at h; exact absurd rfl h
            have E : Hid (checkT ⟨6, key, to, rc, old, id, fs, low, high, lim, sp, nd⟩ = 1) := Lib.hid (by simp [checkT, errsT, firstN, hi, h3, h4, hl'])
            clear hl' hi
            unfold opCells
            go_enter Tryz.func12, Tryz.ntmps12
            go_wp2_with fail
            refine (refRow_any A1 n1 c1 B low _ (H12.out.belowOf (below_alloc _ _) hB) (by omega) (Nat.le_trans hB (below_alloc _ _).size)).mono ?_
            rintro e w1 ⟨rfl, hb1⟩
            have q8 := keepbox hb1 8
            have Hb0 := Lib.hid hb1
            have Hb1 := Lib.hid (Below.then (below_alloc _ _) hb1)
            clear hb1
            rw [h3]
            go_wp2_with fail
            refine (refRow_any A2 n2 c2 B high _ (H22.out.belowOf Hb1.out hB) (by omega) (Nat.le_trans hB Hb1.out.size)).mono ?_
            rintro e w2 ⟨rfl, hb2⟩
            have q9 := keepbox (Below.then Hb0.out hb2) 9
            have Hb2 := Lib.hid (Below.then Hb1.out hb2)
            clear hb2
            rw [h4]
            go_wp2_with fail
            refine (limit_any _ _).mono ?_
            rintro e w3 ⟨rfl, rfl⟩
            rw [hl]
            go_wp2
            go_ret
            exact refChecked E.out (by simp) (Hb2.out)
        · have E : Hid (checkT ⟨6, key, to, rc, old, id, fs, low, high, lim, sp, nd⟩ = rowErr high) := Lib.hid (by simp [checkT, errsT, firstN, hi, h3, h4])
          have hrb : ((rowErr high : Int) != 0) = true := by simpa using h4
          clear hi
          unfold opCells
          go_enter Tryz.func12, Tryz.ntmps12
          go_wp2_with fail
          refine (refRow_any A1 n1 c1 B low _ (H12.out.belowOf (below_alloc _ _) hB) (by omega) (Nat.le_trans hB (below_alloc _ _).size)).mono ?_
          rintro e w1 ⟨rfl, hb1⟩
          have q8 := keepbox hb1 8
          have Hb0 := Lib.hid hb1
          have Hb1 := Lib.hid (Below.then (below_alloc _ _) hb1)
          clear hb1
          rw [h3]
          go_wp2_with fail
          refine (refRow_any A2 n2 c2 B high _ (H22.out.belowOf Hb1.out hB) (by omega) (Nat.le_trans hB Hb1.out.size)).mono ?_
          rintro e w2 ⟨rfl, hb2⟩
          have q9 := keepbox (Below.then Hb0.out hb2) 9
          have Hb2 := Lib.hid (Below.then Hb1.out hb2)
          clear hb2
          go_wp2
          go_ret
          exact refChecked E.out (by simp) (Hb2.out)
      · have E : Hid (checkT ⟨6, key, to, rc, old, id, fs, low, high, lim, sp, nd⟩ = rowErr low) := Lib.hid (by simp [checkT, errsT, firstN, hi, h3])
        have hrb : ((rowErr low : Int) != 0) = true := by simpa using h3
        clear hi
        unfold opCells
        go_enter Tryz.func12, Tryz.ntmps12
        go_wp2_with fail
        refine (refRow_any A1 n1 c1 B low _ (H12.out.belowOf (below_alloc _ _) hB) (by omega) (Nat.le_trans hB (below_alloc _ _).size)).mono ?_
        rintro e w1 ⟨rfl, hb1⟩
        have q8 := keepbox hb1 8
        have Hb0 := Lib.hid hb1
        have Hb1 := Lib.hid (Below.then (below_alloc _ _) hb1)
        clear hb1
        go_wp2
        go_ret
        exact refChecked E.out (by simp) (Hb1.out)

end Go.Proofs.YtfaenejcgmnmdaaGreat

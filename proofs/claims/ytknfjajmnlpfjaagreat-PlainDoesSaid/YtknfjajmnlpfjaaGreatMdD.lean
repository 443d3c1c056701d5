/- The document's check of an operation gives what the plain text (checkT) gives: the kinds 9 to 11, and all of them. Condition: the operation is in memory. -/
import Derived.Test.YtknfjajmnlpfjaaGreatPlnB
import Derived.Test.YtknfjajmnlpfjaaGreatRecD
namespace Go.Proofs.YtknfjajmnlpfjaaGreat
open Go.RowKit
open Go.Lib (strCells compareBytes)

def firstN : List Nat → Nat
  | [] => 0
  | e :: l => if e = 0 then firstN l else e
def checkT (o : TOp) : Nat := firstN (errsT o)
theorem firstN_drop {cs : List Nat} {k x : Nat} (h : cs[k]? = some x) : firstN (cs.drop k) = if x = 0 then firstN (cs.drop (k + 1)) else x := by
  obtain ⟨hk, rfl⟩ := List.getElem?_eq_some_iff.1 h
  rw [List.drop_eq_getElem_cons hk]
  rfl

set_option maxRecDepth 100000 in
set_option maxHeartbeats 1600000 in
theorem plainCheck_any (v : Value) (o : TOp) (B : Nat) (w : World) (hB : B ≤ w.heap.size) (ho : OpIs w B v o) :
    Calls Tryz.prog 21 #[v] w fun e w' => e = .returned (.int .i64 (checkT o : Int)) ∧ Below w.heap.size w w' := by
  have Ho := Lib.hid ho
  obtain ⟨rv, ov, fv, lv, hv, rfl, -⟩ := ho
  have HB := Lib.hid hB
  unfold opCells at Ho ⊢
  generalize hcs : errsT o = cs
  have E : Hid (checkT o = firstN (cs.drop 0)) := Lib.hid (by rw [← hcs]; rfl)
  have Hc : Hid (Calls Tryz.prog 44 #[.agg #[.int .i64 o.k, .string o.key, .string o.to, rv, ov, .int .i64 o.id, fv, lv, hv, .int .i64 o.lim, .int .i64 o.sp, .int .i64 o.nd]] (w.alloc (.cells #[.int .i64 o.k, .string o.key, .string o.to, rv, ov, .int .i64 o.id, fv, lv, hv, .int .i64 o.lim, .int .i64 o.sp, .int .i64 o.nd] 39)) (ChecksPost cs _)) :=
    Lib.hid (hcs ▸ checks_any _ o B _ (Nat.le_trans hB (below_alloc _ _).size) (Ho.out.belowOf (below_alloc _ _) hB))
  clear hcs
  go_enter Tryz.func21, Tryz.ntmps21
  go_wp2_with fail
  refine Hc.out.mono ?_
  rintro e w1 ⟨_, rfl, ⟨A, n, c, fs, rfl, hn, h4, hf, ht⟩, hb⟩
  have Hb := Lib.hid (Below.then (below_alloc _ _) hb)
  have Hf := Lib.hid hf
  have Ht := Lib.hid ht
  have Hn := Lib.hid hn
  clear hb hf ht hn Hc
  go_wp2
  go_loopw [9] (fun i wr => ∃ k : Nat, k ≤ n ∧ i = .int .i64 (k : Int) ∧ Below w1.heap.size w1 wr ∧ Hid (checkT o = firstN (cs.drop k))) (fun i _ => n - (intOf i).toNat)
  case atStart => exact ⟨0, by omega, rfl, Below.refl _ _, E⟩
  case round =>
    obtain ⟨k, hk, rfl, hb1, E1⟩ := hrel
    have Hb1 := Lib.hid hb1
    by_cases hlt : k < n
    · obtain ⟨a, rfl, hab, hc0⟩ := Hf.out.cell hlt
      have hfl : k < fs.length := by have := Hf.out.1; omega
      obtain ⟨x, hx, g, lb, hfg, hen, hcall⟩ := Ht.out k (fs.getD k undef) (by simp [hfl])
      rw [hfg] at hc0
      have hc := hb1.cell (p := a.add k) (by rw [addr_block]; exact hab)
      rw [hc0] at hc
      clear hc0
      have Hcall := Lib.hid hcall
      have Hx := Lib.hid (firstN_drop hx)
      clear hcall hfg hx hb1 hfl hab
      by_cases hx0 : x = 0
      · subst hx0
        have E2 : Hid (checkT o = firstN (cs.drop (k + 1))) := Lib.hid (by rw [E1.out, Hx.out]; rfl)
        go_wp2_with fail
        refine (Hcall.out _ Hb1.out).mono ?_
        rintro e w2 ⟨rfl, hb2⟩
        have Hb2 := Lib.hid (Below.then Hb1.out hb2)
        clear hb2
        go_wp2
        go_roundw
        case rel => exact ⟨k + 1, by omega, by go_num, Hb2.out, E2⟩
        case measure => simp [intOf]; omega
      · have E2 : Hid (checkT o = x) := Lib.hid (by rw [E1.out, Hx.out, if_neg hx0])
        have hxb : ((x : Int) != 0) = true := by simp; omega
        clear hx0
        go_wp2_with fail
        refine (Hcall.out _ Hb1.out).mono ?_
        rintro e w2 ⟨rfl, hb2⟩
        have Hb2 := Lib.hid (Below.then Hb1.out hb2)
        clear hb2
        go_wp2
        go_ret
        exact ⟨by rw [E2.out]; rfl, Below.then Hb.out Hb2.out⟩
    · have E2 : Hid (checkT o = 0) := Lib.hid (by rw [E1.out, List.drop_of_length_le (by have := Hn.out; omega)]; rfl)
      go_wp2
      go_ret
      exact ⟨by rw [E2.out]; rfl, Below.then Hb.out Hb1.out⟩
end Go.Proofs.YtknfjajmnlpfjaaGreat

namespace Go.Proofs.YtknfjajmnlpfjaaGreat
open Go.RowKit
open Go.Lib (strCells compareBytes)

theorem keepbox {w wx : World} {cs : Array Value} {t : TypeId} (h : Below (w.alloc (.cells cs t)).heap.size (w.alloc (.cells cs t)) wx) (i : Nat) : wx.cell? ⟨w.heap.size, i, none⟩ = cs[i]? :=
  ((Box.made w t cs).below h (by simp)).cell i

set_option maxRecDepth 100000 in
theorem refRecKey_any (s : ByteArray) (w : World) : Calls Tryz.prog 53 #[.string s] w fun e w' => e = .returned (.bool (keyOk s.data.toList)) ∧ w = w' := by
  have Hsl := Lib.hid (Lib.size_eq s)
  by_cases h0 : 1 ≤ s.size
  · have E : Hid (keyOk s.data.toList = decide (s.size ≤ 16)) := Lib.hid (by unfold keyOk; rw [decide_eq_true (by have := Hsl.out; omega), Lib.size_eq]; rfl)
    go_enter Tryz.func53, Tryz.ntmps53
    go_wp2
    go_ret
    refine ⟨ret_bool ?_, rfl⟩
    rw [E.out]
    by_cases h : s.size ≤ 16
    · have h' : (s.size : Int) ≤ 16 := by omega
      simp [h, h']
    · have h' : ¬ (s.size : Int) ≤ 16 := by omega
      simp [h, h']
  · have E : Hid (keyOk s.data.toList = false) := Lib.hid (by unfold keyOk; rw [decide_eq_false (by have := Hsl.out; omega)]; rfl)
    have h1 : s.size = 0 := by omega
    clear h0
    go_enter Tryz.func53, Tryz.ntmps53
    go_wp2
    go_ret
    exact ⟨ret_bool (by rw [E.out]), rfl⟩
set_option maxRecDepth 100000 in
theorem limit_any (n : Int) (w : World) : Calls Tryz.prog 55 #[.int .i64 n] w fun e w' => e = .returned (.bool (decide (inE n 1 64 = 0))) ∧ w = w' := by
  by_cases h1 : 1 ≤ n
  · by_cases h2 : n ≤ 64
    · have E : Hid (inE n 1 64 = 0) := Lib.hid (by unfold inE; rw [if_neg (by omega)])
      go_enter Tryz.func55, Tryz.ntmps55
      go_wp2
      go_ret
      exact ⟨ret_bool (by rw [E.out]; rfl), rfl⟩
    · have E : Hid (inE n 1 64 = 1) := Lib.hid (by unfold inE; rw [if_pos (by omega)])
      go_enter Tryz.func55, Tryz.ntmps55
      go_wp2
      go_ret
      exact ⟨ret_bool (by rw [E.out]; rfl), rfl⟩
  · have E : Hid (inE n 1 64 = 1) := Lib.hid (by unfold inE; rw [if_pos (by omega)])
    go_enter Tryz.func55, Tryz.ntmps55
    go_wp2
    go_ret
    exact ⟨ret_bool (by rw [E.out]; rfl), rfl⟩

theorem firstN_one (x : Nat) : firstN [x] = x := by
  unfold firstN
  split
  · rename_i h; rw [h]; rfl
  · rfl
theorem firstN_last (x : Nat) : firstN [0, 0, x] = x := firstN_one x
def RefChecked (x : Nat) (w : World) (e : Ending) (w' : World) : Prop := e = .returned (.int .i64 (x : Int)) ∧ Below w.heap.size w w'
theorem refChecked {x y : Nat} {z : Int} {w w' : World} (hx : x = y) (hz : z = (y : Int)) (hb : Below w.heap.size w w') : RefChecked x w (.returned (.int .i64 z)) w' := ⟨by rw [hz, hx], hb⟩

set_option maxRecDepth 100000 in
set_option maxHeartbeats 1600000 in
theorem refCheck_k2 (key to : ByteArray) (rc old low high : List TVal) (id lim sp nd : Int) (fs : List Int) (rv ov fv lv hv : Value) (w : World) :
    Calls Tryz.prog 30 #[.agg (opCells ⟨2, key, to, rc, old, id, fs, low, high, lim, sp, nd⟩ rv ov fv lv hv)] w (RefChecked (checkT ⟨2, key, to, rc, old, id, fs, low, high, lim, sp, nd⟩) w) := by
  cases hk : keyOk key.data.toList with
  | true =>
    have E : Hid (checkT ⟨2, key, to, rc, old, id, fs, low, high, lim, sp, nd⟩ = 0) := Lib.hid (by simp [checkT, errsT, firstN, keyE, hk])
    unfold opCells
    go_enter Tryz.func30, Tryz.ntmps30
    go_wp2_with fail
    refine (refRecKey_any _ _).mono ?_
    rintro e w1 ⟨rfl, rfl⟩
    rw [hk]
    go_wp2
    go_ret
    exact refChecked E.out (by simp) (below_alloc _ _)
  | false =>
    have E : Hid (checkT ⟨2, key, to, rc, old, id, fs, low, high, lim, sp, nd⟩ = 1) := Lib.hid (by simp [checkT, errsT, firstN, keyE, hk])
    unfold opCells
    go_enter Tryz.func30, Tryz.ntmps30
    go_wp2_with fail
    refine (refRecKey_any _ _).mono ?_
    rintro e w1 ⟨rfl, rfl⟩
    rw [hk]
    go_wp2
    go_ret
    exact refChecked E.out (by simp) (below_alloc _ _)

set_option maxRecDepth 100000 in
set_option maxHeartbeats 1600000 in
theorem refCheck_k3 (key to : ByteArray) (rc old low high : List TVal) (id lim sp nd : Int) (fs : List Int) (rv ov fv lv hv : Value) (w : World) :
    Calls Tryz.prog 30 #[.agg (opCells ⟨3, key, to, rc, old, id, fs, low, high, lim, sp, nd⟩ rv ov fv lv hv)] w (RefChecked (checkT ⟨3, key, to, rc, old, id, fs, low, high, lim, sp, nd⟩) w) := by
  cases hk : keyOk key.data.toList with
  | true =>
    have E : Hid (checkT ⟨3, key, to, rc, old, id, fs, low, high, lim, sp, nd⟩ = 0) := Lib.hid (by simp [checkT, errsT, firstN, keyE, hk])
    unfold opCells
    go_enter Tryz.func30, Tryz.ntmps30
    go_wp2_with fail
    refine (refRecKey_any _ _).mono ?_
    rintro e w1 ⟨rfl, rfl⟩
    rw [hk]
    go_wp2
    go_ret
    exact refChecked E.out (by simp) (below_alloc _ _)
  | false =>
    have E : Hid (checkT ⟨3, key, to, rc, old, id, fs, low, high, lim, sp, nd⟩ = 1) := Lib.hid (by simp [checkT, errsT, firstN, keyE, hk])
    unfold opCells
    go_enter Tryz.func30, Tryz.ntmps30
    go_wp2_with fail
    refine (refRecKey_any _ _).mono ?_
    rintro e w1 ⟨rfl, rfl⟩
    rw [hk]
    go_wp2
    go_ret
    exact refChecked E.out (by simp) (below_alloc _ _)

set_option maxRecDepth 100000 in
set_option maxHeartbeats 1600000 in
theorem refCheck_k1 (key to : ByteArray) (rc old low high : List TVal) (id lim sp nd : Int) (fs : List Int) (rv ov fv lv hv : Value) (B : Nat) (w : World) (hB : B ≤ w.heap.size) (h1 : IsVals w B rv rc) :
    Calls Tryz.prog 30 #[.agg (opCells ⟨1, key, to, rc, old, id, fs, low, high, lim, sp, nd⟩ rv ov fv lv hv)] w (RefChecked (checkT ⟨1, key, to, rc, old, id, fs, low, high, lim, sp, nd⟩) w) := by
  obtain ⟨A1, n1, c1, rfl, h10, h11, h12, -⟩ := h1
  have H1 : Hid (Calls Tryz.prog 54 #[.slice A1 n1 c1] (w.alloc (.cells #[.int .i64 1, .string key, .string to, (.slice A1 n1 c1), ov, .int .i64 id, fv, lv, hv, .int .i64 lim, .int .i64 sp, .int .i64 nd] 39)) _) := Lib.hid (refRecCheck_any A1 n1 c1 B rc _ (h12.belowOf (below_alloc _ _) hB) (by omega) (Nat.le_trans hB (below_alloc _ _).size))
  clear h12
  cases hk : keyOk key.data.toList with
  | false =>
    have E : Hid (checkT ⟨1, key, to, rc, old, id, fs, low, high, lim, sp, nd⟩ = 1) := Lib.hid (by simp [checkT, errsT, firstN, keyE, hk])
    unfold opCells
    go_enter Tryz.func30, Tryz.ntmps30
    go_wp2_with fail
    refine (refRecKey_any _ _).mono ?_
    rintro e w1 ⟨rfl, rfl⟩
    rw [hk]
    go_wp2
    go_ret
    exact refChecked E.out (by simp) (below_alloc _ _)
  | true =>
    by_cases hr : recErr rc = 0
    · have E : Hid (checkT ⟨1, key, to, rc, old, id, fs, low, high, lim, sp, nd⟩ = 0) := Lib.hid (by simp [checkT, errsT, firstN, keyE, hk, hr])
      unfold opCells
      go_enter Tryz.func30, Tryz.ntmps30
      go_wp2_with fail
      refine (refRecKey_any _ _).mono ?_
      rintro e w1 ⟨rfl, rfl⟩
      rw [hk]
      go_wp2_with fail
      refine H1.out.mono ?_
      rintro e w2 ⟨rfl, hb2⟩
      have q0 := keepbox hb2 0
      have q4 := keepbox hb2 4
      have Hb2 := Lib.hid (Below.then (below_alloc _ _) hb2)
      clear hb2
      rw [hr]
      go_wp2
      go_ret
      exact refChecked E.out (by simp) (Hb2.out)
    · have E : Hid (checkT ⟨1, key, to, rc, old, id, fs, low, high, lim, sp, nd⟩ = recErr rc) := Lib.hid (by simp [checkT, errsT, firstN, keyE, hk, hr])
      have hrb : ((recErr rc : Int) != 0) = true := by simpa using hr
      unfold opCells
      go_enter Tryz.func30, Tryz.ntmps30
      go_wp2_with fail
      refine (refRecKey_any _ _).mono ?_
      rintro e w1 ⟨rfl, rfl⟩
      rw [hk]
      go_wp2_with fail
      refine H1.out.mono ?_
      rintro e w2 ⟨rfl, hb2⟩
      have q0 := keepbox hb2 0
      have q4 := keepbox hb2 4
      have Hb2 := Lib.hid (Below.then (below_alloc _ _) hb2)
      clear hb2
      go_wp2
      go_ret
      exact refChecked E.out (by simp) (Hb2.out)

set_option maxRecDepth 100000 in
set_option maxHeartbeats 1600000 in
theorem refCheck_k4 (key to : ByteArray) (rc old low high : List TVal) (id lim sp nd : Int) (fs : List Int) (rv ov fv lv hv : Value) (B : Nat) (w : World) (hB : B ≤ w.heap.size) (h1 : IsVals w B rv rc) (h2 : IsVals w B ov old) :
    Calls Tryz.prog 30 #[.agg (opCells ⟨4, key, to, rc, old, id, fs, low, high, lim, sp, nd⟩ rv ov fv lv hv)] w (RefChecked (checkT ⟨4, key, to, rc, old, id, fs, low, high, lim, sp, nd⟩) w) := by
  obtain ⟨A1, n1, c1, rfl, h10, h11, h12, -⟩ := h1
  obtain ⟨A2, n2, c2, rfl, h20, h21, h22, -⟩ := h2
  have Hl := Lib.hid h22.1
  have H22 := Lib.hid h22
  have H1 : Hid (Calls Tryz.prog 54 #[.slice A1 n1 c1] (w.alloc (.cells #[.int .i64 4, .string key, .string to, (.slice A1 n1 c1), (.slice A2 n2 c2), .int .i64 id, fv, lv, hv, .int .i64 lim, .int .i64 sp, .int .i64 nd] 39)) _) := Lib.hid (refRecCheck_any A1 n1 c1 B rc _ (h12.belowOf (below_alloc _ _) hB) (by omega) (Nat.le_trans hB (below_alloc _ _).size))
  clear h22
  clear h12
  cases hk : keyOk key.data.toList with
  | false =>
    have E : Hid (checkT ⟨4, key, to, rc, old, id, fs, low, high, lim, sp, nd⟩ = 1) := Lib.hid (by simp [checkT, errsT, firstN, keyE, hk])
    unfold opCells
    go_enter Tryz.func30, Tryz.ntmps30
    go_wp2_with fail
    refine (refRecKey_any _ _).mono ?_
    rintro e w1 ⟨rfl, rfl⟩
    rw [hk]
    go_wp2
    go_ret
    exact refChecked E.out (by simp) (below_alloc _ _)
  | true =>
    by_cases hr : recErr rc = 0
    · by_cases h0 : n2 = 0
      · have ho : oldE old = 0 := by unfold oldE; rw [if_pos (by have := Hl.out; omega)]
        have E : Hid (checkT ⟨4, key, to, rc, old, id, fs, low, high, lim, sp, nd⟩ = 0) := Lib.hid (by simp [checkT, errsT, firstN, keyE, hk, hr, ho])
        subst h0
        clear ho
        unfold opCells
        go_enter Tryz.func30, Tryz.ntmps30
        go_wp2_with fail
        refine (refRecKey_any _ _).mono ?_
        rintro e w1 ⟨rfl, rfl⟩
        rw [hk]
        go_wp2_with fail
        refine H1.out.mono ?_
        rintro e w2 ⟨rfl, hb2⟩
        have q0 := keepbox hb2 0
        have q4 := keepbox hb2 4
        have Hb2 := Lib.hid (Below.then (below_alloc _ _) hb2)
        clear hb2
        rw [hr]
        go_wp2
        go_ret
        exact refChecked E.out (by simp) (Hb2.out)
      · have ho : oldE old = recErr old := by unfold oldE; rw [if_neg (by have := Hl.out; omega)]
        have E : Hid (checkT ⟨4, key, to, rc, old, id, fs, low, high, lim, sp, nd⟩ = recErr old) := Lib.hid (by show firstN [keyE key, recErr rc, oldE old] = _; rw [hr, ho, show keyE key = 0 from by simp [keyE, hk]]; exact firstN_last _)
        have hp : (0 : Int) < (n2 : Int) := by omega
        clear ho h0
        unfold opCells
        go_enter Tryz.func30, Tryz.ntmps30
        go_wp2_with fail
        refine (refRecKey_any _ _).mono ?_
        rintro e w1 ⟨rfl, rfl⟩
        rw [hk]
        go_wp2_with fail
        refine H1.out.mono ?_
        rintro e w2 ⟨rfl, hb2⟩
        have q0 := keepbox hb2 0
        have q4 := keepbox hb2 4
        have Hb2 := Lib.hid (Below.then (below_alloc _ _) hb2)
        clear hb2
        rw [hr]
        go_wp2_with fail
        refine (refRecCheck_any A2 n2 c2 B old _ (H22.out.belowOf Hb2.out hB) (by omega) (Nat.le_trans hB Hb2.out.size)).mono ?_
        rintro e w3 ⟨rfl, hb3⟩
        have Hb3 := Lib.hid (Below.then Hb2.out hb3)
        clear hb3
        go_wp2
        go_ret
        exact refChecked E.out (by simp) (Hb3.out)
    · have E : Hid (checkT ⟨4, key, to, rc, old, id, fs, low, high, lim, sp, nd⟩ = recErr rc) := Lib.hid (by simp [checkT, errsT, firstN, keyE, hk, hr])
      have hrb : ((recErr rc : Int) != 0) = true := by simpa using hr
      unfold opCells
      go_enter Tryz.func30, Tryz.ntmps30
      go_wp2_with fail
      refine (refRecKey_any _ _).mono ?_
      rintro e w1 ⟨rfl, rfl⟩
      rw [hk]
      go_wp2_with fail
      refine H1.out.mono ?_
      rintro e w2 ⟨rfl, hb2⟩
      have q0 := keepbox hb2 0
      have q4 := keepbox hb2 4
      have Hb2 := Lib.hid (Below.then (below_alloc _ _) hb2)
      clear hb2
      go_wp2
      go_ret
      exact refChecked E.out (by simp) (Hb2.out)

set_option maxRecDepth 100000 in
set_option maxHeartbeats 1600000 in
theorem refCheck_k5 (key to : ByteArray) (rc old low high : List TVal) (id lim sp nd : Int) (fs : List Int) (rv ov fv lv hv : Value) (w : World) :
    Calls Tryz.prog 30 #[.agg (opCells ⟨5, key, to, rc, old, id, fs, low, high, lim, sp, nd⟩ rv ov fv lv hv)] w (RefChecked (checkT ⟨5, key, to, rc, old, id, fs, low, high, lim, sp, nd⟩) w) := by
  by_cases h1 : 16 < key.size
  · have E : Hid (checkT ⟨5, key, to, rc, old, id, fs, low, high, lim, sp, nd⟩ = 1) := Lib.hid (by show firstN [inE key.size 0 16, inE to.size 0 16, inE lim 1 64] = _; simp only [firstN, inE]; (repeat' split) <;> omega)
    unfold opCells
    go_enter Tryz.func30, Tryz.ntmps30
    go_wp2
    go_ret
    exact refChecked E.out (by simp) (below_alloc _ _)
  · by_cases h2 : 16 < to.size
    · have E : Hid (checkT ⟨5, key, to, rc, old, id, fs, low, high, lim, sp, nd⟩ = 1) := Lib.hid (by show firstN [inE key.size 0 16, inE to.size 0 16, inE lim 1 64] = _; simp only [firstN, inE]; (repeat' split) <;> omega)
      unfold opCells
      go_enter Tryz.func30, Tryz.ntmps30
      go_wp2
      go_ret
      exact refChecked E.out (by simp) (below_alloc _ _)
    · cases hl : decide (inE lim 1 64 = 0) with
      | true =>
        have hl' : ¬ (lim < 1 ∨ 64 < lim) := by
          intro h
          simp [inE, h] at hl
        have E : Hid (checkT ⟨5, key, to, rc, old, id, fs, low, high, lim, sp, nd⟩ = 0) := Lib.hid (by show firstN [inE key.size 0 16, inE to.size 0 16, inE lim 1 64] = _; simp only [firstN, inE]; (repeat' split) <;> omega)
        clear hl'
        unfold opCells
        go_enter Tryz.func30, Tryz.ntmps30
        go_wp2_with fail
        refine (limit_any _ _).mono ?_
        rintro e w1 ⟨rfl, rfl⟩
        rw [hl]
        go_wp2
        go_ret
        exact refChecked E.out (by simp) (below_alloc _ _)
      | false =>
        have hl' : lim < 1 ∨ 64 < lim := by
          refine Classical.byContradiction fun h => ?_
          simp [inE, h] at hl
        have E : Hid (checkT ⟨5, key, to, rc, old, id, fs, low, high, lim, sp, nd⟩ = 1) := Lib.hid (by show firstN [inE key.size 0 16, inE to.size 0 16, inE lim 1 64] = _; simp only [firstN, inE]; (repeat' split) <;> omega)
        clear hl'
        unfold opCells
        go_enter Tryz.func30, Tryz.ntmps30
        go_wp2_with fail
        refine (limit_any _ _).mono ?_
        rintro e w1 ⟨rfl, rfl⟩
        rw [hl]
        go_wp2
        go_ret
        exact refChecked E.out (by simp) (below_alloc _ _)

set_option maxRecDepth 100000 in
set_option maxHeartbeats 1600000 in
theorem refCheck_k8 (key to : ByteArray) (rc old low high : List TVal) (id lim sp nd : Int) (fs : List Int) (rv ov fv lv hv : Value) (w : World) :
    Calls Tryz.prog 30 #[.agg (opCells ⟨8, key, to, rc, old, id, fs, low, high, lim, sp, nd⟩ rv ov fv lv hv)] w (RefChecked (checkT ⟨8, key, to, rc, old, id, fs, low, high, lim, sp, nd⟩) w) := by
  by_cases h1 : id < 1
  · have E : Hid (checkT ⟨8, key, to, rc, old, id, fs, low, high, lim, sp, nd⟩ = 1) := Lib.hid (by show firstN [inE id 1 6] = _; simp only [firstN, inE]; (repeat' split) <;> omega)
    unfold opCells
    go_enter Tryz.func30, Tryz.ntmps30
    go_wp2
    go_ret
    exact refChecked E.out (by simp) (below_alloc _ _)
  · by_cases h2 : 6 < id
    · have E : Hid (checkT ⟨8, key, to, rc, old, id, fs, low, high, lim, sp, nd⟩ = 1) := Lib.hid (by show firstN [inE id 1 6] = _; simp only [firstN, inE]; (repeat' split) <;> omega)
      unfold opCells
      go_enter Tryz.func30, Tryz.ntmps30
      go_wp2
      go_ret
      exact refChecked E.out (by simp) (below_alloc _ _)
    · have E : Hid (checkT ⟨8, key, to, rc, old, id, fs, low, high, lim, sp, nd⟩ = 0) := Lib.hid (by show firstN [inE id 1 6] = _; simp only [firstN, inE]; (repeat' split) <;> omega)
      unfold opCells
      go_enter Tryz.func30, Tryz.ntmps30
      go_wp2
      go_ret
      exact refChecked E.out (by simp) (below_alloc _ _)

set_option maxRecDepth 100000 in
set_option maxHeartbeats 1600000 in
theorem refCheck_k12 (key to : ByteArray) (rc old low high : List TVal) (id lim sp nd : Int) (fs : List Int) (rv ov fv lv hv : Value) (w : World) :
    Calls Tryz.prog 30 #[.agg (opCells ⟨12, key, to, rc, old, id, fs, low, high, lim, sp, nd⟩ rv ov fv lv hv)] w (RefChecked (checkT ⟨12, key, to, rc, old, id, fs, low, high, lim, sp, nd⟩) w) := by
  have E : Hid (checkT ⟨12, key, to, rc, old, id, fs, low, high, lim, sp, nd⟩ = 0) := Lib.hid (rfl)
  unfold opCells
  go_enter Tryz.func30, Tryz.ntmps30
  go_wp2
  go_ret
  exact refChecked E.out (by simp) (below_alloc _ _)

set_option maxRecDepth 100000 in
set_option maxHeartbeats 1600000 in
theorem refCheck_k7 (key to : ByteArray) (rc old low high : List TVal) (id lim sp nd : Int) (fs : List Int) (rv ov fv lv hv : Value) (B : Nat) (w : World) (hB : B ≤ w.heap.size) (h1 : IsInts w B fv fs) :
    Calls Tryz.prog 30 #[.agg (opCells ⟨7, key, to, rc, old, id, fs, low, high, lim, sp, nd⟩ rv ov fv lv hv)] w (RefChecked (checkT ⟨7, key, to, rc, old, id, fs, low, high, lim, sp, nd⟩) w) := by
  obtain ⟨A1, n1, c1, rfl, h10, h11, h12, -⟩ := h1
  have H12 := Lib.hid h12
  clear h12
  have E : Hid (checkT ⟨7, key, to, rc, old, id, fs, low, high, lim, sp, nd⟩ = idxErr 1 fs) := Lib.hid (firstN_one _)
  unfold opCells
  go_enter Tryz.func30, Tryz.ntmps30
  go_wp2_with fail
  refine (refCheckIndex_any 1 A1 n1 c1 B fs _ (H12.out.belowOf (below_alloc _ _) hB) (by omega) (Nat.le_trans hB (below_alloc _ _).size)).mono ?_
  rintro e w1 ⟨rfl, hb1⟩
  have Hb1 := Lib.hid (Below.then (below_alloc _ _) hb1)
  clear hb1
  go_wp2
  go_ret
  exact refChecked E.out (by simp) (Hb1.out)

set_option maxRecDepth 100000 in
set_option maxHeartbeats 1600000 in
theorem refCheck_k6 (key to : ByteArray) (rc old low high : List TVal) (id lim sp nd : Int) (fs : List Int) (rv ov fv lv hv : Value) (B : Nat) (w : World) (hB : B ≤ w.heap.size) (h1 : IsVals w B lv low) (h2 : IsVals w B hv high) :
    Calls Tryz.prog 30 #[.agg (opCells ⟨6, key, to, rc, old, id, fs, low, high, lim, sp, nd⟩ rv ov fv lv hv)] w (RefChecked (checkT ⟨6, key, to, rc, old, id, fs, low, high, lim, sp, nd⟩) w) := by
  obtain ⟨A1, n1, c1, rfl, h10, h11, h12, -⟩ := h1
  obtain ⟨A2, n2, c2, rfl, h20, h21, h22, -⟩ := h2
  have H12 := Lib.hid h12
  have H22 := Lib.hid h22
  clear h12 h22
  by_cases h1 : id < 1
  · have E : Hid (checkT ⟨6, key, to, rc, old, id, fs, low, high, lim, sp, nd⟩ = 1) := Lib.hid (by show firstN [inE id 1 6, rowErr low, rowErr high, inE lim 1 64] = _; simp only [firstN, inE]; (repeat' split) <;> omega)
    unfold opCells
    go_enter Tryz.func30, Tryz.ntmps30
    go_wp2
    go_ret
    exact refChecked E.out (by simp) (below_alloc _ _)
  · by_cases h2 : 6 < id
    · have E : Hid (checkT ⟨6, key, to, rc, old, id, fs, low, high, lim, sp, nd⟩ = 1) := Lib.hid (by show firstN [inE id 1 6, rowErr low, rowErr high, inE lim 1 64] = _; simp only [firstN, inE]; (repeat' split) <;> omega)
      unfold opCells
      go_enter Tryz.func30, Tryz.ntmps30
      go_wp2
      go_ret
      exact refChecked E.out (by simp) (below_alloc _ _)
    · have hi : inE id 1 6 = 0 := by unfold inE; rw [if_neg (by omega)]
      by_cases h3 : rowErr low = 0
      · by_cases h4 : rowErr high = 0
        · cases hl : decide (inE lim 1 64 = 0) with
          | true =>
            have hl' : inE lim 1 64 = 0 := by simpa using hl
            have E : Hid (checkT ⟨6, key, to, rc, old, id, fs, low, high, lim, sp, nd⟩ = 0) := Lib.hid (by simp [checkT, errsT, firstN, hi, h3, h4, hl'])
            clear hl' hi
            unfold opCells
            go_enter Tryz.func30, Tryz.ntmps30
            go_wp2_with fail
            refine (refRow_any A1 n1 c1 B low _ (H12.out.belowOf (below_alloc _ _) hB) (by omega) (Nat.le_trans hB (below_alloc _ _).size)).mono ?_
            rintro e w1 ⟨rfl, hb1⟩
            have q8 := keepbox hb1 8
            have Hb0 := Lib.hid hb1
            have Hb1 := Lib.hid (Below.then (below_alloc _ _) hb1)
            clear hb1
            rw [h3]
            go_wp2_with fail
            refine (refRow_any A2 n2 c2 B high _ (H22.out.belowOf Hb1.out hB) (by omega) (Nat.le_trans hB Hb1.out.size)).mono ?_
            rintro e w2 ⟨rfl, hb2⟩
            have q9 := keepbox (Below.then Hb0.out hb2) 9
            have Hb2 := Lib.hid (Below.then Hb1.out hb2)
            clear hb2
            rw [h4]
            go_wp2_with fail
            refine (limit_any _ _).mono ?_
            rintro e w3 ⟨rfl, rfl⟩
            rw [hl]
            go_wp2
            go_ret
            exact refChecked E.out (by simp) (Hb2.out)
          | false =>
            have hl' : inE lim 1 64 = 1 := by
              have h := of_decide_eq_false hl
              unfold inE at h ⊢
              by_cases hc : lim < 1 ∨ 64 < lim
              · rw [if_pos hc]
              · rw [if_neg hc] at h; exact absurd rfl h
            have E : Hid (checkT ⟨6, key, to, rc, old, id, fs, low, high, lim, sp, nd⟩ = 1) := Lib.hid (by simp [checkT, errsT, firstN, hi, h3, h4, hl'])
            clear hl' hi
            unfold opCells
            go_enter Tryz.func30, Tryz.ntmps30
            go_wp2_with fail
            refine (refRow_any A1 n1 c1 B low _ (H12.out.belowOf (below_alloc _ _) hB) (by omega) (Nat.le_trans hB (below_alloc _ _).size)).mono ?_
            rintro e w1 ⟨rfl, hb1⟩
            have q8 := keepbox hb1 8
            have Hb0 := Lib.hid hb1
            have Hb1 := Lib.hid (Below.then (below_alloc _ _) hb1)
            clear hb1
            rw [h3]
            go_wp2_with fail
            refine (refRow_any A2 n2 c2 B high _ (H22.out.belowOf Hb1.out hB) (by omega) (Nat.le_trans hB Hb1.out.size)).mono ?_
            rintro e w2 ⟨rfl, hb2⟩
            have q9 := keepbox (Below.then Hb0.out hb2) 9
            have Hb2 := Lib.hid (Below.then Hb1.out hb2)
            clear hb2
            rw [h4]
            go_wp2_with fail
            refine (limit_any _ _).mono ?_
            rintro e w3 ⟨rfl, rfl⟩
            rw [hl]
            go_wp2
            go_ret
            exact refChecked E.out (by simp) (Hb2.out)
        · have E : Hid (checkT ⟨6, key, to, rc, old, id, fs, low, high, lim, sp, nd⟩ = rowErr high) := Lib.hid (by simp [checkT, errsT, firstN, hi, h3, h4])
          have hrb : ((rowErr high : Int) != 0) = true := by simpa using h4
          clear hi
          unfold opCells
          go_enter Tryz.func30, Tryz.ntmps30
          go_wp2_with fail
          refine (refRow_any A1 n1 c1 B low _ (H12.out.belowOf (below_alloc _ _) hB) (by omega) (Nat.le_trans hB (below_alloc _ _).size)).mono ?_
          rintro e w1 ⟨rfl, hb1⟩
          have q8 := keepbox hb1 8
          have Hb0 := Lib.hid hb1
          have Hb1 := Lib.hid (Below.then (below_alloc _ _) hb1)
          clear hb1
          rw [h3]
          go_wp2_with fail
          refine (refRow_any A2 n2 c2 B high _ (H22.out.belowOf Hb1.out hB) (by omega) (Nat.le_trans hB Hb1.out.size)).mono ?_
          rintro e w2 ⟨rfl, hb2⟩
          have q9 := keepbox (Below.then Hb0.out hb2) 9
          have Hb2 := Lib.hid (Below.then Hb1.out hb2)
          clear hb2
          go_wp2
          go_ret
          exact refChecked E.out (by simp) (Hb2.out)
      · have E : Hid (checkT ⟨6, key, to, rc, old, id, fs, low, high, lim, sp, nd⟩ = rowErr low) := Lib.hid (by simp [checkT, errsT, firstN, hi, h3])
        have hrb : ((rowErr low : Int) != 0) = true := by simpa using h3
        clear hi
        unfold opCells
        go_enter Tryz.func30, Tryz.ntmps30
        go_wp2_with fail
        refine (refRow_any A1 n1 c1 B low _ (H12.out.belowOf (below_alloc _ _) hB) (by omega) (Nat.le_trans hB (below_alloc _ _).size)).mono ?_
        rintro e w1 ⟨rfl, hb1⟩
        have q8 := keepbox hb1 8
        have Hb0 := Lib.hid hb1
        have Hb1 := Lib.hid (Below.then (below_alloc _ _) hb1)
        clear hb1
        go_wp2
        go_ret
        exact refChecked E.out (by simp) (Hb1.out)

end Go.Proofs.YtknfjajmnlpfjaaGreat

namespace Go.Proofs.YtknfjajmnlpfjaaGreat
open Go.RowKit
open Go.Lib (strCells compareBytes)

set_option maxRecDepth 100000 in
set_option maxHeartbeats 1600000 in
theorem refCheck_k9 (key to : ByteArray) (rc old low high : List TVal) (id lim sp nd : Int) (fs : List Int) (rv ov fv lv hv : Value) (w : World) :
    Calls Tryz.prog 30 #[.agg (opCells ⟨9, key, to, rc, old, id, fs, low, high, lim, sp, nd⟩ rv ov fv lv hv)] w (RefChecked (checkT ⟨9, key, to, rc, old, id, fs, low, high, lim, sp, nd⟩) w) := by
  have Hsl := Lib.hid (Lib.size_eq key)
  by_cases h1 : sp = 0 ∨ sp = 1
  · by_cases h2 : 100 < key.size
    · have E : Hid (checkT ⟨9, key, to, rc, old, id, fs, low, high, lim, sp, nd⟩ = 1) := Lib.hid (by show firstN [inE sp 0 1, inE key.size 1 100] = _; simp only [firstN, inE]; (repeat' split) <;> omega)
      rcases h1 with rfl | rfl
      · unfold opCells
        go_enter Tryz.func30, Tryz.ntmps30
        go_wp2
        go_ret
        exact refChecked E.out (by simp) (below_alloc _ _)
      · unfold opCells
        go_enter Tryz.func30, Tryz.ntmps30
        go_wp2
        go_ret
        exact refChecked E.out (by simp) (below_alloc _ _)
    · by_cases h3 : key.size = 0
      · have E : Hid (checkT ⟨9, key, to, rc, old, id, fs, low, high, lim, sp, nd⟩ = 1) := Lib.hid (by show firstN [inE sp 0 1, inE key.size 1 100] = _; simp only [firstN, inE]; (repeat' split) <;> omega)
        have hb : (key.toList == []) = true := by
          rw [Lib.toList_data, show key.data.toList = [] from List.eq_nil_of_length_eq_zero (by have := Hsl.out; omega)]; rfl
        rcases h1 with rfl | rfl
        · unfold opCells
          go_enter Tryz.func30, Tryz.ntmps30
          go_wp2
          go_ret
          exact refChecked E.out (by simp) (below_alloc _ _)
        · unfold opCells
          go_enter Tryz.func30, Tryz.ntmps30
          go_wp2
          go_ret
          exact refChecked E.out (by simp) (below_alloc _ _)
      · have E : Hid (checkT ⟨9, key, to, rc, old, id, fs, low, high, lim, sp, nd⟩ = 0) := Lib.hid (by show firstN [inE sp 0 1, inE key.size 1 100] = _; simp only [firstN, inE]; (repeat' split) <;> omega)
        have hb : (key.toList == []) = false := by
          rw [Lib.toList_data]
          refine beq_eq_false_iff_ne.2 fun e => h3 ?_
          rw [Hsl.out, e]; rfl
        rcases h1 with rfl | rfl
        · unfold opCells
          go_enter Tryz.func30, Tryz.ntmps30
          go_wp2
          go_ret
          exact refChecked E.out (by simp) (below_alloc _ _)
        · unfold opCells
          go_enter Tryz.func30, Tryz.ntmps30
          go_wp2
          go_ret
          exact refChecked E.out (by simp) (below_alloc _ _)
  · have b0 : (sp == 0) = false := by simp; omega
    have b1 : (sp == 1) = false := by simp; omega
    have b0' : (sp != 0) = true := by simp; omega
    have b1' : (sp != 1) = true := by simp; omega
    have E : Hid (checkT ⟨9, key, to, rc, old, id, fs, low, high, lim, sp, nd⟩ = 1) := Lib.hid (by show firstN [inE sp 0 1, inE key.size 1 100] = _; simp only [firstN, inE]; (repeat' split) <;> omega)
    unfold opCells
    go_enter Tryz.func30, Tryz.ntmps30
    go_wp2
    go_ret
    exact refChecked E.out (by simp) (below_alloc _ _)

set_option maxRecDepth 100000 in
set_option maxHeartbeats 1600000 in
theorem refCheck_k10 (key to : ByteArray) (rc old low high : List TVal) (id lim sp nd : Int) (fs : List Int) (rv ov fv lv hv : Value) (w : World) :
    Calls Tryz.prog 30 #[.agg (opCells ⟨10, key, to, rc, old, id, fs, low, high, lim, sp, nd⟩ rv ov fv lv hv)] w (RefChecked (checkT ⟨10, key, to, rc, old, id, fs, low, high, lim, sp, nd⟩) w) := by
  have Hsl := Lib.hid (Lib.size_eq key)
  by_cases h1 : sp = 0 ∨ sp = 1
  · by_cases h2 : 100 < key.size
    · have E : Hid (checkT ⟨10, key, to, rc, old, id, fs, low, high, lim, sp, nd⟩ = 1) := Lib.hid (by show firstN [inE sp 0 1, inE key.size 1 100] = _; simp only [firstN, inE]; (repeat' split) <;> omega)
      rcases h1 with rfl | rfl
      · unfold opCells
        go_enter Tryz.func30, Tryz.ntmps30
        go_wp2
        go_ret
        exact refChecked E.out (by simp) (below_alloc _ _)
      · unfold opCells
        go_enter Tryz.func30, Tryz.ntmps30
        go_wp2
        go_ret
        exact refChecked E.out (by simp) (below_alloc _ _)
    · by_cases h3 : key.size = 0
      · have E : Hid (checkT ⟨10, key, to, rc, old, id, fs, low, high, lim, sp, nd⟩ = 1) := Lib.hid (by show firstN [inE sp 0 1, inE key.size 1 100] = _; simp only [firstN, inE]; (repeat' split) <;> omega)
        have hb : (key.toList == []) = true := by
          rw [Lib.toList_data, show key.data.toList = [] from List.eq_nil_of_length_eq_zero (by have := Hsl.out; omega)]; rfl
        rcases h1 with rfl | rfl
        · unfold opCells
          go_enter Tryz.func30, Tryz.ntmps30
          go_wp2
          go_ret
          exact refChecked E.out (by simp) (below_alloc _ _)
        · unfold opCells
          go_enter Tryz.func30, Tryz.ntmps30
          go_wp2
          go_ret
          exact refChecked E.out (by simp) (below_alloc _ _)
      · have E : Hid (checkT ⟨10, key, to, rc, old, id, fs, low, high, lim, sp, nd⟩ = 0) := Lib.hid (by show firstN [inE sp 0 1, inE key.size 1 100] = _; simp only [firstN, inE]; (repeat' split) <;> omega)
        have hb : (key.toList == []) = false := by
          rw [Lib.toList_data]
          refine beq_eq_false_iff_ne.2 fun e => h3 ?_
          rw [Hsl.out, e]; rfl
        rcases h1 with rfl | rfl
        · unfold opCells
          go_enter Tryz.func30, Tryz.ntmps30
          go_wp2
          go_ret
          exact refChecked E.out (by simp) (below_alloc _ _)
        · unfold opCells
          go_enter Tryz.func30, Tryz.ntmps30
          go_wp2
          go_ret
          exact refChecked E.out (by simp) (below_alloc _ _)
  · have b0 : (sp == 0) = false := by simp; omega
    have b1 : (sp == 1) = false := by simp; omega
    have b0' : (sp != 0) = true := by simp; omega
    have b1' : (sp != 1) = true := by simp; omega
    have E : Hid (checkT ⟨10, key, to, rc, old, id, fs, low, high, lim, sp, nd⟩ = 1) := Lib.hid (by show firstN [inE sp 0 1, inE key.size 1 100] = _; simp only [firstN, inE]; (repeat' split) <;> omega)
    unfold opCells
    go_enter Tryz.func30, Tryz.ntmps30
    go_wp2
    go_ret
    exact refChecked E.out (by simp) (below_alloc _ _)

set_option maxRecDepth 100000 in
set_option maxHeartbeats 1600000 in
theorem refCheck_k11 (key to : ByteArray) (rc old low high : List TVal) (id lim sp nd : Int) (fs : List Int) (rv ov fv lv hv : Value) (w : World) :
    Calls Tryz.prog 30 #[.agg (opCells ⟨11, key, to, rc, old, id, fs, low, high, lim, sp, nd⟩ rv ov fv lv hv)] w (RefChecked (checkT ⟨11, key, to, rc, old, id, fs, low, high, lim, sp, nd⟩) w) := by
  have Hsl := Lib.hid (Lib.size_eq key)
  by_cases h1 : sp = 0 ∨ sp = 1
  · by_cases h2 : 100 < key.size
    · have E : Hid (checkT ⟨11, key, to, rc, old, id, fs, low, high, lim, sp, nd⟩ = 1) := Lib.hid (by show firstN [inE sp 0 1, inE key.size 0 100, inE nd 1 4] = _; simp only [firstN, inE]; (repeat' split) <;> omega)
      rcases h1 with rfl | rfl
      · unfold opCells
        go_enter Tryz.func30, Tryz.ntmps30
        go_wp2
        go_ret
        exact refChecked E.out (by simp) (below_alloc _ _)
      · unfold opCells
        go_enter Tryz.func30, Tryz.ntmps30
        go_wp2
        go_ret
        exact refChecked E.out (by simp) (below_alloc _ _)
    · by_cases h3 : nd < 1
      · have E : Hid (checkT ⟨11, key, to, rc, old, id, fs, low, high, lim, sp, nd⟩ = 1) := Lib.hid (by show firstN [inE sp 0 1, inE key.size 0 100, inE nd 1 4] = _; simp only [firstN, inE]; (repeat' split) <;> omega)
        rcases h1 with rfl | rfl
        · unfold opCells
          go_enter Tryz.func30, Tryz.ntmps30
          go_wp2
          go_ret
          exact refChecked E.out (by simp) (below_alloc _ _)
        · unfold opCells
          go_enter Tryz.func30, Tryz.ntmps30
          go_wp2
          go_ret
          exact refChecked E.out (by simp) (below_alloc _ _)
      · by_cases h4 : 4 < nd
        · have E : Hid (checkT ⟨11, key, to, rc, old, id, fs, low, high, lim, sp, nd⟩ = 1) := Lib.hid (by show firstN [inE sp 0 1, inE key.size 0 100, inE nd 1 4] = _; simp only [firstN, inE]; (repeat' split) <;> omega)
          rcases h1 with rfl | rfl
          · unfold opCells
            go_enter Tryz.func30, Tryz.ntmps30
            go_wp2
            go_ret
            exact refChecked E.out (by simp) (below_alloc _ _)
          · unfold opCells
            go_enter Tryz.func30, Tryz.ntmps30
            go_wp2
            go_ret
            exact refChecked E.out (by simp) (below_alloc _ _)
        · have E : Hid (checkT ⟨11, key, to, rc, old, id, fs, low, high, lim, sp, nd⟩ = 0) := Lib.hid (by show firstN [inE sp 0 1, inE key.size 0 100, inE nd 1 4] = _; simp only [firstN, inE]; (repeat' split) <;> omega)
          rcases h1 with rfl | rfl
          · unfold opCells
            go_enter Tryz.func30, Tryz.ntmps30
            go_wp2
            go_ret
            exact refChecked E.out (by simp) (below_alloc _ _)
          · unfold opCells
            go_enter Tryz.func30, Tryz.ntmps30
            go_wp2
            go_ret
            exact refChecked E.out (by simp) (below_alloc _ _)
  · have b0 : (sp == 0) = false := by simp; omega
    have b1 : (sp == 1) = false := by simp; omega
    have b0' : (sp != 0) = true := by simp; omega
    have b1' : (sp != 1) = true := by simp; omega
    have E : Hid (checkT ⟨11, key, to, rc, old, id, fs, low, high, lim, sp, nd⟩ = 1) := Lib.hid (by show firstN [inE sp 0 1, inE key.size 0 100, inE nd 1 4] = _; simp only [firstN, inE]; (repeat' split) <;> omega)
    unfold opCells
    go_enter Tryz.func30, Tryz.ntmps30
    go_wp2
    go_ret
    exact refChecked E.out (by simp) (below_alloc _ _)

set_option maxRecDepth 100000 in
set_option maxHeartbeats 1600000 in
theorem refCheck_k0 (key to : ByteArray) (rc old low high : List TVal) (id lim sp nd : Int) (fs : List Int) (rv ov fv lv hv : Value) (K : Int) (w : World) (h1 : ¬ K = 1) (h2 : ¬ K = 2) (h3 : ¬ K = 3) (h4 : ¬ K = 4) (h5 : ¬ K = 5) (h6 : ¬ K = 6) (h7 : ¬ K = 7) (h8 : ¬ K = 8) (h9 : ¬ K = 9) (h10 : ¬ K = 10) (h11 : ¬ K = 11) (h12 : ¬ K = 12) :
    Calls Tryz.prog 30 #[.agg (opCells ⟨K, key, to, rc, old, id, fs, low, high, lim, sp, nd⟩ rv ov fv lv hv)] w (RefChecked (checkT ⟨K, key, to, rc, old, id, fs, low, high, lim, sp, nd⟩) w) := by
  have E : Hid (checkT ⟨K, key, to, rc, old, id, fs, low, high, lim, sp, nd⟩ = 1) := Lib.hid (by simp [checkT, errsT, firstN, h1, h2, h3, h4, h5, h6, h7, h8, h9, h10, h11, h12])
  have e1 : (K == 1) = false := by simpa using h1
  have e2 : (K == 2) = false := by simpa using h2
  have e3 : (K == 3) = false := by simpa using h3
  have e4 : (K == 4) = false := by simpa using h4
  have e5 : (K == 5) = false := by simpa using h5
  have e6 : (K == 6) = false := by simpa using h6
  have e7 : (K == 7) = false := by simpa using h7
  have e8 : (K == 8) = false := by simpa using h8
  have e9 : (K == 9) = false := by simpa using h9
  have e10 : (K == 10) = false := by simpa using h10
  have e11 : (K == 11) = false := by simpa using h11
  have e12 : (K == 12) = false := by simpa using h12
  clear h1 h2 h3 h4 h5 h6 h7 h8 h9 h10 h11 h12
  unfold opCells
  go_enter Tryz.func30, Tryz.ntmps30
  go_wp2
  go_ret
  exact refChecked E.out (by simp) (below_alloc _ _)

set_option maxRecDepth 100000 in
theorem refCheck_any (v : Value) (o : TOp) (B : Nat) (w : World) (hB : B ≤ w.heap.size) (ho : OpIs w B v o) : Calls Tryz.prog 30 #[v] w (RefChecked (checkT o) w) := by
  obtain ⟨rv, ov, fv, lv, hv, rfl, h1, h2, h3, h4, h5⟩ := ho
  obtain ⟨k, key, to, rc, old, id, fs, low, high, lim, sp, nd⟩ := o
  by_cases k1 : k = 1
  · subst k1; exact refCheck_k1 key to rc old low high id lim sp nd fs rv ov fv lv hv B w hB h1
  by_cases k2 : k = 2
  · subst k2; exact refCheck_k2 key to rc old low high id lim sp nd fs rv ov fv lv hv w
  by_cases k3 : k = 3
  · subst k3; exact refCheck_k3 key to rc old low high id lim sp nd fs rv ov fv lv hv w
  by_cases k4 : k = 4
  · subst k4; exact refCheck_k4 key to rc old low high id lim sp nd fs rv ov fv lv hv B w hB h1 h2
  by_cases k5 : k = 5
  · subst k5; exact refCheck_k5 key to rc old low high id lim sp nd fs rv ov fv lv hv w
  by_cases k6 : k = 6
  · subst k6; exact refCheck_k6 key to rc old low high id lim sp nd fs rv ov fv lv hv B w hB h4 h5
  by_cases k7 : k = 7
  · subst k7; exact refCheck_k7 key to rc old low high id lim sp nd fs rv ov fv lv hv B w hB h3
  by_cases k8 : k = 8
  · subst k8; exact refCheck_k8 key to rc old low high id lim sp nd fs rv ov fv lv hv w
  by_cases k9 : k = 9
  · subst k9; exact refCheck_k9 key to rc old low high id lim sp nd fs rv ov fv lv hv w
  by_cases k10 : k = 10
  · subst k10; exact refCheck_k10 key to rc old low high id lim sp nd fs rv ov fv lv hv w
  by_cases k11 : k = 11
  · subst k11; exact refCheck_k11 key to rc old low high id lim sp nd fs rv ov fv lv hv w
  by_cases k12 : k = 12
  · subst k12; exact refCheck_k12 key to rc old low high id lim sp nd fs rv ov fv lv hv w
  exact refCheck_k0 key to rc old low high id lim sp nd fs rv ov fv lv hv k w k1 k2 k3 k4 k5 k6 k7 k8 k9 k10 k11 k12
end Go.Proofs.YtknfjajmnlpfjaaGreat

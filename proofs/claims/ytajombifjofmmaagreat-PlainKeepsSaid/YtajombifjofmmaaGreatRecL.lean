/- Lies of the program and of the document gives what the plain text (SpecRec) gives. Condition: rows are in memory. -/
import Derived.Test.YtajombifjofmmaaGreatRecE
import Derived.Test.YtajombifjofmmaaGreatTupJ
namespace Go.Proofs.YtajombifjofmmaaGreat
open Go.RowKit
open Go.Lib (strCells compareBytes)

theorem HasVals.head {w : World} {B n : Nat} {A : Option Addr} {l : List TVal} (h : HasVals w B A n l) {k : Nat} (hk : k ≤ n) : HasVals w B A k (l.take k) := by
  have h1 := Has.take h.2 (k := k * 3) (by omega)
  have e : (valCells l).take (k * 3) = valCells (l.take k) := by
    have hl := h.1
    conv => lhs; rw [← List.take_append_drop k l, valCells_app]
    exact List.take_left' (by rw [valCells_len, List.length_take]; omega)
  rw [e] at h1
  exact ⟨by rw [List.length_take, h.1]; omega, h1⟩
theorem rowErr_take {l : List TVal} (h : rowErr l = 0) (k : Nat) : rowErr (l.take k) = 0 := by
  obtain ⟨h1, h2⟩ := rowErr_ok.1 h
  exact rowErr_ok.2 ⟨by rw [List.length_take]; omega, fun v hv => h2 v (List.mem_of_mem_take hv)⟩
theorem cmpT_eq {l m : List TVal} (hl : rowErr l = 0) (hm : rowErr m = 0) : cmpT l m = cmpRow l m := cmpT_row hl hm
theorem lies_err {l low high : List TVal} (h : rowErr l ≠ 0 ∨ rowErr low ≠ 0 ∨ rowErr high ≠ 0) : liesB l low high = false := by
  unfold liesB
  rw [decide_eq_false (p := rowErr l = 0 ∧ rowErr low = 0 ∧ rowErr high = 0) (by omega)]
  rfl
theorem lies_ok {l low high : List TVal} (h : rowErr l = 0) (h1 : rowErr low = 0) (h2 : rowErr high = 0) : liesB l low high = (decide (0 ≤ cmpT l low) && decide (cmpT (l.take high.length) high ≤ 0)) := by
  unfold liesB
  rw [decide_eq_true (p := rowErr l = 0 ∧ rowErr low = 0 ∧ rowErr high = 0) ⟨h, h1, h2⟩, cmpT_row h h1, cmpT_row (rowErr_take h _) h2]
  rfl
theorem firstI_three (x y z : Nat) : (x = 0 ∧ y = 0 ∧ z = 0) ∨ ∃ u : Nat, u ≠ 0 ∧ firstI [(x : Int), (y : Int), (z : Int)] = (u : Int) ∧ (x ≠ 0 ∨ y ≠ 0 ∨ z ≠ 0) := by
  by_cases hx : x = 0
  · by_cases hy : y = 0
    · by_cases hz : z = 0
      · exact .inl ⟨hx, hy, hz⟩
      · exact .inr ⟨z, hz, by simp [firstI, hx, hy]; omega, .inr (.inr hz)⟩
    · refine .inr ⟨y, hy, ?_, .inr (.inl hy)⟩
      simp [firstI, hx]
      omega
  · refine .inr ⟨x, hx, ?_, .inl hx⟩
    simp [firstI]
    omega

set_option maxHeartbeats 1600000 in
set_option maxRecDepth 100000 in
theorem lies_any (A0 A1 A2 : Option Addr) (n0 n1 n2 c0 c1 c2 B : Nat) (l low high : List TVal) (w : World) (h0 : HasVals w B A0 n0 l) (h1 : HasVals w B A1 n1 low) (h2 : HasVals w B A2 n2 high)
    (hn0 : n0 ≤ maxLen) (hn1 : n1 ≤ maxLen) (hn2 : n2 ≤ maxLen) (hc0 : n0 ≤ c0) (hw : B ≤ w.heap.size) (hi0 : ∀ u ∈ l, InI64 u.n) (hi1 : ∀ u ∈ low, InI64 u.n) (hi2 : ∀ u ∈ high, InI64 u.n) :
    Calls Tryz.prog 53 #[.slice A0 n0 c0, .slice A1 n1 c1, .slice A2 n2 c2] w fun e w' => e = .returned (.bool (liesB l low high)) ∧ Below w.heap.size w w' := by
  have H0 := Lib.hid h0
  have H1 := Lib.hid h1
  have H2 := Lib.hid h2
  have Hl2 := Lib.hid h2.1
  have K0 := Lib.hid (checkRow_any A0 n0 c0 B l w h0 hn0 hw hi0)
  have K1 := Lib.hid (fun wx (hb : Below w.heap.size w wx) => checkRow_any A1 n1 c1 B low wx (H1.out.belowOf hb hw) hn1 (Nat.le_trans hw hb.size) hi1)
  have K2 := Lib.hid (fun wx (hb : Below w.heap.size w wx) => checkRow_any A2 n2 c2 B high wx (H2.out.belowOf hb hw) hn2 (Nat.le_trans hw hb.size) hi2)
  have Hc := Lib.hid (fun wx (hb : Below w.heap.size w wx) => compare_any A0 A1 n0 n1 c0 c1 B l low wx (H0.out.belowOf hb hw) (H1.out.belowOf hb hw) hn0 hn1 (Nat.le_trans hw hb.size))
  clear h0 h1 h2 hi0 hi1 hi2
  rcases firstI_three (rowErr l) (rowErr low) (rowErr high) with ⟨e0, e1, e2⟩ | ⟨u, hu, hf, hor⟩
  · have E0 := Lib.hid (lies_ok e0 e1 e2)
    rw [e0] at K0
    rw [e1] at K1
    rw [e2] at K2
    clear e0 e1 e2
    by_cases hge : 0 ≤ cmpT l low
    · have E1 : Hid (liesB l low high = decide (cmpT (l.take high.length) high ≤ 0)) := Lib.hid (by rw [E0.out, decide_eq_true hge]; rfl)
      by_cases hnn : n0 ≤ n2
      · have hmin : min (n0 : Int) (n2 : Int) = (n0 : Int) := by omega
        have Hc2 := Lib.hid (fun wx (hb : Below w.heap.size w wx) => compare_any A0 A2 n0 n2 c0 c2 B (l.take high.length) high wx (by rw [List.take_of_length_le (by rw [H0.out.1, Hl2.out]; exact hnn)]; exact H0.out.belowOf hb hw) (H2.out.belowOf hb hw) hn0 hn2 (Nat.le_trans hw hb.size))
        have hc0i : (n0 : Int) ≤ (c0 : Int) := by omega
        go_enter Tryz.func53, Tryz.ntmps53
        go_wp2_with fail
        refine K0.out.mono ?_
        rintro e w1 ⟨rfl, hb1⟩
        have Hb1 := Lib.hid hb1
        clear hb1
        go_wp2_with fail
        refine (K1.out w1 Hb1.out).mono ?_
        rintro e w2 ⟨rfl, hb2⟩
        have Hb2 := Lib.hid (Hb1.out.trans (hb2.mono Hb1.out.size))
        clear hb2
        go_wp2_with fail
        refine (K2.out w2 Hb2.out).mono ?_
        rintro e w3 ⟨rfl, hb3⟩
        have Hb3 := Lib.hid (Hb2.out.trans (hb3.mono Hb2.out.size))
        clear hb3
        go_wp2_with fail
        refine (first_lit _ #[.int .i64 0, .int .i64 0, .int .i64 0] _ [0, 0, 0] 3 3 0 rfl rfl (by omega) rfl).mono ?_
        rintro e w4 ⟨rfl, rfl⟩
        have Hb4 := Lib.hid (Hb3.out.alloc Hb3.out.size (.cells #[.int .i64 0, .int .i64 0, .int .i64 0] 30))
        go_wp2_with fail
        refine (Hc.out _ Hb4.out).mono ?_
        rintro e w5 ⟨rfl, hb5⟩
        have Hb5 := Lib.hid (Hb4.out.trans (hb5.mono Hb4.out.size))
        clear hb5
        go_wp2_with fail
        refine (Hc2.out _ Hb5.out).mono ?_
        rintro e w6 ⟨rfl, hb6⟩
        have Hb6 := Lib.hid (Hb5.out.trans (hb6.mono Hb5.out.size))
        clear hb6
        go_wp2
        go_ret
        exact ⟨ret_bool (by rw [E1.out]), Hb6.out⟩
      · have hmin : min (n0 : Int) (n2 : Int) = (n2 : Int) := by omega
        have hle : n2 ≤ n0 := by omega
        have Hc2 := Lib.hid (fun wx (hb : Below w.heap.size w wx) => compare_any A0 A2 n2 n2 c0 c2 B (l.take high.length) high wx (by rw [Hl2.out]; exact (H0.out.belowOf hb hw).head hle) (H2.out.belowOf hb hw) hn2 hn2 (Nat.le_trans hw hb.size))
        have hc0i : (n2 : Int) ≤ (c0 : Int) := by omega
        have hc0n : n2 ≤ c0 := by omega
        go_enter Tryz.func53, Tryz.ntmps53
        go_wp2_with fail
        refine K0.out.mono ?_
        rintro e w1 ⟨rfl, hb1⟩
        have Hb1 := Lib.hid hb1
        clear hb1
        go_wp2_with fail
        refine (K1.out w1 Hb1.out).mono ?_
        rintro e w2 ⟨rfl, hb2⟩
        have Hb2 := Lib.hid (Hb1.out.trans (hb2.mono Hb1.out.size))
        clear hb2
        go_wp2_with fail
        refine (K2.out w2 Hb2.out).mono ?_
        rintro e w3 ⟨rfl, hb3⟩
        have Hb3 := Lib.hid (Hb2.out.trans (hb3.mono Hb2.out.size))
        clear hb3
        go_wp2_with fail
        refine (first_lit _ #[.int .i64 0, .int .i64 0, .int .i64 0] _ [0, 0, 0] 3 3 0 rfl rfl (by omega) rfl).mono ?_
        rintro e w4 ⟨rfl, rfl⟩
        have Hb4 := Lib.hid (Hb3.out.alloc Hb3.out.size (.cells #[.int .i64 0, .int .i64 0, .int .i64 0] 30))
        go_wp2_with fail
        refine (Hc.out _ Hb4.out).mono ?_
        rintro e w5 ⟨rfl, hb5⟩
        have Hb5 := Lib.hid (Hb4.out.trans (hb5.mono Hb4.out.size))
        clear hb5
        go_wp2_with fail
        refine (Hc2.out _ Hb5.out).mono ?_
        rintro e w6 ⟨rfl, hb6⟩
        have Hb6 := Lib.hid (Hb5.out.trans (hb6.mono Hb5.out.size))
        clear hb6
        go_wp2
        go_ret
        exact ⟨ret_bool (by rw [E1.out]), Hb6.out⟩
    · have E1 : Hid (liesB l low high = false) := Lib.hid (by rw [E0.out, decide_eq_false hge]; rfl)
      by_cases hnn : n0 ≤ n2
      · have hmin : min (n0 : Int) (n2 : Int) = (n0 : Int) := by omega
        have hc0i : (n0 : Int) ≤ (c0 : Int) := by omega
        go_enter Tryz.func53, Tryz.ntmps53
        go_wp2_with fail
        refine K0.out.mono ?_
        rintro e w1 ⟨rfl, hb1⟩
        have Hb1 := Lib.hid hb1
        clear hb1
        go_wp2_with fail
        refine (K1.out w1 Hb1.out).mono ?_
        rintro e w2 ⟨rfl, hb2⟩
        have Hb2 := Lib.hid (Hb1.out.trans (hb2.mono Hb1.out.size))
        clear hb2
        go_wp2_with fail
        refine (K2.out w2 Hb2.out).mono ?_
        rintro e w3 ⟨rfl, hb3⟩
        have Hb3 := Lib.hid (Hb2.out.trans (hb3.mono Hb2.out.size))
        clear hb3
        go_wp2_with fail
        refine (first_lit _ #[.int .i64 0, .int .i64 0, .int .i64 0] _ [0, 0, 0] 3 3 0 rfl rfl (by omega) rfl).mono ?_
        rintro e w4 ⟨rfl, rfl⟩
        have Hb4 := Lib.hid (Hb3.out.alloc Hb3.out.size (.cells #[.int .i64 0, .int .i64 0, .int .i64 0] 30))
        go_wp2_with fail
        refine (Hc.out _ Hb4.out).mono ?_
        rintro e w5 ⟨rfl, hb5⟩
        have Hb5 := Lib.hid (Hb4.out.trans (hb5.mono Hb4.out.size))
        clear hb5
        go_wp2
        go_ret
        exact ⟨ret_bool (by rw [E1.out]), Hb5.out⟩
      · have hmin : min (n0 : Int) (n2 : Int) = (n2 : Int) := by omega
        have hle : n2 ≤ n0 := by omega
        have hc0i : (n2 : Int) ≤ (c0 : Int) := by omega
        have hc0n : n2 ≤ c0 := by omega
        go_enter Tryz.func53, Tryz.ntmps53
        go_wp2_with fail
        refine K0.out.mono ?_
        rintro e w1 ⟨rfl, hb1⟩
        have Hb1 := Lib.hid hb1
        clear hb1
        go_wp2_with fail
        refine (K1.out w1 Hb1.out).mono ?_
        rintro e w2 ⟨rfl, hb2⟩
        have Hb2 := Lib.hid (Hb1.out.trans (hb2.mono Hb1.out.size))
        clear hb2
        go_wp2_with fail
        refine (K2.out w2 Hb2.out).mono ?_
        rintro e w3 ⟨rfl, hb3⟩
        have Hb3 := Lib.hid (Hb2.out.trans (hb3.mono Hb2.out.size))
        clear hb3
        go_wp2_with fail
        refine (first_lit _ #[.int .i64 0, .int .i64 0, .int .i64 0] _ [0, 0, 0] 3 3 0 rfl rfl (by omega) rfl).mono ?_
        rintro e w4 ⟨rfl, rfl⟩
        have Hb4 := Lib.hid (Hb3.out.alloc Hb3.out.size (.cells #[.int .i64 0, .int .i64 0, .int .i64 0] 30))
        go_wp2_with fail
        refine (Hc.out _ Hb4.out).mono ?_
        rintro e w5 ⟨rfl, hb5⟩
        have Hb5 := Lib.hid (Hb4.out.trans (hb5.mono Hb4.out.size))
        clear hb5
        go_wp2
        go_ret
        exact ⟨ret_bool (by rw [E1.out]), Hb5.out⟩
  · have E : Hid (liesB l low high = false) := Lib.hid (lies_err hor)
    obtain ⟨hz1, hz2⟩ := num_ne hu
    clear hor hu
    go_enter Tryz.func53, Tryz.ntmps53
    go_wp2_with fail
    refine K0.out.mono ?_
    rintro e w1 ⟨rfl, hb1⟩
    have Hb1 := Lib.hid hb1
    clear hb1
    go_wp2_with fail
    refine (K1.out w1 Hb1.out).mono ?_
    rintro e w2 ⟨rfl, hb2⟩
    have Hb2 := Lib.hid (Hb1.out.trans (hb2.mono Hb1.out.size))
    clear hb2
    go_wp2_with fail
    refine (K2.out w2 Hb2.out).mono ?_
    rintro e w3 ⟨rfl, hb3⟩
    have Hb3 := Lib.hid (Hb2.out.trans (hb3.mono Hb2.out.size))
    clear hb3
    go_wp2_with fail
    refine (first_lit _ #[.int .i64 (rowErr l : Int), .int .i64 (rowErr low : Int), .int .i64 (rowErr high : Int)] _ [(rowErr l : Int), (rowErr low : Int), (rowErr high : Int)] 3 3 u rfl rfl (by omega) hf).mono ?_
    rintro e w4 ⟨rfl, rfl⟩
    have Hb4 := Lib.hid (Hb3.out.alloc Hb3.out.size (.cells #[.int .i64 (rowErr l : Int), .int .i64 (rowErr low : Int), .int .i64 (rowErr high : Int)] 30))
    clear hf
    go_wp2
    go_ret
    exact ⟨ret_bool (by rw [E.out]), Hb4.out⟩

set_option maxHeartbeats 1600000 in
set_option maxRecDepth 100000 in
theorem refLies_any (A0 A1 A2 : Option Addr) (n0 n1 n2 c0 c1 c2 B : Nat) (l low high : List TVal) (w : World) (h0 : HasVals w B A0 n0 l) (h1 : HasVals w B A1 n1 low) (h2 : HasVals w B A2 n2 high)
    (hn0 : n0 ≤ maxLen) (hn1 : n1 ≤ maxLen) (hn2 : n2 ≤ maxLen) (hc0 : n0 ≤ c0) (hw : B ≤ w.heap.size) :
    Calls Tryz.prog 61 #[.slice A0 n0 c0, .slice A1 n1 c1, .slice A2 n2 c2] w fun e w' => e = .returned (.bool (liesB l low high)) ∧ Below w.heap.size w w' := by
  have H0 := Lib.hid h0
  have H1 := Lib.hid h1
  have H2 := Lib.hid h2
  have Hl2 := Lib.hid h2.1
  have K0 := Lib.hid (refRow_any A0 n0 c0 B l w h0 hn0 hw)
  have K1 := Lib.hid (fun wx (hb : Below w.heap.size w wx) => refRow_any A1 n1 c1 B low wx (H1.out.belowOf hb hw) hn1 (Nat.le_trans hw hb.size))
  have K2 := Lib.hid (fun wx (hb : Below w.heap.size w wx) => refRow_any A2 n2 c2 B high wx (H2.out.belowOf hb hw) hn2 (Nat.le_trans hw hb.size))
  clear h0 h1 h2
  rcases rowErr_num l with e0 | ⟨z1, z2, z3⟩
  · have E0 := Lib.hid e0
    rw [e0] at K0
    clear e0
    rcases rowErr_num low with e1 | ⟨z1, z2, z3⟩
    · have E1 := Lib.hid e1
      rw [e1] at K1
      clear e1
      rcases rowErr_num high with e2 | ⟨z1, z2, z3⟩
      · have E2 := Lib.hid (lies_ok E0.out E1.out e2)
        rw [e2] at K2
        have Er := Lib.hid e2
        clear e2
        have Hc := Lib.hid (fun wx (hb : Below w.heap.size w wx) => refCompare_any A0 A1 n0 n1 c0 c1 B l low wx (H0.out.belowOf hb hw) (H1.out.belowOf hb hw) hn0 hn1 (Nat.le_trans hw hb.size))
        have hx : (n2 < n0 ∨ n0 ≤ n2) := by omega
        rcases hx with hx | hx
        · have hc0i : (n2 : Int) ≤ (c0 : Int) := by omega
          have hc0n : n2 ≤ c0 := by omega
          have Hc2 := Lib.hid (fun wx (hb : Below w.heap.size w wx) => refCompare_any A0 A2 n2 n2 c0 c2 B (l.take high.length) high wx (by rw [Hl2.out]; exact (H0.out.belowOf hb hw).head (by omega)) (H2.out.belowOf hb hw) hn2 hn2 (Nat.le_trans hw hb.size))
          by_cases hge : 0 ≤ cmpT l low
          · have E : Hid (liesB l low high = decide (cmpT (l.take high.length) high ≤ 0)) := Lib.hid (by rw [E2.out, decide_eq_true hge]; rfl)
            go_enter Tryz.func61, Tryz.ntmps61
            go_wp2_with fail
            refine K0.out.mono ?_
            rintro e w1 ⟨rfl, hb1⟩
            have Hb1 := Lib.hid hb1
            clear hb1
            go_wp2_with fail
            refine (K1.out w1 Hb1.out).mono ?_
            rintro e w2 ⟨rfl, hb2⟩
            have Hb2 := Lib.hid (Hb1.out.trans (hb2.mono Hb1.out.size))
            clear hb2
            go_wp2_with fail
            refine (K2.out w2 Hb2.out).mono ?_
            rintro e w3 ⟨rfl, hb3⟩
            have Hb3 := Lib.hid (Hb2.out.trans (hb3.mono Hb2.out.size))
            clear hb3
            go_wp2_with fail
            refine (Hc.out _ Hb3.out).mono ?_
            rintro e w4 ⟨rfl, hb4⟩
            have Hb4 := Lib.hid (Hb3.out.trans (hb4.mono Hb3.out.size))
            clear hb4
            go_wp2_with fail
            refine (Hc2.out _ Hb4.out).mono ?_
            rintro e w6 ⟨rfl, hb6⟩
            have Hb6 := Lib.hid (Hb4.out.trans (hb6.mono Hb4.out.size))
            clear hb6
            go_wp2
            go_ret
            exact ⟨ret_bool (by rw [E.out]), Hb6.out⟩
          · have E : Hid (liesB l low high = false) := Lib.hid (by rw [E2.out, decide_eq_false hge]; rfl)
            go_enter Tryz.func61, Tryz.ntmps61
            go_wp2_with fail
            refine K0.out.mono ?_
            rintro e w1 ⟨rfl, hb1⟩
            have Hb1 := Lib.hid hb1
            clear hb1
            go_wp2_with fail
            refine (K1.out w1 Hb1.out).mono ?_
            rintro e w2 ⟨rfl, hb2⟩
            have Hb2 := Lib.hid (Hb1.out.trans (hb2.mono Hb1.out.size))
            clear hb2
            go_wp2_with fail
            refine (K2.out w2 Hb2.out).mono ?_
            rintro e w3 ⟨rfl, hb3⟩
            have Hb3 := Lib.hid (Hb2.out.trans (hb3.mono Hb2.out.size))
            clear hb3
            go_wp2_with fail
            refine (Hc.out _ Hb3.out).mono ?_
            rintro e w4 ⟨rfl, hb4⟩
            have Hb4 := Lib.hid (Hb3.out.trans (hb4.mono Hb3.out.size))
            clear hb4
            go_wp2
            go_ret
            exact ⟨ret_bool (by rw [E.out]), Hb4.out⟩
        · have Hc2 := Lib.hid (fun wx (hb : Below w.heap.size w wx) => refCompare_any A0 A2 n0 n2 c0 c2 B (l.take high.length) high wx (by rw [List.take_of_length_le (by rw [H0.out.1, Hl2.out]; exact hx)]; exact H0.out.belowOf hb hw) (H2.out.belowOf hb hw) hn0 hn2 (Nat.le_trans hw hb.size))
          by_cases hge : 0 ≤ cmpT l low
          · have E : Hid (liesB l low high = decide (cmpT (l.take high.length) high ≤ 0)) := Lib.hid (by rw [E2.out, decide_eq_true hge]; rfl)
            go_enter Tryz.func61, Tryz.ntmps61
            go_wp2_with fail
            refine K0.out.mono ?_
            rintro e w1 ⟨rfl, hb1⟩
            have Hb1 := Lib.hid hb1
            clear hb1
            go_wp2_with fail
            refine (K1.out w1 Hb1.out).mono ?_
            rintro e w2 ⟨rfl, hb2⟩
            have Hb2 := Lib.hid (Hb1.out.trans (hb2.mono Hb1.out.size))
            clear hb2
            go_wp2_with fail
            refine (K2.out w2 Hb2.out).mono ?_
            rintro e w3 ⟨rfl, hb3⟩
            have Hb3 := Lib.hid (Hb2.out.trans (hb3.mono Hb2.out.size))
            clear hb3
            go_wp2_with fail
            refine (Hc.out _ Hb3.out).mono ?_
            rintro e w4 ⟨rfl, hb4⟩
            have Hb4 := Lib.hid (Hb3.out.trans (hb4.mono Hb3.out.size))
            clear hb4
            go_wp2_with fail
            refine (Hc2.out _ Hb4.out).mono ?_
            rintro e w6 ⟨rfl, hb6⟩
            have Hb6 := Lib.hid (Hb4.out.trans (hb6.mono Hb4.out.size))
            clear hb6
            go_wp2
            go_ret
            exact ⟨ret_bool (by rw [E.out]), Hb6.out⟩
          · have E : Hid (liesB l low high = false) := Lib.hid (by rw [E2.out, decide_eq_false hge]; rfl)
            go_enter Tryz.func61, Tryz.ntmps61
            go_wp2_with fail
            refine K0.out.mono ?_
            rintro e w1 ⟨rfl, hb1⟩
            have Hb1 := Lib.hid hb1
            clear hb1
            go_wp2_with fail
            refine (K1.out w1 Hb1.out).mono ?_
            rintro e w2 ⟨rfl, hb2⟩
            have Hb2 := Lib.hid (Hb1.out.trans (hb2.mono Hb1.out.size))
            clear hb2
            go_wp2_with fail
            refine (K2.out w2 Hb2.out).mono ?_
            rintro e w3 ⟨rfl, hb3⟩
            have Hb3 := Lib.hid (Hb2.out.trans (hb3.mono Hb2.out.size))
            clear hb3
            go_wp2_with fail
            refine (Hc.out _ Hb3.out).mono ?_
            rintro e w4 ⟨rfl, hb4⟩
            have Hb4 := Lib.hid (Hb3.out.trans (hb4.mono Hb3.out.size))
            clear hb4
            go_wp2
            go_ret
            exact ⟨ret_bool (by rw [E.out]), Hb4.out⟩
      · have E : Hid (liesB l low high = false) := Lib.hid (lies_err (.inr (.inr z3)))
        clear z3
        go_enter Tryz.func61, Tryz.ntmps61
        go_wp2_with fail
        refine K0.out.mono ?_
        rintro e w1 ⟨rfl, hb1⟩
        have Hb1 := Lib.hid hb1
        clear hb1
        go_wp2_with fail
        refine (K1.out w1 Hb1.out).mono ?_
        rintro e w2 ⟨rfl, hb2⟩
        have Hb2 := Lib.hid (Hb1.out.trans (hb2.mono Hb1.out.size))
        clear hb2
        go_wp2_with fail
        refine (K2.out w2 Hb2.out).mono ?_
        rintro e w3 ⟨rfl, hb3⟩
        have Hb3 := Lib.hid (Hb2.out.trans (hb3.mono Hb2.out.size))
        clear hb3
        go_wp2
        go_ret
        exact ⟨ret_bool (by rw [E.out]), Hb3.out⟩
    · have E : Hid (liesB l low high = false) := Lib.hid (lies_err (.inr (.inl z3)))
      clear z3
      go_enter Tryz.func61, Tryz.ntmps61
      go_wp2_with fail
      refine K0.out.mono ?_
      rintro e w1 ⟨rfl, hb1⟩
      have Hb1 := Lib.hid hb1
      clear hb1
      go_wp2_with fail
      refine (K1.out w1 Hb1.out).mono ?_
      rintro e w2 ⟨rfl, hb2⟩
      have Hb2 := Lib.hid (Hb1.out.trans (hb2.mono Hb1.out.size))
      clear hb2
      go_wp2
      go_ret
      exact ⟨ret_bool (by rw [E.out]), Hb2.out⟩
  · have E : Hid (liesB l low high = false) := Lib.hid (lies_err (.inl z3))
    clear z3
    go_enter Tryz.func61, Tryz.ntmps61
    go_wp2_with fail
    refine K0.out.mono ?_
    rintro e w1 ⟨rfl, hb1⟩
    have Hb1 := Lib.hid hb1
    clear hb1
    go_wp2
    go_ret
    exact ⟨ret_bool (by rw [E.out]), Hb1.out⟩

end Go.Proofs.YtajombifjofmmaaGreat

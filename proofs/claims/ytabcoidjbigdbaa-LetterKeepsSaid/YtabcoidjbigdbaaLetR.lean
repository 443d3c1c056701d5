/- slices.Equal over pairs and over intents. Condition: rows in memory. -/
import Derived.Test.YtabcoidjbigdbaaLetO
namespace Go.Proofs.Ytabcoidjbigdbaa
open Go.RowKit
open Go.Lib (strCells)

set_option maxRecDepth 100000 in
set_option maxHeartbeats 1600000 in
theorem eqIts_any (A A' : Option Addr) (n n' c c' C C' : Nat) (l m : List LIt) (w : World) (h : HasLis w C A n l) (h' : HasLis w C' A' n' m) (hn : n ≤ maxLen) (hn' : n' ≤ maxLen) :
    Calls Try.prog 56 #[.slice A n c, .slice A' n' c'] w fun e w' => e = .returned (.bool (decide (l = m))) ∧ Below w.heap.size w w' := by
  unfold maxLen at hn hn'
  have H := Lib.hid h
  have H' := Lib.hid h'
  have Hl := Lib.hid h.1
  have Hm := Lib.hid h'.1
  clear h h'
  by_cases hnn : n = n'
  · subst hnn
    go_enter Try.func56, Try.ntmps56
    go_wp2
    go_loopw [13] (fun i wr => ∃ k : Nat, k ≤ n ∧ i = .int .i64 (k : Int) ∧ Hid (l.take k = m.take k) ∧ ∃ q, wr = w.drewN q) (fun i _ => n - (intOf i).toNat)
    case atStart => exact ⟨0, by omega, rfl, Lib.hid rfl, 0, rfl⟩
    case round =>
      obtain ⟨k, hk, rfl, Ht, q, rfl⟩ := hrel
      by_cases hlt : k < n
      · obtain ⟨a, v, rfl, _, hv, c0, c1, c2⟩ := H.out.at_ hlt
        obtain ⟨b, u, rfl, _, hu, d0, d1, d2⟩ := H'.out.at_ hlt
        have hk0 : (0 : Int) ≤ (k : Int) := by omega
        have hk1 : (k : Int) < (n : Int) := by omega
        have Hv := Lib.hid hv
        have Hu := Lib.hid hu
        clear hv hu
        by_cases e : v = u
        · subst e
          go_wp2
          go_quiet (fail)
          go_wp2
          go_roundw
          case rel => exact ⟨k + 1, by omega, by go_num, Lib.hid (by rw [List.take_add_one, List.take_add_one, Ht.out, Hv.out, Hu.out]), _, rfl⟩
          case measure => simp [intOf]; omega
        · have E : Hid (decide (l = m) = false) := Lib.hid (decide_eq_false fun e' => by
            rw [e', Hu.out] at Hv
            exact e (Option.some.inj Hv.out).symm)
          obtain ⟨vs, vt, vg⟩ := v
          obtain ⟨us, ut, ug⟩ := u
          have hx : (vs ≠ us) ∨ (vs = us ∧ vt ≠ ut) ∨ (vs = us ∧ vt = ut ∧ vg ≠ ug) := by
            by_cases h1 : vs = us
            · by_cases h2 : vt = ut
              · exact .inr (.inr ⟨h1, h2, fun h3 => e (by rw [h1, h2, h3])⟩)
              · exact .inr (.inl ⟨h1, h2⟩)
            · exact .inl h1
          simp only at c0 c1 c2 d0 d1 d2
          clear e
          rcases hx with hx | ⟨rfl, hx⟩ | ⟨rfl, rfl, hx⟩
          · have hb : (vs.toList == us.toList) = false := by rw [text_eqL]; exact decide_eq_false hx
            clear hx
            go_wp2
            go_quiet (fail)
            go_wp2
            go_ret
            exact ⟨ret_bool (by rw [E.out]), below_drL (below_drL (Below.refl _ _) _) _⟩
          · have hb : (vt == ut) = false := by simpa using hx
            clear hx
            go_wp2
            go_quiet (fail)
            go_wp2
            go_ret
            exact ⟨ret_bool (by rw [E.out]), below_drL (below_drL (Below.refl _ _) _) _⟩
          · have hb : (vg == ug) = false := by simpa using hx
            clear hx
            go_wp2
            go_quiet (fail)
            go_wp2
            go_ret
            exact ⟨ret_bool (by rw [E.out]), below_drL (below_drL (Below.refl _ _) _) _⟩
      · have E : Hid (decide (l = m) = true) := Lib.hid (decide_eq_true (by
          have h1 := Ht.out
          rwa [List.take_of_length_le (by have := Hl.out; omega), List.take_of_length_le (by have := Hm.out; omega)] at h1))
        go_wp2
        go_ret
        exact ⟨ret_bool (by rw [E.out]), below_drL (Below.refl _ _) _⟩
  · have E : Hid (decide (l = m) = false) := Lib.hid (decide_eq_false fun e => hnn (by rw [← Hl.out, ← Hm.out, e]))
    have hb : ((n : Int) != (n' : Int)) = true := by simp; omega
    clear hnn
    go_enter Try.func56, Try.ntmps56
    go_wp2
    go_ret
    exact ⟨ret_bool (by rw [E.out]), Below.refl _ _⟩
set_option maxRecDepth 100000 in
set_option maxHeartbeats 1600000 in
theorem eqPrs_any (A A' : Option Addr) (n n' c c' C C' : Nat) (l m : List LPr) (w : World) (h : HasLps w C A n l) (h' : HasLps w C' A' n' m) (hn : n ≤ maxLen) (hn' : n' ≤ maxLen) :
    Calls Try.prog 55 #[.slice A n c, .slice A' n' c'] w fun e w' => e = .returned (.bool (decide (l = m))) ∧ Below w.heap.size w w' := by
  unfold maxLen at hn hn'
  have H := Lib.hid h
  have H' := Lib.hid h'
  have Hl := Lib.hid h.1
  have Hm := Lib.hid h'.1
  clear h h'
  by_cases hnn : n = n'
  · subst hnn
    go_enter Try.func55, Try.ntmps55
    go_wp2
    go_loopw [13] (fun i wr => ∃ k : Nat, k ≤ n ∧ i = .int .i64 (k : Int) ∧ Hid (l.take k = m.take k) ∧ ∃ q, wr = w.drewN q) (fun i _ => n - (intOf i).toNat)
    case atStart => exact ⟨0, by omega, rfl, Lib.hid rfl, 0, rfl⟩
    case round =>
      obtain ⟨k, hk, rfl, Ht, q, rfl⟩ := hrel
      by_cases hlt : k < n
      · obtain ⟨a, v, rfl, _, hv, c0, c1⟩ := H.out.at_ hlt
        obtain ⟨b, u, rfl, _, hu, d0, d1⟩ := H'.out.at_ hlt
        have hk0 : (0 : Int) ≤ (k : Int) := by omega
        have hk1 : (k : Int) < (n : Int) := by omega
        have Hv := Lib.hid hv
        have Hu := Lib.hid hu
        clear hv hu
        by_cases e : v = u
        · subst e
          go_wp2
          go_quiet (fail)
          go_wp2
          go_roundw
          case rel => exact ⟨k + 1, by omega, by go_num, Lib.hid (by rw [List.take_add_one, List.take_add_one, Ht.out, Hv.out, Hu.out]), _, rfl⟩
          case measure => simp [intOf]; omega
        · have E : Hid (decide (l = m) = false) := Lib.hid (decide_eq_false fun e' => by
            rw [e', Hu.out] at Hv
            exact e (Option.some.inj Hv.out).symm)
          obtain ⟨vs, vt⟩ := v
          obtain ⟨us, ut⟩ := u
          have hx : (vs ≠ us) ∨ (vs = us ∧ vt ≠ ut) := by
            by_cases h1 : vs = us
            · exact .inr ⟨h1, fun h2 => e (by rw [h1, h2])⟩
            · exact .inl h1
          simp only at c0 c1 d0 d1
          clear e
          rcases hx with hx | ⟨rfl, hx⟩
          · have hb : (vs.toList == us.toList) = false := by rw [text_eqL]; exact decide_eq_false hx
            clear hx
            go_wp2
            go_quiet (fail)
            go_wp2
            go_ret
            exact ⟨ret_bool (by rw [E.out]), below_drL (below_drL (Below.refl _ _) _) _⟩
          · have hb : (vt.toList == ut.toList) = false := by rw [text_eqL]; exact decide_eq_false hx
            clear hx
            go_wp2
            go_quiet (fail)
            go_wp2
            go_ret
            exact ⟨ret_bool (by rw [E.out]), below_drL (below_drL (Below.refl _ _) _) _⟩
      · have E : Hid (decide (l = m) = true) := Lib.hid (decide_eq_true (by
          have h1 := Ht.out
          rwa [List.take_of_length_le (by have := Hl.out; omega), List.take_of_length_le (by have := Hm.out; omega)] at h1))
        go_wp2
        go_ret
        exact ⟨ret_bool (by rw [E.out]), below_drL (Below.refl _ _) _⟩
  · have E : Hid (decide (l = m) = false) := Lib.hid (decide_eq_false fun e => hnn (by rw [← Hl.out, ← Hm.out, e]))
    have hb : ((n : Int) != (n' : Int)) = true := by simp; omega
    clear hnn
    go_enter Try.func55, Try.ntmps55
    go_wp2
    go_ret
    exact ⟨ret_bool (by rw [E.out]), Below.refl _ _⟩
end Go.Proofs.Ytabcoidjbigdbaa

/- What the document's Check, Light and Same answer of a map. Condition: the parts are in memory. -/
import Derived.Test.YtefagaiaflddaaaAtC
namespace Go.Proofs.Ytefagaiaflddaaa
open Go.RowKit
open Go.Lib (strCells compareBytes)

theorem check_bad {ep : Int} {l : List Pt} (h1 : ¬ (ep < 1 ∨ 1099511627776 < ep)) (h : ¬ RightP l) : checkT ep l = 14 := by
  rcases check_cases ep l with ⟨h2, -⟩ | ⟨-, ⟨h2, -⟩ | ⟨-, h2⟩⟩
  · exact absurd h2 h1
  · exact absurd h2 h
  · exact h2
set_option maxRecDepth 100000 in
set_option maxHeartbeats 6400000 in
theorem refCheck_any (ep : Int) (A : Option Addr) (n c C : Nat) (l : List Pt) (w : World) (h : HasPts w C A n l) (hC : C ≤ w.heap.size) (hn : n ≤ maxLen) (hs : ∀ p ∈ l, p.lo.size ≤ maxLen) :
    Calls Try.prog 18 #[.agg #[.int .i64 ep, .slice A n c]] w (CheckPost ep l w) := by
  unfold maxLen at hn hs
  have H := Lib.hid h
  have Hl := Lib.hid h.1
  have Hs := Lib.hid hs
  have HM := Lib.hid (fun wx (hx : Below (w.alloc (.cells #[.int .i64 ep, .slice A n c] 24)).heap.size (w.alloc (.cells #[.int .i64 ep, .slice A n c] 24)) wx) => map_box hx)
  have Hb := Lib.hid (below_box (w := w) (Obj.cells #[.int .i64 ep, .slice A n c] 24))
  have HA : Hid (∀ wx, Below (w.alloc (.cells #[.int .i64 ep, .slice A n c] 24)).heap.size (w.alloc (.cells #[.int .i64 ep, .slice A n c] 24)) wx → HasPts wx C A n l) := Lib.hid fun wx hx => h.belowOf (map_box hx).2.2 hC
  have hsz0 : (w.alloc (.cells #[.int .i64 ep, .slice A n c] 24)).heap.size = w.heap.size + 1 := by simp
  clear h hs
  unfold CheckPost
  by_cases h1 : ep < 1 ∨ 1099511627776 < ep
  · have E : Hid (checkT ep l = 1) := Lib.hid (if_pos h1)
    rcases h1 with h1 | h1
    · go_enter Try.func18, Try.ntmps18
      go_wp2
      go_ret
      exact ⟨by rw [E.out]; rfl, Hb.out⟩
    · have h3 : ¬ ep < 1 := by omega
      go_enter Try.func18, Try.ntmps18
      go_wp2
      go_ret
      exact ⟨by rw [E.out]; rfl, Hb.out⟩
  · have h3 : ¬ ep < 1 := fun h => h1 (.inl h)
    have h4 : ¬ 1099511627776 < ep := fun h => h1 (.inr h)
    have Hep := Lib.hid h1
    clear h1
    by_cases hn1 : n < 1
    · have E : Hid (checkT ep l = 14) := Lib.hid (check_bad Hep.out fun hr => by have := hr.one; have := Hl.out; omega)
      have h1' : (n : Int) < 1 := by omega
      go_enter Try.func18, Try.ntmps18
      go_wp2
      go_ret
      exact ⟨by rw [E.out]; rfl, Hb.out⟩
    by_cases hn8 : 8 < n
    · have E : Hid (checkT ep l = 14) := Lib.hid (check_bad Hep.out fun hr => by have := hr.most; have := Hl.out; omega)
      have h8' : ¬ (n : Int) < 1 := by omega
      have h8'' : (8 : Int) < (n : Int) := by omega
      go_enter Try.func18, Try.ntmps18
      go_wp2
      go_ret
      exact ⟨by rw [E.out]; rfl, Hb.out⟩
    have hi1 : ¬ (n : Int) < 1 := by omega
    have hi8 : ¬ (8 : Int) < (n : Int) := by omega
    have hi0 : (0 : Int) < (n : Int) := by omega
    obtain ⟨a, p0, rfl, hab, hp0, c0, -⟩ := (HA.out (w.alloc (.cells #[.int .i64 ep, .slice A n c] 24)) (Below.refl _ _)).at_ (i := 0) (by omega)
    rw [Nat.zero_mul, show a.add 0 = a from by simp [Addr.add]] at c0
    have Hp0 := Lib.hid hp0
    by_cases hz : p0.lo = ⟨#[]⟩
    · have Hhd : Hid (∀ p, l[0]? = some p → p.lb = []) := Lib.hid fun p hp => by rw [Hp0.out] at hp; injection hp with hp; subst hp; unfold Pt.lb; rw [hz]
      rw [hz] at c0
      clear hp0 hab hz
      go_enter Try.func18, Try.ntmps18
      go_wp2
      go_loopw [3, 4] (fun iv _ wr => ∃ k : Nat, k ≤ n ∧ iv = .int .i64 (k : Int) ∧ Hid (RightTo l k) ∧ Below (w.alloc (.cells #[.int .i64 ep, .slice (some a) n c] 24)).heap.size (w.alloc (.cells #[.int .i64 ep, .slice (some a) n c] 24)) wr) (fun iv _ _ => n - (intOf iv).toNat)
      case atStart => exact ⟨0, by omega, rfl, Lib.hid (rightTo_zero l), Below.refl _ _⟩
      case round =>
        obtain ⟨k, hk, rfl, Ht, hb⟩ := hrel
        have Hbk := Lib.hid hb
        obtain ⟨q0, q1, hbw⟩ := HM.out wr hb
        have hszr : w.heap.size + 1 ≤ wr.heap.size := by have := hb.size; omega
        clear hb c0
        by_cases hlt : k < n
        · obtain ⟨a', p, ea, hab, hp, d0, d1⟩ := (HA.out wr Hbk.out).at_ hlt
          injection ea with ea
          subst ea
          have Hp := Lib.hid hp
          have hps := Hs.out p (List.mem_of_getElem? hp)
          obtain ⟨plo, pn⟩ := p
          simp only at d0 d1 hps
          have hk0 : (0 : Int) ≤ (k : Int) := by omega
          have hk1 : (k : Int) < (n : Int) := by omega
          have Hno : Hid (RightP l → EachP ⟨plo, pn⟩ ∧ ∀ q, 0 < k → l[k - 1]? = some q → q.lb < plo.data.toList) := Lib.hid fun hr => right_no hr Hp.out
          have hal : Below (w.alloc (.cells #[.int .i64 ep, .slice (some a) n c] 24)).heap.size (w.alloc (.cells #[.int .i64 ep, .slice (some a) n c] 24)) (wr.alloc (.cells #[.string plo, .int .i64 pn] 46)) := Hbk.out.alloc Hbk.out.size _
          have Hal := Lib.hid hal
          obtain ⟨-, q1w, hbx⟩ := HM.out _ hal
          have Hbx := Lib.hid hbx
          clear hp hbx hbw
          by_cases hp1 : pn < 1
          · have hd1 : decide (pn < 1) = true := decide_eq_true hp1
            have E : Hid (checkT ep l = 14) := Lib.hid (check_bad Hep.out fun hr => by have := ((Hno.out hr).1).2; simp only at this; omega)
            go_wp2
            go_quiet (fail)
            go_wp2
            go_ret
            exact ⟨by rw [E.out]; rfl, below_dr Hbx.out _⟩
          by_cases hp4 : 4 < pn
          · have hd1 : decide (pn < 1) = false := decide_eq_false hp1
            have hd4 : decide (4 < pn) = true := decide_eq_true hp4
            have E : Hid (checkT ep l = 14) := Lib.hid (check_bad Hep.out fun hr => by have := ((Hno.out hr).1).2; simp only at this; omega)
            go_wp2
            go_quiet (fail)
            go_wp2
            go_ret
            exact ⟨by rw [E.out]; rfl, below_dr Hbx.out _⟩
          have hd1 : decide (pn < 1) = false := decide_eq_false hp1
          have hd4 : decide (4 < pn) = false := decide_eq_false hp4
          by_cases hlen : 100 < plo.size
          · have hl2 : decide ((100 : Int) < (plo.size : Int)) = true := decide_eq_true (by omega)
            have hl3 : decide (100 < plo.size) = true := decide_eq_true hlen
            have E : Hid (checkT ep l = 14) := Lib.hid (check_bad Hep.out fun hr => by have h9 := ((Hno.out hr).1).1; rw [lo_size] at h9; simp only at h9; omega)
            go_wp2
            go_quiet (fail)
            go_wp2
            go_ret
            exact ⟨by rw [E.out]; rfl, below_dr Hbx.out _⟩
          have hl2 : decide ((100 : Int) < (plo.size : Int)) = false := decide_eq_false (by omega)
          have hl3 : decide (100 < plo.size) = false := decide_eq_false hlen
          have He : Hid (EachP ⟨plo, pn⟩) := Lib.hid ⟨by rw [lo_size]; simp only; omega, by simp only; omega, by simp only; omega⟩
          by_cases hk00 : k = 0
          · have hkd : decide (0 < k) = false := decide_eq_false (by omega)
            have hki : decide ((0 : Int) < (k : Int)) = false := decide_eq_false (by omega)
            have Hn : Hid (RightTo l (k + 1)) := Lib.hid (rightTo_step Hp.out Ht.out He.out (fun q h9 => absurd h9 (by omega)))
            clear hk00
            go_wp2
            go_quiet (fail)
            go_wp2
            go_roundw
            case rel => exact ⟨k + 1, by omega, by go_num, Hn, below_dr Hal.out _⟩
            case measure => simp [intOf]; omega
          · have hkd : decide (0 < k) = true := decide_eq_true (by omega)
            have hki : decide ((0 : Int) < (k : Int)) = true := decide_eq_true (by omega)
            obtain ⟨j, hj⟩ : ∃ j, k - 1 = j := ⟨_, rfl⟩
            obtain ⟨a'', q, ea, hqb, hq, e0, -⟩ := (HA.out wr Hbk.out).at_ (i := j) (by omega)
            injection ea with ea
            subst ea
            have Hq : Hid (l[k - 1]? = some q) := Lib.hid (by rw [hj]; exact hq)
            obtain ⟨qlo, qn⟩ := q
            simp only at e0
            have hkj : (k : Int) - 1 = (j : Int) := by omega
            have hwj : IntKind.i64.wrap ((k : Int) - 1) = (j : Int) := by rw [hkj]; exact IntWalk.i64_in _ (by omega)
            have hwj2 : IntKind.i64.wrap (j : Int) = (j : Int) := IntWalk.i64_in _ (by omega)
            have hj0 : (0 : Int) ≤ (j : Int) := by omega
            have hj1 : (j : Int) < (n : Int) := by omega
            have Hkp : Hid (0 < k) := Lib.hid (by omega)
            have e0w : (wr.alloc (.cells #[.string plo, .int .i64 pn] 46)).cell? (a.add (j * 2)) = some (.string qlo) := ((below_box (w := wr) _).cell (p := a.add (j * 2)) (by rw [addr_block]; omega)).trans e0
            clear hq hj hk00 hqb
            rcases lt_tri plo.data.toList qlo.data.toList with hle | hle | hle
            · have hd := text_less plo qlo
              rw [decide_eq_true hle] at hd
              have E : Hid (checkT ep l = 14) := Lib.hid (check_bad Hep.out fun hr => lt_asymm' hle ((Hno.out hr).2 _ Hkp.out Hq.out))
              clear hle
              go_wp2
              go_quiet (fail)
              go_wp2
              go_ret
              exact ⟨by rw [E.out]; rfl, below_dr Hbx.out _⟩
            · have hd := text_less plo qlo
              rw [decide_eq_false (by rw [hle]; exact lt_irr _)] at hd
              have hd2 : (plo.toList == qlo.toList) = true := by rw [text_eq]; exact decide_eq_true (bytes_ext hle)
              have E : Hid (checkT ep l = 14) := Lib.hid (check_bad Hep.out fun hr => by have h9 := (Hno.out hr).2 _ Hkp.out Hq.out; unfold Pt.lb at h9; rw [hle] at h9; exact lt_irr _ h9)
              clear hle
              go_wp2
              go_quiet (fail)
              go_wp2
              go_ret
              exact ⟨by rw [E.out]; rfl, below_dr Hbx.out _⟩
            · have hd := text_less plo qlo
              rw [decide_eq_false (lt_asymm' hle)] at hd
              have hd2 : (plo.toList == qlo.toList) = false := by rw [text_eq]; exact decide_eq_false (fun h9 => by rw [h9] at hle; exact lt_irr _ hle)
              have Hn : Hid (RightTo l (k + 1)) := Lib.hid (rightTo_step Hp.out Ht.out He.out (fun q _ h9 => by rw [Hq.out] at h9; injection h9 with h9; subst h9; exact hle))
              clear hle
              go_wp2
              go_quiet (fail)
              go_wp2
              go_roundw
              case rel => exact ⟨k + 1, by omega, by go_num, Hn, below_dr Hal.out _⟩
              case measure => simp [intOf]; omega
        · obtain rfl : n = k := by omega
          have E : Hid (checkT ep l = 0) := Lib.hid (check_zero.2 ⟨by omega, by omega, rightTo_all (by rw [Hl.out]; exact Ht.out) (by have := Hl.out; omega) (by have := Hl.out; omega) Hhd.out⟩)
          have Hbw := Lib.hid hbw
          clear hbw
          go_wp2
          go_ret
          exact ⟨by rw [E.out]; rfl, Hbw.out⟩
    · have hne := text_nil hz
      have E : Hid (checkT ep l = 14) := Lib.hid (check_bad Hep.out fun hr => text_ne hz (hr.head _ Hp0.out))
      clear hp0 hab
      go_enter Try.func18, Try.ntmps18
      go_wp2
      go_ret
      exact ⟨by rw [E.out]; rfl, Hb.out⟩
end Go.Proofs.Ytefagaiaflddaaa

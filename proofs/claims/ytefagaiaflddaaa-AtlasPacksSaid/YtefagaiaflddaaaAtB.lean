/- What the small functions of atlas, and of the document, answer of a map's parts. Condition: the parts are in memory. -/
import Derived.Test.YtefagaiaflddaaaAtA
import Derived.BigQuiet
namespace Go.Proofs.Ytefagaiaflddaaa
open Go.RowKit
open Go.Lib (strCells compareBytes)

def RightTo (l : List Pt) (k : Nat) : Prop := RiseP (l.take k) ∧ ∀ p ∈ l.take k, EachP p
theorem rightTo_zero (l : List Pt) : RightTo l 0 := ⟨List.Pairwise.nil, by simp⟩
theorem rightTo_step {l : List Pt} {k : Nat} {p : Pt} (hp : l[k]? = some p) (h : RightTo l k) (he : EachP p) (hq : ∀ q, 0 < k → l[k - 1]? = some q → q.lb < p.lb) : RightTo l (k + 1) :=
  ⟨(rise_succ hp).2 ⟨h.1, hq⟩, fun q hq => by
    rw [take_snocP hp] at hq
    rcases List.mem_append.1 hq with hq | hq
    · exact h.2 q hq
    · simp at hq; subst hq; exact he⟩
theorem right_no {l : List Pt} {k : Nat} {p : Pt} (h : RightP l) (hp : l[k]? = some p) : EachP p ∧ ∀ q, 0 < k → l[k - 1]? = some q → q.lb < p.lb :=
  ⟨h.each p (List.mem_of_getElem? hp), fun q hk hq => rise_at h.rise (by omega) hq hp⟩
theorem rightTo_all {l : List Pt} (h : RightTo l l.length) (h1 : 1 ≤ l.length) (h8 : l.length ≤ 8) (h0 : ∀ p, l[0]? = some p → p.lb = []) : RightP l := by
  unfold RightTo at h
  rw [List.take_length] at h
  exact ⟨h1, h8, h0, h.1, h.2⟩
theorem lo_size (p : Pt) : p.lb.length = p.lo.size := (Lib.size_eq p.lo).symm
theorem isNode_any (n : Int) (w : World) : Calls Try.prog 31 #[.int .i64 n] w fun e w' => e = .returned (.bool (decide (1 ≤ n ∧ n ≤ 4))) ∧ w' = w := by
  obtain ⟨d, hd⟩ : ∃ d, decide (1 ≤ n ∧ n ≤ 4) = d := ⟨_, rfl⟩
  rw [hd]
  by_cases h1 : 1 ≤ n
  · by_cases h4 : n ≤ 4
    · obtain rfl : d = true := by rw [← hd]; exact decide_eq_true ⟨h1, h4⟩
      clear hd
      go_enter Try.func31, Try.ntmps31
      go_wp2
      go_ret
      exact ⟨rfl, rfl⟩
    · obtain rfl : d = false := by rw [← hd]; exact decide_eq_false fun h => h4 h.2
      clear hd
      go_enter Try.func31, Try.ntmps31
      go_wp2
      go_ret
      exact ⟨rfl, rfl⟩
  · obtain rfl : d = false := by rw [← hd]; exact decide_eq_false fun h => h1 h.1
    clear hd
    go_enter Try.func31, Try.ntmps31
    go_wp2
    go_ret
    exact ⟨rfl, rfl⟩
theorem below_dr {B : Nat} {w w' : World} (h : Below B w w') (n : Nat) : Below B w (w'.drewN n) := ⟨h.os, h.tape, h.output, h.size, h.block⟩
def RightPost (l : List Pt) (w : World) (e : Ending) (w' : World) : Prop := Below w.heap.size w w' ∧ ∃ b : Bool, e = .returned (.bool b) ∧ (b = true ↔ RightP l)
theorem quietN {P : Program} {f : FuncId} {args : Array Value} {w : World} {n : Nat} {v : Value}
    (h : Calls P f args (w.drewN n) fun e w' => e = .returned v ∧ w' = w.drewN n) : Calls P f args (w.drewN n) fun e w'' => e = .returned v ∧ ∃ m, w'' = w.drewN m :=
  Calls.quiet_of_same (h.mono fun _ _ h => ⟨h.1, h.2⟩)
set_option maxRecDepth 100000 in
set_option maxHeartbeats 3200000 in
theorem right_any (A : Option Addr) (n c C : Nat) (l : List Pt) (w : World) (h : HasPts w C A n l) (hC : C ≤ w.heap.size) (hn : n ≤ maxLen) (hs : ∀ p ∈ l, p.lo.size ≤ maxLen) :
    Calls Try.prog 32 #[.slice A n c] w (RightPost l w) := by
  unfold maxLen at hn hs
  have H := Lib.hid h
  have Hl := Lib.hid h.1
  have Hs := Lib.hid hs
  have Hnode := Lib.hid isNode_any
  clear h hs
  by_cases h1 : n < 1
  · have E : Hid (¬ RightP l) := Lib.hid fun hr => by have := hr.one; have := Hl.out; omega
    have h1' : (n : Int) < 1 := by omega
    go_enter Try.func32, Try.ntmps32
    go_wp2
    go_ret
    exact ⟨Below.refl _ _, false, rfl, by simpa using E.out⟩
  by_cases h8 : 8 < n
  · have E : Hid (¬ RightP l) := Lib.hid fun hr => by have := hr.most; have := Hl.out; omega
    have h8' : ¬ (n : Int) < 1 := by omega
    have h8'' : (8 : Int) < (n : Int) := by omega
    go_enter Try.func32, Try.ntmps32
    go_wp2
    go_ret
    exact ⟨Below.refl _ _, false, rfl, by simpa using E.out⟩
  have hn1 : ¬ (n : Int) < 1 := by omega
  have hn8 : ¬ (8 : Int) < (n : Int) := by omega
  have hn0 : (0 : Int) < (n : Int) := by omega
  obtain ⟨a, p0, rfl, hab, hp0, c0, -⟩ := H.out.at_ (i := 0) (by omega)
  rw [Nat.zero_mul, show a.add 0 = a from by simp [Addr.add]] at c0
  have Hp0 := Lib.hid hp0
  have Hc0 := Lib.hid c0
  by_cases hz : p0.lo = ⟨#[]⟩
  · have Hhd : Hid (∀ p, l[0]? = some p → p.lb = []) := Lib.hid fun p hp => by rw [Hp0.out] at hp; injection hp with hp; subst hp; unfold Pt.lb; rw [hz]
    rw [hz] at c0
    clear hp0 hab hz Hc0
    go_enter Try.func32, Try.ntmps32
    go_wp2
    go_loopw [3, 4, 22] (fun _ _ iv wr => ∃ k : Nat, k ≤ n ∧ iv = .int .i64 (k : Int) ∧ Hid (RightTo l k) ∧ Below w.heap.size w wr) (fun _ _ iv _ => n - (intOf iv).toNat)
    case atStart => exact ⟨0, by omega, rfl, Lib.hid (rightTo_zero l), Below.refl _ _⟩
    case round =>
      obtain ⟨k, hk, rfl, Ht, hb⟩ := hrel
      have Hb := Lib.hid hb
      clear hb c0
      by_cases hlt : k < n
      · obtain ⟨a', p, ea, hab, hp, d0, d1⟩ := (H.out.belowOf Hb.out hC).at_ hlt
        injection ea with ea
        subst ea
        have Hp := Lib.hid hp
        have hps := Hs.out p (List.mem_of_getElem? hp)
        obtain ⟨plo, pn⟩ := p
        simp only at d0 d1 hps
        have hk0 : (0 : Int) ≤ (k : Int) := by omega
        have hk1 : (k : Int) < (n : Int) := by omega
        have Hno : Hid (RightP l → EachP ⟨plo, pn⟩ ∧ ∀ q, 0 < k → l[k - 1]? = some q → q.lb < plo.data.toList) := Lib.hid fun hr => right_no hr Hp.out
        have hbx := below_box (w := wr) (Obj.cells #[.string plo, .int .i64 pn] 46)
        have Hbx := Lib.hid (Hb.out.trans (hbx.mono Hb.out.size))
        clear hp hbx
        by_cases hk00 : k = 0
        · have hkd : decide (0 < k) = false := decide_eq_false (by omega)
          have hki : decide ((0 : Int) < (k : Int)) = false := decide_eq_false (by omega)
          have Hk00 := Lib.hid hk00
          clear hk00
          by_cases hlen : 100 < plo.size
          · have hl2 : decide ((100 : Int) < (plo.size : Int)) = true := decide_eq_true (by omega)
            have hl3 : decide (100 < plo.size) = true := decide_eq_true hlen
            have E : Hid (¬ RightP l) := Lib.hid fun hr => by have h9 := ((Hno.out hr).1).1; rw [lo_size] at h9; simp only at h9; omega
            go_wp2
            go_quiet (fail)
            go_wp2
            go_ret
            exact ⟨below_dr Hbx.out _, false, rfl, by simpa using E.out⟩
          · have hl2 : decide ((100 : Int) < (plo.size : Int)) = false := decide_eq_false (by omega)
            have hl3 : decide (100 < plo.size) = false := decide_eq_false hlen
            by_cases hnd : 1 ≤ pn ∧ pn ≤ 4
            · have HN := Lib.hid (fun wx => Hnode.out pn wx)
              rw [decide_eq_true hnd] at HN
              have Hn : Hid (RightTo l (k + 1)) := Lib.hid (rightTo_step Hp.out Ht.out ⟨by rw [lo_size]; simp only; omega, hnd⟩ (fun q h9 => absurd h9 (by have := Hk00.out; omega)))
              go_wp2
              go_quiet (first | (go_at_call 31; refine quietN (HN.out _)))
              go_wp2
              go_roundw
              case rel => exact ⟨k + 1, by omega, by go_num, Hn, below_dr Hbx.out _⟩
              case measure => simp [intOf]; omega
            · have HN := Lib.hid (fun wx => Hnode.out pn wx)
              rw [decide_eq_false hnd] at HN
              have E : Hid (¬ RightP l) := Lib.hid fun hr => hnd ((Hno.out hr).1).2
              go_wp2
              go_quiet (first | (go_at_call 31; refine quietN (HN.out _)))
              go_wp2
              go_ret
              exact ⟨below_dr Hbx.out _, false, rfl, by simpa using E.out⟩
        · have hkd : decide (0 < k) = true := decide_eq_true (by omega)
          have hki : decide ((0 : Int) < (k : Int)) = true := decide_eq_true (by omega)
          obtain ⟨j, hj⟩ : ∃ j, k - 1 = j := ⟨_, rfl⟩
          obtain ⟨a'', q, ea, -, hq, e0, -⟩ := (H.out.belowOf Hb.out hC).at_ (i := j) (by omega)
          injection ea with ea
          subst ea
          have Hq : Hid (l[k - 1]? = some q) := Lib.hid (by rw [hj]; exact hq)
          obtain ⟨qlo, qn⟩ := q
          simp only at e0
          have hkj : (k : Int) - 1 = (j : Int) := by omega
          have hwj : IntKind.i64.wrap ((k : Int) - 1) = (j : Int) := by rw [hkj]; exact IntWalk.i64_in _ (by omega)
          have hwj2 : IntKind.i64.wrap (j : Int) = (j : Int) := IntWalk.i64_in _ (by omega)
          have hj0 : (0 : Int) ≤ (j : Int) := by omega
          have hj1 : (j : Int) < (n : Int) := by omega
          have Hkp : Hid (0 < k) := Lib.hid (by omega)
          have e0w : (wr.alloc (.cells #[.string plo, .int .i64 pn] 46)).cell? (a.add (j * 2)) = some (.string qlo) := ((below_box (w := wr) _).cell (p := a.add (j * 2)) (by rw [addr_block]; have := Hb.out.size; omega)).trans e0
          clear hq hj hk00
          rcases lt_tri plo.data.toList qlo.data.toList with hle | hle | hle
          · have hd := text_less plo qlo
            rw [decide_eq_true hle] at hd
            have E : Hid (¬ RightP l) := Lib.hid fun hr => lt_asymm' hle ((Hno.out hr).2 _ Hkp.out Hq.out)
            clear hle
            go_wp2
            go_quiet (fail)
            go_wp2
            go_ret
            exact ⟨below_dr Hbx.out _, false, rfl, by simpa using E.out⟩
          · have hd := text_less plo qlo
            rw [decide_eq_false (by rw [hle]; exact lt_irr _)] at hd
            have hd2 : (plo.toList == qlo.toList) = true := by rw [text_eq]; exact decide_eq_true (bytes_ext hle)
            have E : Hid (¬ RightP l) := Lib.hid fun hr => by have h9 := (Hno.out hr).2 _ Hkp.out Hq.out; unfold Pt.lb at h9; rw [hle] at h9; exact lt_irr _ h9
            clear hle
            go_wp2
            go_quiet (fail)
            go_wp2
            go_ret
            exact ⟨below_dr Hbx.out _, false, rfl, by simpa using E.out⟩
          · have hd := text_less plo qlo
            rw [decide_eq_false (lt_asymm' hle)] at hd
            have hd2 : (plo.toList == qlo.toList) = false := by rw [text_eq]; exact decide_eq_false (fun h9 => by rw [h9] at hle; exact lt_irr _ hle)
            have Hle : Hid (∀ q, 0 < k → l[k - 1]? = some q → q.lb < plo.data.toList) := Lib.hid fun q _ h9 => by rw [Hq.out] at h9; injection h9 with h9; subst h9; exact hle
            clear hle
            by_cases hlen : 100 < plo.size
            · have hl2 : decide ((100 : Int) < (plo.size : Int)) = true := decide_eq_true (by omega)
              have hl3 : decide (100 < plo.size) = true := decide_eq_true hlen
              have E : Hid (¬ RightP l) := Lib.hid fun hr => by have h9 := ((Hno.out hr).1).1; rw [lo_size] at h9; simp only at h9; omega
              go_wp2
              go_quiet (fail)
              go_wp2
              go_ret
              exact ⟨below_dr Hbx.out _, false, rfl, by simpa using E.out⟩
            · have hl2 : decide ((100 : Int) < (plo.size : Int)) = false := decide_eq_false (by omega)
              have hl3 : decide (100 < plo.size) = false := decide_eq_false hlen
              by_cases hnd : 1 ≤ pn ∧ pn ≤ 4
              · have HN := Lib.hid (fun wx => Hnode.out pn wx)
                rw [decide_eq_true hnd] at HN
                have Hn : Hid (RightTo l (k + 1)) := Lib.hid (rightTo_step Hp.out Ht.out ⟨by rw [lo_size]; simp only; omega, hnd⟩ Hle.out)
                go_wp2
                go_quiet (first | (go_at_call 31; refine quietN (HN.out _)))
                go_wp2
                go_roundw
                case rel => exact ⟨k + 1, by omega, by go_num, Hn, below_dr Hbx.out _⟩
                case measure => simp [intOf]; omega
              · have HN := Lib.hid (fun wx => Hnode.out pn wx)
                rw [decide_eq_false hnd] at HN
                have E : Hid (¬ RightP l) := Lib.hid fun hr => hnd ((Hno.out hr).1).2
                go_wp2
                go_quiet (first | (go_at_call 31; refine quietN (HN.out _)))
                go_wp2
                go_ret
                exact ⟨below_dr Hbx.out _, false, rfl, by simpa using E.out⟩
      · obtain rfl : n = k := by omega
        have E : Hid (RightP l) := Lib.hid (rightTo_all (by rw [Hl.out]; exact Ht.out) (by have := Hl.out; omega) (by have := Hl.out; omega) Hhd.out)
        go_wp2
        go_ret
        exact ⟨Hb.out, true, rfl, by simpa using E.out⟩
  · have hne := text_nil hz
    have E : Hid (¬ RightP l) := Lib.hid fun hr => text_ne hz (hr.head _ Hp0.out)
    clear hp0 hab
    go_enter Try.func32, Try.ntmps32
    go_wp2
    go_ret
    exact ⟨Below.refl _ _, false, rfl, by simpa using E.out⟩
end Go.Proofs.Ytefagaiaflddaaa

/- Is a map right, and which part has a text: atlas's Check, holder and Find. Condition: the parts are in memory. -/
import Derived.Test.YtefagaiaflddaaaAtB
namespace Go.Proofs.Ytefagaiaflddaaa
open Go.RowKit
open Go.Lib (strCells compareBytes)

/-- a map as an argument -/
def magg (ep : Int) (A : Option Addr) (n c : Nat) : Value := .agg #[.int .i64 ep, .slice A n c]
/-- the call's own copy of a map -/
theorem map_box {w wx : World} {ep : Int} {A : Option Addr} {n c : Nat} (h : Below (w.alloc (.cells #[.int .i64 ep, .slice A n c] 24)).heap.size (w.alloc (.cells #[.int .i64 ep, .slice A n c] 24)) wx) :
    wx.cell? ⟨w.heap.size, 0, none⟩ = some (.int .i64 ep) ∧ wx.cell? ⟨w.heap.size, 1, none⟩ = some (.slice A n c) ∧ Below w.heap.size w wx := by
  obtain ⟨h0, h1, -, -⟩ := box2_below h
  exact ⟨h0, h1, (below_box _).trans (h.mono (by simp))⟩
def CheckPost (ep : Int) (l : List Pt) (w : World) (e : Ending) (w' : World) : Prop := e = .returned (.int .i64 (checkT ep l)) ∧ Below w.heap.size w w'
set_option maxRecDepth 100000 in
set_option maxHeartbeats 3200000 in
theorem check_any (ep : Int) (A : Option Addr) (n c C : Nat) (l : List Pt) (w : World) (h : HasPts w C A n l) (hC : C ≤ w.heap.size) (hn : n ≤ maxLen) (hs : ∀ p ∈ l, p.lo.size ≤ maxLen) :
    Calls Try.prog 17 #[.agg #[.int .i64 ep, .slice A n c]] w (CheckPost ep l w) := by
  have Hr := Lib.hid (right_any A n c C l (w.alloc (.cells #[.int .i64 ep, .slice A n c] 24)) (h.alloc hC _) (by simp; omega) hn hs)
  have Hb := Lib.hid (below_box (w := w) (Obj.cells #[.int .i64 ep, .slice A n c] 24))
  clear h hs
  unfold CheckPost
  rcases check_cases ep l with ⟨h1, h2⟩ | ⟨h1, h2⟩
  · rw [h2]
    rcases h1 with h1 | h1
    · go_enter Try.func17, Try.ntmps17
      go_wp2
      go_ret
      exact ⟨rfl, Hb.out⟩
    · have h3 : ¬ ep < 1 := by omega
      go_enter Try.func17, Try.ntmps17
      go_wp2
      go_ret
      exact ⟨rfl, Hb.out⟩
  · obtain ⟨z, hz⟩ : ∃ z, checkT ep l = z := ⟨_, rfl⟩
    rw [hz]
    rw [hz] at h2
    have h3 : ¬ ep < 1 := fun h => h1 (.inl h)
    have h4 : ¬ 1099511627776 < ep := fun h => h1 (.inr h)
    have H2 := Lib.hid h2
    clear h1 h2 hz
    go_enter Try.func17, Try.ntmps17
    go_wp2_with fail
    refine Hr.out.mono ?_
    rintro e w1 ⟨hb1, b, rfl, hb⟩
    have Hb1 := Lib.hid (Hb.out.trans (hb1.mono Hb.out.size))
    cases b with
    | true =>
      obtain rfl : z = 0 := by
        rcases H2.out with ⟨-, h⟩ | ⟨h, -⟩
        · exact h
        · exact absurd (hb.1 rfl) h
      clear hb hb1 H2
      go_wp2
      go_ret
      exact ⟨rfl, Hb1.out⟩
    | false =>
      obtain rfl : z = 14 := by
        rcases H2.out with ⟨h, -⟩ | ⟨-, h⟩
        · exact absurd (hb.2 h) (by simp)
        · exact h
      clear hb hb1 H2
      go_wp2
      go_ret
      exact ⟨rfl, Hb1.out⟩
set_option maxRecDepth 100000 in
theorem holder_any (A : Option Addr) (n c C : Nat) (l : List Pt) (s : ByteArray) (w : World) (h : HasPts w C A n l) (hC : C ≤ w.heap.size) (hr : RightP l) :
    Calls Try.prog 29 #[.slice A n c, .string s] w fun e w' => e = .returned (.int .i64 (holdN l s.data.toList : Int)) ∧ Below w.heap.size w w' := by
  have H := Lib.hid h
  have Hl := Lib.hid h.1
  have Hr := Lib.hid hr
  have hn8 : n ≤ 8 := by have := hr.most; have := h.1; omega
  have hn1 : 1 ≤ n := by have := hr.one; have := h.1; omega
  have hw1 : IntKind.i64.wrap ((n : Int) - 1) = (n : Int) - 1 := IntWalk.i64_in _ (by omega)
  clear h hr
  go_enter Try.func29, Try.ntmps29
  go_wp2
  go_loopw [5] (fun iv wr => ∃ k : Nat, k < n ∧ iv = .int .i64 (k : Int) ∧ Hid (∀ j q, k < j → l[j]? = some q → s.data.toList < q.lb) ∧ Below w.heap.size w wr) (fun iv _ => (intOf iv).toNat)
  case atStart => exact ⟨n - 1, by omega, by congr 1; omega, Lib.hid fun j q hj hq => by have := (List.getElem?_eq_some_iff.1 hq).1; have := Hl.out; omega, Below.refl _ _⟩
  case round =>
    obtain ⟨k, hk, rfl, Hp, hb⟩ := hrel
    have Hb := Lib.hid hb
    clear hb
    obtain ⟨a, p, rfl, hab, hp, d0, -⟩ := (H.out.belowOf Hb.out hC).at_ hk
    have Hpp := Lib.hid hp
    obtain ⟨plo, pn⟩ := p
    simp only at d0
    have hk0 : (0 : Int) ≤ (k : Int) := by omega
    have hk1 : (k : Int) < (n : Int) := by omega
    have ht := text_less s plo
    clear hp hab
    by_cases hlt : s.data.toList < plo.data.toList
    · rw [decide_eq_true hlt] at ht
      have hkp : 0 < k := Nat.pos_of_ne_zero fun e => by
        have h9 := Hr.out.head _ (by rw [← e]; exact Hpp.out)
        unfold Pt.lb at h9
        simp only at h9
        rw [h9] at hlt
        exact not_lt_nil _ hlt
      have Hn : Hid (∀ j q, k - 1 < j → l[j]? = some q → s.data.toList < q.lb) := Lib.hid fun j q hj hq => by
        by_cases e : j = k
        · subst e
          rw [Hpp.out] at hq
          injection hq with hq
          subst hq
          exact hlt
        · exact Hp.out j q (by omega) hq
      clear hlt
      go_wp2
      go_roundw
      case rel => exact ⟨k - 1, by omega, by go_num, Hn, Hb.out⟩
      case measure => simp [intOf]; omega
    · rw [decide_eq_false hlt] at ht
      have E : Hid (holdN l s.data.toList = k) := Lib.hid (hold_eq ⟨⟨_, Hpp.out, hlt⟩, Hp.out⟩)
      clear hlt
      go_wp2
      go_ret
      exact ⟨by rw [E.out]; rfl, Hb.out⟩
set_option maxRecDepth 100000 in
set_option maxHeartbeats 3200000 in
theorem find_any (ep : Int) (A : Option Addr) (n c C : Nat) (l : List Pt) (s : ByteArray) (w : World) (h : HasPts w C A n l) (hC : C ≤ w.heap.size) (hn : n ≤ maxLen) (hs : ∀ p ∈ l, p.lo.size ≤ maxLen) :
    Calls Try.prog 11 #[.agg #[.int .i64 ep, .slice A n c], .string s] w fun e w' => e = .returned (.tuple #[.int .i64 ((findT ep l s.data.toList).1 : Int), .bool (findT ep l s.data.toList).2]) ∧ Below w.heap.size w w' := by
  have hb := below_box (w := w) (Obj.cells #[.int .i64 ep, .slice A n c] 24)
  have Hc := Lib.hid (check_any ep A n c C l (w.alloc (.cells #[.int .i64 ep, .slice A n c] 24)) (h.alloc hC _) (by simp; omega) hn hs)
  have HM := Lib.hid (fun wx (hx : Below (w.alloc (.cells #[.int .i64 ep, .slice A n c] 24)).heap.size (w.alloc (.cells #[.int .i64 ep, .slice A n c] 24)) wx) => map_box hx)
  have HH := Lib.hid (fun wx (hx : Below w.heap.size w wx) (hr : RightP l) => holder_any A n c C l s wx (h.belowOf hx hC) (by have := hx.size; omega) hr)
  clear h hs hb
  unfold CheckPost at Hc
  obtain ⟨z, hz⟩ : ∃ z, checkT ep l = z := ⟨_, rfl⟩
  have Hz := Lib.hid hz
  rw [hz] at Hc
  clear hz
  obtain ⟨fi, hfi⟩ : ∃ fi, (findT ep l s.data.toList).1 = fi := ⟨_, rfl⟩
  obtain ⟨fb, hfb⟩ : ∃ fb, (findT ep l s.data.toList).2 = fb := ⟨_, rfl⟩
  rw [hfi, hfb]
  have HF := Lib.hid (And.intro hfi hfb)
  clear hfi hfb
  unfold findT at HF
  go_enter Try.func11, Try.ntmps11
  go_wp2_with fail
  refine Hc.out.mono ?_
  rintro e w1 ⟨rfl, hb1⟩
  obtain ⟨q0, q1, hbw⟩ := HM.out w1 hb1
  have Hb1 := Lib.hid hbw
  clear hb1 hbw
  by_cases h0 : z = 0
  · subst h0
    have HR : Hid (RightP l) := Lib.hid (check_zero.1 Hz.out).2.2
    have Hh := Lib.hid (HH.out w1 Hb1.out HR.out)
    rw [if_pos Hz.out] at HF
    obtain ⟨rfl, rfl⟩ := HF.out
    clear HF
    go_wp2_with fail
    refine Hh.out.mono ?_
    rintro e w2 ⟨rfl, hb2⟩
    have Hb2 := Lib.hid (Hb1.out.trans (hb2.mono Hb1.out.size))
    clear hb2
    go_wp2
    go_ret2
    exact ⟨rfl, Hb2.out⟩
  · have h0' : (z == 0) = false := by simpa using h0
    have h0'' : (z != 0) = true := by simpa using h0
    rw [if_neg (by rw [Hz.out]; exact h0)] at HF
    obtain ⟨rfl, rfl⟩ := HF.out
    clear h0 HF
    go_wp2
    go_ret2
    exact ⟨rfl, Hb1.out⟩
end Go.Proofs.Ytefagaiaflddaaa

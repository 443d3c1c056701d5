/- Which part begins at a text, by the document. Condition: the map is in memory, and right. -/
import Derived.Test.YtnfnjhnfpcbdfaaAtI
namespace Go.Proofs.Ytnfnjhnfpcbdfaa
open Go.RowKit
open Go.Lib (strCells compareBytes)

open Classical in
/-- the part that begins at a text; -1: none -/
noncomputable def begT (l : List Pt) (s : ByteArray) : Int := if (ptAt l (holdN l s.data.toList)).lb = s.data.toList then (holdN l s.data.toList : Int) else -1
theorem beg_at {l : List Pt} {s : ByteArray} {k : Nat} {p : Pt} (h : RightP l) (hp : l[k]? = some p) (he : p.lo = s) : begT l s = (k : Int) ∧ holdN l s.data.toList = k := by
  have hk : k = holdN l s.data.toList := begins_hold h (hold_is h _) hp (by unfold Pt.lb; rw [he])
  unfold begT
  rw [← hk, ptAt_of hp]
  exact ⟨if_pos (by unfold Pt.lb; rw [he]), rfl⟩
theorem beg_none {l : List Pt} {s : ByteArray} (h : RightP l) (hno : ∀ (j : Nat) (q : Pt), l[j]? = some q → q.lo ≠ s) : begT l s = -1 := by
  unfold begT
  obtain ⟨⟨p, hp, -⟩, -⟩ := hold_is h s.data.toList
  rw [ptAt_of hp]
  exact if_neg fun e => hno (holdN l s.data.toList) p hp (bytes_ext e)
set_option maxRecDepth 100000 in
set_option maxHeartbeats 3200000 in
theorem refBegins_any (ep : Int) (A : Option Addr) (n c C : Nat) (l : List Pt) (s : ByteArray) (w : World) (h : HasPts w C A n l) (hC : C ≤ w.heap.size) (hr : RightP l) :
    Calls Try.prog 52 #[.agg #[.int .i64 ep, .slice A n c], .string s] w fun e w' => e = .returned (.int .i64 (begT l s)) ∧ Below w.heap.size w w' := by
  have HM := Lib.hid (fun wx (hx : Below (w.alloc (.cells #[.int .i64 ep, .slice A n c] 24)).heap.size (w.alloc (.cells #[.int .i64 ep, .slice A n c] 24)) wx) => map_box hx)
  have H : Hid (∀ wx, Below (w.alloc (.cells #[.int .i64 ep, .slice A n c] 24)).heap.size (w.alloc (.cells #[.int .i64 ep, .slice A n c] 24)) wx → HasPts wx C A n l) := Lib.hid fun wx hx => h.belowOf (map_box hx).2.2 hC
  have Hl := Lib.hid h.1
  have Hr := Lib.hid hr
  have hn8 : n ≤ 8 := by have := hr.most; have := h.1; omega
  clear h hr
  go_enter Try.func52, Try.ntmps52
  go_wp2
  go_loopw [5] (fun iv wr => ∃ k : Nat, k ≤ n ∧ iv = .int .i64 (k : Int) ∧ Hid (∀ j q, j < k → l[j]? = some q → q.lo ≠ s) ∧ Below (w.alloc (.cells #[.int .i64 ep, .slice A n c] 24)).heap.size (w.alloc (.cells #[.int .i64 ep, .slice A n c] 24)) wr) (fun iv _ => n - (intOf iv).toNat)
  case atStart => exact ⟨0, by omega, rfl, Lib.hid fun j q hj => by omega, Below.refl _ _⟩
  case round =>
    obtain ⟨k, hk, rfl, Hp, hb⟩ := hrel
    have Hb := Lib.hid hb
    obtain ⟨q0, q1, hbw⟩ := HM.out wr hb
    have HW := Lib.hid hbw
    clear hb hbw
    by_cases hkn : k < n
    · obtain ⟨a, p, rfl, hab, hp, d0, -⟩ := (H.out wr Hb.out).at_ hkn
      have Hpp := Lib.hid hp
      obtain ⟨plo, pn⟩ := p
      simp only at d0
      have hk0 : (0 : Int) ≤ (k : Int) := by omega
      have hk1 : (k : Int) < (n : Int) := by omega
      have ht := text_eq plo s
      clear hp hab
      by_cases he : plo = s
      · rw [decide_eq_true he] at ht
        have E : Hid (begT l s = (k : Int)) := Lib.hid (beg_at Hr.out Hpp.out he).1
        clear he
        go_wp2
        go_ret
        exact ⟨by rw [E.out]; rfl, HW.out⟩
      · rw [decide_eq_false he] at ht
        have Hn : Hid (∀ j q, j < k + 1 → l[j]? = some q → q.lo ≠ s) := Lib.hid fun j q hj hq => by
          by_cases e : j = k
          · subst e
            rw [Hpp.out] at hq
            injection hq with hq
            subst hq
            exact he
          · exact Hp.out j q (by omega) hq
        clear he
        go_wp2
        go_roundw
        case rel => exact ⟨k + 1, by omega, by go_num, Hn, Hb.out⟩
        case measure => simp [intOf]; omega
    · obtain rfl : n = k := by omega
      have E : Hid (begT l s = -1) := Lib.hid (beg_none Hr.out fun j q hq => Hp.out j q (by have := (List.getElem?_eq_some_iff.1 hq).1; have := Hl.out; omega) hq)
      go_wp2
      go_ret
      exact ⟨by rw [E.out]; rfl, HW.out⟩
end Go.Proofs.Ytnfnjhnfpcbdfaa

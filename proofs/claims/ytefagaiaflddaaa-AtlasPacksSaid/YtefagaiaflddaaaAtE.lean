/- Is a map light, and are two the same (the document's). Condition: the parts are in memory. -/
import Derived.Test.YtefagaiaflddaaaAtD
namespace Go.Proofs.Ytefagaiaflddaaa
open Go.RowKit
open Go.Lib (strCells compareBytes)

def LightM (l : List Pt) : Prop := l.length < 50 ∧ ∀ p ∈ l, p.lo.size ≤ 300
def LightPostM (l : List Pt) (w : World) (e : Ending) (w' : World) : Prop := ∃ b : Bool, e = .returned (.bool b) ∧ (b = true → LightM l) ∧ Below w.heap.size w w'
set_option maxRecDepth 100000 in
set_option maxHeartbeats 3200000 in
theorem light12_any (ep : Int) (A : Option Addr) (n c C : Nat) (l : List Pt) (w : World) (h : HasPts w C A n l) (hC : C ≤ w.heap.size) (hn : n ≤ maxLen) (hs : ∀ p ∈ l, p.lo.size ≤ maxLen) :
    Calls Try.prog 10 #[.agg #[.int .i64 ep, .slice A n c]] w (LightPostM l w) := by
  unfold maxLen at hn hs
  have H := Lib.hid h
  have Hl := Lib.hid h.1
  have Hs := Lib.hid hs
  have HM := Lib.hid (fun wx (hx : Below (w.alloc (.cells #[.int .i64 ep, .slice A n c] 24)).heap.size (w.alloc (.cells #[.int .i64 ep, .slice A n c] 24)) wx) => map_box hx)
  have HA : Hid (∀ wx, Below (w.alloc (.cells #[.int .i64 ep, .slice A n c] 24)).heap.size (w.alloc (.cells #[.int .i64 ep, .slice A n c] 24)) wx → HasPts wx C A n l) := Lib.hid fun wx hx => h.belowOf (map_box hx).2.2 hC
  clear h hs
  go_enter Try.func10, Try.ntmps10
  go_wp2
  go_loopw [3] (fun iv wr => ∃ k : Nat, k ≤ n ∧ k ≤ 50 ∧ iv = .int .i64 (k : Int) ∧ Hid (∀ p ∈ l.take k, p.lo.size ≤ 300) ∧ Below (w.alloc (.cells #[.int .i64 ep, .slice A n c] 24)).heap.size (w.alloc (.cells #[.int .i64 ep, .slice A n c] 24)) wr) (fun iv _ => n - (intOf iv).toNat)
  case atStart => exact ⟨0, by omega, by omega, rfl, Lib.hid (by simp), Below.refl _ _⟩
  case round =>
    obtain ⟨k, hk, hk5, rfl, Hp, hb⟩ := hrel
    have Hbk := Lib.hid hb
    obtain ⟨q0, q1, hbw⟩ := HM.out wr hb
    have HBW := Lib.hid hbw
    clear hb hbw
    by_cases hlt : k < n
    · have hk1 : (k : Int) < (n : Int) := by omega
      by_cases h50 : k < 50
      · have hk2 : (k : Int) < 50 := by omega
        obtain ⟨a, p, rfl, hab, hp, d0, -⟩ := (HA.out wr Hbk.out).at_ hlt
        have Hpk := Lib.hid hp
        have hps := Hs.out p (List.mem_of_getElem? hp)
        obtain ⟨plo, pn⟩ := p
        simp only at d0 hps
        have hk0 : (0 : Int) ≤ (k : Int) := by omega
        clear hp hab
        by_cases hl3 : 300 < plo.size
        · have hl4 : (300 : Int) < (plo.size : Int) := by omega
          go_wp2
          go_ret
          exact ⟨false, rfl, by simp, HBW.out⟩
        · have hl4 : ¬ (300 : Int) < (plo.size : Int) := by omega
          have Hn : Hid (∀ p ∈ l.take (k + 1), p.lo.size ≤ 300) := Lib.hid (by
            rw [take_snocP Hpk.out]
            intro x hx
            rcases List.mem_append.1 hx with hx | hx
            · exact Hp.out x hx
            · simp at hx; subst hx; simp only; omega)
          go_wp2
          go_roundw
          case rel => exact ⟨k + 1, by omega, by omega, by go_num, Hn, Hbk.out⟩
          case measure => simp [intOf]; omega
      · have hk2 : ¬ (k : Int) < 50 := by omega
        have hn5 : ¬ (n : Int) < 50 := by omega
        go_wp2
        go_ret
        exact ⟨false, rfl, by simp, HBW.out⟩
    · obtain rfl : n = k := by omega
      by_cases hn5 : n < 50
      · have hn6 : (n : Int) < 50 := by omega
        have E : Hid (LightM l) := Lib.hid ⟨by have := Hl.out; omega, by have h9 := Hp.out; rwa [List.take_of_length_le (by have := Hl.out; omega)] at h9⟩
        go_wp2
        go_ret
        exact ⟨true, rfl, fun _ => E.out, HBW.out⟩
      · have hn6 : ¬ (n : Int) < 50 := by omega
        go_wp2
        go_ret
        exact ⟨false, rfl, by simp, HBW.out⟩
set_option maxRecDepth 100000 in
set_option maxHeartbeats 3200000 in
theorem sameM_any (ep : Int) (A A' : Option Addr) (n c c' C C' : Nat) (l : List Pt) (w : World) (h : HasPts w C A n l) (h' : HasPts w C' A' n l) (hC : C ≤ w.heap.size) (hC' : C' ≤ w.heap.size) (hn : n ≤ maxLen) :
    Calls Try.prog 19 #[.agg #[.int .i64 ep, .slice A n c], .agg #[.int .i64 ep, .slice A' n c']] w fun e w' => e = .returned (.bool true) ∧ Below w.heap.size w w' := by
  unfold maxLen at hn
  have hb0 := below_box (w := w) (Obj.cells #[.int .i64 ep, .slice A n c] 24)
  have HM : Hid (∀ wx, Below ((w.alloc (.cells #[.int .i64 ep, .slice A n c] 24)).alloc (.cells #[.int .i64 ep, .slice A' n c'] 24)).heap.size ((w.alloc (.cells #[.int .i64 ep, .slice A n c] 24)).alloc (.cells #[.int .i64 ep, .slice A' n c'] 24)) wx → (wx.cell? ⟨w.heap.size, 0, none⟩ = some (.int .i64 ep) ∧ wx.cell? ⟨w.heap.size, 1, none⟩ = some (.slice A n c)) ∧ (wx.cell? ⟨w.heap.size + 1, 0, none⟩ = some (.int .i64 ep) ∧ wx.cell? ⟨w.heap.size + 1, 1, none⟩ = some (.slice A' n c')) ∧ Below w.heap.size w wx) := Lib.hid fun wx hx => by
    have h1 := (Box.made w 24 #[.int .i64 ep, .slice A n c]).alloc (.cells #[.int .i64 ep, .slice A' n c'] 24)
    have h2 := Box.made (w.alloc (.cells #[.int .i64 ep, .slice A n c] 24)) 24 #[.int .i64 ep, .slice A' n c']
    have h3 := h1.below hx (by simp; omega)
    have h4 := h2.below hx (by simp)
    rw [World.size_alloc] at h4
    exact ⟨⟨h3.cell 0, h3.cell 1⟩, ⟨h4.cell 0, h4.cell 1⟩, (hb0.trans ((below_box _).mono (by simp))).trans (hx.mono (by simp; omega))⟩
  have HA : Hid (∀ wx, Below ((w.alloc (.cells #[.int .i64 ep, .slice A n c] 24)).alloc (.cells #[.int .i64 ep, .slice A' n c'] 24)).heap.size ((w.alloc (.cells #[.int .i64 ep, .slice A n c] 24)).alloc (.cells #[.int .i64 ep, .slice A' n c'] 24)) wx → HasPts wx C A n l ∧ HasPts wx C' A' n l) := Lib.hid fun wx hx => ⟨h.belowOf (HM.out wx hx).2.2 hC, h'.belowOf (HM.out wx hx).2.2 hC'⟩
  clear h h' hb0
  go_enter Try.func19, Try.ntmps19
  go_wp2
  go_loopw [5] (fun iv wr => ∃ k : Nat, k ≤ n ∧ iv = .int .i64 (k : Int) ∧ Below ((w.alloc (.cells #[.int .i64 ep, .slice A n c] 24)).alloc (.cells #[.int .i64 ep, .slice A' n c'] 24)).heap.size ((w.alloc (.cells #[.int .i64 ep, .slice A n c] 24)).alloc (.cells #[.int .i64 ep, .slice A' n c'] 24)) wr) (fun iv _ => n - (intOf iv).toNat)
  case atStart => exact ⟨0, by omega, rfl, Below.refl _ _⟩
  case round =>
    obtain ⟨k, hk, rfl, hb⟩ := hrel
    have Hbk := Lib.hid hb
    obtain ⟨⟨q0, q1⟩, ⟨q2, q3⟩, hbw⟩ := HM.out wr hb
    have HBW := Lib.hid hbw
    clear hb hbw
    by_cases hlt : k < n
    · obtain ⟨a, v, rfl, _, hv, c0, c1⟩ := (HA.out wr Hbk.out).1.at_ hlt
      obtain ⟨b, u, rfl, _, hu, d0, d1⟩ := (HA.out wr Hbk.out).2.at_ hlt
      have e : u = v := by rw [hv] at hu; injection hu with h; exact h.symm
      subst e
      clear hv hu
      have hk0 : (0 : Int) ≤ (k : Int) := by omega
      have hk1 : (k : Int) < (n : Int) := by omega
      go_wp2
      go_quiet (fail)
      go_wp2
      go_roundw
      case rel => exact ⟨k + 1, by omega, by go_num, below_dr Hbk.out _⟩
      case measure => simp [intOf]; omega
    · go_wp2
      go_ret
      exact ⟨rfl, HBW.out⟩
end Go.Proofs.Ytefagaiaflddaaa

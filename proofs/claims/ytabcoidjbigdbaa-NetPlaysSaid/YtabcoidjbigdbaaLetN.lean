/- Light: is a letter light (the document's). Condition: pairs and intents are in memory. -/
import Derived.Test.YtabcoidjbigdbaaLetA
import Derived.BigRegion
namespace Go.Proofs.Ytabcoidjbigdbaa
open Go.RowKit
open Go.Lib (strCells)

theorem below_drL {B : Nat} {w wr : World} (h : Below B w wr) (q : Nat) : Below B w (wr.drewN q) := ⟨h.os, h.tape, h.output, h.size, h.block⟩
def LightL (L : Let) : Prop := L.ps.length ≤ 300 ∧ L.is.length ≤ 300
def LightPostL (L : Let) (w : World) (e : Ending) (w' : World) : Prop := ∃ b : Bool, e = .returned (.bool b) ∧ (b = true → LightL L) ∧ Below w.heap.size w w'
set_option maxRecDepth 100000 in
set_option maxHeartbeats 6400000 in
theorem light13_any (L : Let) (Ap : Option Addr) (np cp : Nat) (Ai : Option Addr) (ni ci : Nat) (C : Nat) (w : World) (hP : HasLps w C Ap np L.ps) (hI : HasLis w C Ai ni L.is) (hC : C ≤ w.heap.size) (hn : np ≤ maxLen ∧ ni ≤ maxLen) (ht : ∀ s ∈ L.txts, s.size ≤ 140737488355328) (htp : ∀ p ∈ L.ps, p.k.size ≤ 140737488355328 ∧ p.v.size ≤ 140737488355328) (hti : ∀ p ∈ L.is, p.e.size ≤ 140737488355328) :
    Calls Try.prog 11 #[.agg #[.int .i64 L.kind, .int .i64 L.frm, .int .i64 L.to, .int .i64 L.a, .int .i64 L.b, .int .i64 L.c, .int .i64 L.d, .string L.s, .string L.t, .slice Ap np cp, .slice Ai ni ci, .int .i64 L.code, .bool L.yes, .string L.body]] w (LightPostL L w) := by
  unfold maxLen at hn
  obtain ⟨hn1, hn2⟩ := hn
  have HP := Lib.hid hP
  have HI := Lib.hid hI
  have Hlp := Lib.hid hP.1
  have Hli := Lib.hid hI.1
  have Htp := Lib.hid htp
  have Hti := Lib.hid hti
  have HM : Hid (∀ wx, Below (w.alloc (.cells #[.int .i64 L.kind, .int .i64 L.frm, .int .i64 L.to, .int .i64 L.a, .int .i64 L.b, .int .i64 L.c, .int .i64 L.d, .string L.s, .string L.t, .slice Ap np cp, .slice Ai ni ci, .int .i64 L.code, .bool L.yes, .string L.body] 26)).heap.size (w.alloc (.cells #[.int .i64 L.kind, .int .i64 L.frm, .int .i64 L.to, .int .i64 L.a, .int .i64 L.b, .int .i64 L.c, .int .i64 L.d, .string L.s, .string L.t, .slice Ap np cp, .slice Ai ni ci, .int .i64 L.code, .bool L.yes, .string L.body] 26)) wx → _) := Lib.hid (fun wx (hx : Below (w.alloc (.cells #[.int .i64 L.kind, .int .i64 L.frm, .int .i64 L.to, .int .i64 L.a, .int .i64 L.b, .int .i64 L.c, .int .i64 L.d, .string L.s, .string L.t, .slice Ap np cp, .slice Ai ni ci, .int .i64 L.code, .bool L.yes, .string L.body] 26)).heap.size (w.alloc (.cells #[.int .i64 L.kind, .int .i64 L.frm, .int .i64 L.to, .int .i64 L.a, .int .i64 L.b, .int .i64 L.c, .int .i64 L.d, .string L.s, .string L.t, .slice Ap np cp, .slice Ai ni ci, .int .i64 L.code, .bool L.yes, .string L.body] 26)) wx) => And.intro (let_cells (let_box hx).1) (let_box hx).2)
  have HA : Hid (∀ wx, Below (w.alloc (.cells #[.int .i64 L.kind, .int .i64 L.frm, .int .i64 L.to, .int .i64 L.a, .int .i64 L.b, .int .i64 L.c, .int .i64 L.d, .string L.s, .string L.t, .slice Ap np cp, .slice Ai ni ci, .int .i64 L.code, .bool L.yes, .string L.body] 26)).heap.size (w.alloc (.cells #[.int .i64 L.kind, .int .i64 L.frm, .int .i64 L.to, .int .i64 L.a, .int .i64 L.b, .int .i64 L.c, .int .i64 L.d, .string L.s, .string L.t, .slice Ap np cp, .slice Ai ni ci, .int .i64 L.code, .bool L.yes, .string L.body] 26)) wx → HasLps wx C Ap np L.ps ∧ HasLis wx C Ai ni L.is) := Lib.hid fun wx hx => ⟨hP.belowOf (let_box hx).2 hC, hI.belowOf (let_box hx).2 hC⟩
  have s7 : L.s.size ≤ 140737488355328 := ht _ (by simp [Let.txts])
  have s8 : L.t.size ≤ 140737488355328 := ht _ (by simp [Let.txts])
  have s9 : L.body.size ≤ 140737488355328 := ht _ (by simp [Let.txts])
  obtain ⟨x, hx⟩ : ∃ x, min L.s.size 100000 = x := ⟨_, rfl⟩
  obtain ⟨y, hy⟩ : ∃ y, min L.t.size 100000 = y := ⟨_, rfl⟩
  obtain ⟨z, hz⟩ : ∃ z, min L.body.size 100000 = z := ⟨_, rfl⟩
  have hxs : (if (100000 : Int) < (L.s.size : Int) then 100000 else (L.s.size : Int)) = (x : Int) := by split <;> omega
  have hys : (if (100000 : Int) < (L.t.size : Int) then 100000 else (L.t.size : Int)) = (y : Int) := by split <;> omega
  have hzs : (if (100000 : Int) < (L.body.size : Int) then 100000 else (L.body.size : Int)) = (z : Int) := by split <;> omega
  have hx4 : x ≤ 100000 := by omega
  have hy4 : y ≤ 100000 := by omega
  have hz4 : z ≤ 100000 := by omega
  clear hx hy hz ht htp hti hP hI s7 s8 s9
  have HB0 : Hid (Below (w.alloc (.cells #[.int .i64 L.kind, .int .i64 L.frm, .int .i64 L.to, .int .i64 L.a, .int .i64 L.b, .int .i64 L.c, .int .i64 L.d, .string L.s, .string L.t, .slice Ap np cp, .slice Ai ni ci, .int .i64 L.code, .bool L.yes, .string L.body] 26)).heap.size (w.alloc (.cells #[.int .i64 L.kind, .int .i64 L.frm, .int .i64 L.to, .int .i64 L.a, .int .i64 L.b, .int .i64 L.c, .int .i64 L.d, .string L.s, .string L.t, .slice Ap np cp, .slice Ai ni ci, .int .i64 L.code, .bool L.yes, .string L.body] 26)) (w.alloc (.cells #[.int .i64 L.kind, .int .i64 L.frm, .int .i64 L.to, .int .i64 L.a, .int .i64 L.b, .int .i64 L.c, .int .i64 L.d, .string L.s, .string L.t, .slice Ap np cp, .slice Ai ni ci, .int .i64 L.code, .bool L.yes, .string L.body] 26))) := Lib.hid (Below.refl _ _)
  by_cases h1 : 300 < np
  · have h1' : (300 : Int) < (np : Int) := by omega
    go_enter Try.func11, Try.ntmps11
    go_wp2
    go_ret
    exact ⟨false, rfl, by simp, (HM.out _ HB0.out).2⟩
  by_cases h2 : 300 < ni
  · have h1' : ¬ (300 : Int) < (np : Int) := by omega
    have h2' : (300 : Int) < (ni : Int) := by omega
    go_enter Try.func11, Try.ntmps11
    go_wp2
    go_ret
    exact ⟨false, rfl, by simp, (HM.out _ HB0.out).2⟩
  have h1' : ¬ (300 : Int) < (np : Int) := by omega
  have h2' : ¬ (300 : Int) < (ni : Int) := by omega
  have E : Hid (LightL L) := Lib.hid ⟨by have := Hlp.out; omega, by have := Hli.out; omega⟩
  go_enter Try.func11, Try.ntmps11
  go_wp2
  go_loopw [3, 4] (fun t i wr => ∃ (k s : Nat), k ≤ np ∧ s ≤ 400000 ∧ i = .int .i64 (k : Int) ∧ t = .int .i64 (s : Int) ∧ Below (w.alloc (.cells #[.int .i64 L.kind, .int .i64 L.frm, .int .i64 L.to, .int .i64 L.a, .int .i64 L.b, .int .i64 L.c, .int .i64 L.d, .string L.s, .string L.t, .slice Ap np cp, .slice Ai ni ci, .int .i64 L.code, .bool L.yes, .string L.body] 26)).heap.size (w.alloc (.cells #[.int .i64 L.kind, .int .i64 L.frm, .int .i64 L.to, .int .i64 L.a, .int .i64 L.b, .int .i64 L.c, .int .i64 L.d, .string L.s, .string L.t, .slice Ap np cp, .slice Ai ni ci, .int .i64 L.code, .bool L.yes, .string L.body] 26)) wr) (fun _ i _ => np - (intOf i).toNat)
  case atStart => exact ⟨0, x + y + z, by omega, by omega, rfl, by go_num, Below.refl _ _⟩
  case round =>
    obtain ⟨k, s, hk, hs15, rfl, rfl, hb⟩ := hrel
    have Hbk := Lib.hid hb
    obtain ⟨⟨-, -, ⟨q0, q1⟩, -⟩, -⟩ := HM.out wr hb
    clear hb
    by_cases hlt : k < np
    · have hk0 : (0 : Int) ≤ (k : Int) := by omega
      have hk1 : (k : Int) < (np : Int) := by omega
      by_cases h4 : s ≤ 100000
      · obtain ⟨a, v, rfl, _, hv, c0, c1⟩ := (HA.out wr Hbk.out).1.at_ hlt
        have hvs := Htp.out v (List.mem_of_getElem? hv)
        obtain ⟨x1, hx1⟩ : ∃ x, min v.k.size 100001 = x := ⟨_, rfl⟩
        obtain ⟨y1, hy1⟩ : ∃ y, min v.v.size 100001 = y := ⟨_, rfl⟩
        have hx1s : (if (100001 : Int) < (v.k.size : Int) then 100001 else (v.k.size : Int)) = (x1 : Int) := by split <;> omega
        have hy1s : (if (100001 : Int) < (v.v.size : Int) then 100001 else (v.v.size : Int)) = (y1 : Int) := by split <;> omega
        have hx14 : x1 ≤ 100001 := by omega
        have hy14 : y1 ≤ 100001 := by omega
        clear hv hx1 hy1 hvs
        go_wp2
        go_region
        all_goals
          go_wp2
          go_roundw
          case rel => exact ⟨k + 1, s + x1 + y1, by omega, by omega, by go_num, by go_num, below_drL Hbk.out _⟩
          case measure => simp [intOf]; omega
      · have h5 : ¬ (s : Int) ≤ 100000 := by omega
        go_wp2
        go_loopw [3, 5] (fun t i wr => ∃ (k s : Nat), k ≤ ni ∧ s ≤ 400000 ∧ i = .int .i64 (k : Int) ∧ t = .int .i64 (s : Int) ∧ Below (w.alloc (.cells #[.int .i64 L.kind, .int .i64 L.frm, .int .i64 L.to, .int .i64 L.a, .int .i64 L.b, .int .i64 L.c, .int .i64 L.d, .string L.s, .string L.t, .slice Ap np cp, .slice Ai ni ci, .int .i64 L.code, .bool L.yes, .string L.body] 26)).heap.size (w.alloc (.cells #[.int .i64 L.kind, .int .i64 L.frm, .int .i64 L.to, .int .i64 L.a, .int .i64 L.b, .int .i64 L.c, .int .i64 L.d, .string L.s, .string L.t, .slice Ap np cp, .slice Ai ni ci, .int .i64 L.code, .bool L.yes, .string L.body] 26)) wr) (fun _ i _ => ni - (intOf i).toNat)
        case atStart => exact ⟨0, s, by omega, by omega, rfl, rfl, Hbk.out⟩
        case round =>
          obtain ⟨k2, s2, hk2, hs25, rfl, rfl, hb2⟩ := hrel
          have Hbk2 := Lib.hid hb2
          obtain ⟨⟨-, -, ⟨e0, e1⟩, -⟩, hbw⟩ := HM.out _ hb2
          have HBW := Lib.hid hbw
          clear hb2 hbw
          by_cases hlt2 : k2 < ni
          · have hk20 : (0 : Int) ≤ (k2 : Int) := by omega
            have hk21 : (k2 : Int) < (ni : Int) := by omega
            by_cases h6 : s2 ≤ 100000
            · obtain ⟨a2, v2, rfl, _, hv2, d0, d1, d2⟩ := (HA.out _ Hbk2.out).2.at_ hlt2
              have hvs2 := Hti.out v2 (List.mem_of_getElem? hv2)
              obtain ⟨x2, hx2⟩ : ∃ x, min v2.e.size 100001 = x := ⟨_, rfl⟩
              have hx2s : (if (100001 : Int) < (v2.e.size : Int) then 100001 else (v2.e.size : Int)) = (x2 : Int) := by split <;> omega
              have hx24 : x2 ≤ 100001 := by omega
              clear hv2 hx2 hvs2 d1 d2
              go_wp2
              go_roundw
              case rel => exact ⟨k2 + 1, s2 + x2, by omega, by omega, by go_num, by go_num, Hbk2.out⟩
              case measure => simp [intOf]; omega
            · have h7 : ¬ (s2 : Int) ≤ 100000 := by omega
              go_wp2
              go_ret
              exact ⟨_, rfl, fun _ => E.out, HBW.out⟩
          · obtain rfl : k2 = ni := by omega
            go_wp2
            go_ret
            exact ⟨_, rfl, fun _ => E.out, HBW.out⟩
    · obtain rfl : np = k := by omega
      go_wp2
      go_loopw [3, 5] (fun t i wr => ∃ (k s : Nat), k ≤ ni ∧ s ≤ 400000 ∧ i = .int .i64 (k : Int) ∧ t = .int .i64 (s : Int) ∧ Below (w.alloc (.cells #[.int .i64 L.kind, .int .i64 L.frm, .int .i64 L.to, .int .i64 L.a, .int .i64 L.b, .int .i64 L.c, .int .i64 L.d, .string L.s, .string L.t, .slice Ap np cp, .slice Ai ni ci, .int .i64 L.code, .bool L.yes, .string L.body] 26)).heap.size (w.alloc (.cells #[.int .i64 L.kind, .int .i64 L.frm, .int .i64 L.to, .int .i64 L.a, .int .i64 L.b, .int .i64 L.c, .int .i64 L.d, .string L.s, .string L.t, .slice Ap np cp, .slice Ai ni ci, .int .i64 L.code, .bool L.yes, .string L.body] 26)) wr) (fun _ i _ => ni - (intOf i).toNat)
      case atStart => exact ⟨0, s, by omega, by omega, rfl, rfl, Hbk.out⟩
      case round =>
        obtain ⟨k2, s2, hk2, hs25, rfl, rfl, hb2⟩ := hrel
        have Hbk2 := Lib.hid hb2
        obtain ⟨⟨-, -, ⟨e0, e1⟩, -⟩, hbw⟩ := HM.out _ hb2
        have HBW := Lib.hid hbw
        clear hb2 hbw
        by_cases hlt2 : k2 < ni
        · have hk20 : (0 : Int) ≤ (k2 : Int) := by omega
          have hk21 : (k2 : Int) < (ni : Int) := by omega
          by_cases h6 : s2 ≤ 100000
          · obtain ⟨a2, v2, rfl, _, hv2, d0, d1, d2⟩ := (HA.out _ Hbk2.out).2.at_ hlt2
            have hvs2 := Hti.out v2 (List.mem_of_getElem? hv2)
            obtain ⟨x2, hx2⟩ : ∃ x, min v2.e.size 100001 = x := ⟨_, rfl⟩
            have hx2s : (if (100001 : Int) < (v2.e.size : Int) then 100001 else (v2.e.size : Int)) = (x2 : Int) := by split <;> omega
            have hx24 : x2 ≤ 100001 := by omega
            clear hv2 hx2 hvs2 d1 d2
            go_wp2
            go_roundw
            case rel => exact ⟨k2 + 1, s2 + x2, by omega, by omega, by go_num, by go_num, Hbk2.out⟩
            case measure => simp [intOf]; omega
          · have h7 : ¬ (s2 : Int) ≤ 100000 := by omega
            go_wp2
            go_ret
            exact ⟨_, rfl, fun _ => E.out, HBW.out⟩
        · obtain rfl : k2 = ni := by omega
          go_wp2
          go_ret
          exact ⟨_, rfl, fun _ => E.out, HBW.out⟩
end Go.Proofs.Ytabcoidjbigdbaa

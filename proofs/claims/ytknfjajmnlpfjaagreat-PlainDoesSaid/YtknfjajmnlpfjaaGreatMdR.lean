/- Entry of the program gives what the plain text (SpecRec) gives. Condition: the row is in memory; the key is a text. -/
import Derived.Test.YtknfjajmnlpfjaaGreatTupI
import Derived.Test.YtknfjajmnlpfjaaGreatSpecCut
import Derived.Deep.RegionHeld3
import Derived.Test.YtknfjajmnlpfjaaGreatRecE
namespace Go.Proofs.YtknfjajmnlpfjaaGreat
open Go.RowKit
open Go.Lib (strCells compareBytes)

theorem decide_sgn (a b : Int) : decide (a < b) = decide (sgn a b = -1) := by
  unfold sgn
  by_cases h : a < b
  · simp [h]
  · by_cases h' : b < a
    · simp [h, h']
    · simp [h, h']
theorem below_good {v u : TVal} (hv : goodV v = true) (hu : goodV u = true) : (if v.k ≠ u.k then decide (v.k < u.k) else if v.k = 1 then decide (v.n < u.n) else Op.bytesLess v.s.toList u.s.toList) = decide (cmpV v u = -1) := by
  rw [goodV_iff] at hv hu
  rw [Lib.toList_data, Lib.toList_data, bytesLess_cmp, decide_sgn, decide_sgn]
  unfold cmpV
  simp only [TVal.t] at *
  by_cases hk : v.k = u.k
  · simp only [hk, ne_eq, not_true, if_false]
    rcases hv with ⟨h1, h2, h3⟩ | ⟨h1, h3⟩ | ⟨h1, h2, h3⟩ <;> rcases hu with ⟨g1, g2, g3⟩ | ⟨g1, g3⟩ | ⟨g1, g2, g3⟩ <;> first | (exfalso; omega) | skip
    · simp [g1, h2, g2]
    · rw [if_pos g1]
      by_cases hn : v.n = u.n
      · simp [hn, h3, g3, sgn, compareBytes]
      · simp [hn]
    · simp [g1, h2, g2]
  · simp [hk]
theorem refBelow_good (v u : TVal) (w : World) (hv : goodV v = true) (hu : goodV u = true) :
    Calls Tryz.prog 121 #[vagg v, vagg u] w fun e w' => e = .returned (.bool (decide (cmpV v u = -1))) ∧ Below w.heap.size w w' := by
  have := refBelow_any v u w
  rw [below_good hv hu] at this
  exact this

set_option maxHeartbeats 800000 in
theorem refCompare_any (A A' : Option Addr) (n n' c c' B : Nat) (l m : List TVal) (w : World) (h : HasVals w B A n l) (h' : HasVals w B A' n' m) (hn : n ≤ maxLen) (hn' : n' ≤ maxLen) (hw : B ≤ w.heap.size) :
    Calls Tryz.prog 91 #[.slice A n c, .slice A' n' c'] w fun e w' => e = .returned (.int .i64 (cmpT l m)) ∧ Below w.heap.size w w' := by
  have H := Lib.hid h
  have H' := Lib.hid h'
  clear h h'
  have Hl := Lib.hid H.out.1
  have Hm' := Lib.hid H'.out.1
  have Hcall1 := Lib.hid (refRow_any A n c B l w H.out hn hw)
  rcases rowErr_num l with hl | ⟨hl1, hl2, hl3⟩
  · rw [hl] at Hcall1
    rcases rowErr_num m with hm | ⟨hm1, hm2, hm3⟩
    · have E : Hid (cmpT l m = cmpRow l m) := Lib.hid (by unfold cmpT; rw [if_neg (by omega)])
      have Hm := Lib.hid hm
      have Hgl := Lib.hid (rowErr_ok.1 hl)
      have Hgm := Lib.hid (rowErr_ok.1 hm)
      have hn4 : n ≤ 4 := by have := Hgl.out.1; have := Hl.out; omega
      have hn4' : n' ≤ 4 := by have := Hgm.out.1; have := Hm'.out; omega
      clear hl hm
      go_enter Tryz.func91, Tryz.ntmps91
      go_wp2_with fail
      refine Hcall1.out.mono ?_
      rintro e w1 ⟨rfl, hb1⟩
      have hsz := hb1.size
      have Hb1 := Lib.hid hb1
      clear hb1
      have Hcall2 := Lib.hid (refRow_any A' n' c' B m w1 (H'.out.belowOf Hb1.out hw) hn' (by omega))
      rw [Hm.out] at Hcall2
      go_wp2_with fail
      refine Hcall2.out.mono ?_
      rintro e w2 ⟨rfl, hb2⟩
      have Hb2 := Lib.hid (Hb1.out.trans (hb2.mono hsz))
      clear hb2
      clear Hcall1 Hcall2
      go_wp2
      go_loopw [5] (fun i wr => ∃ k : Nat, k ≤ n ∧ k ≤ n' ∧ i = .int .i64 (k : Int) ∧ Hid (cmpRow l m = cmpRow (l.drop k) (m.drop k)) ∧ Below w.heap.size w wr) (fun i _ => n - (intOf i).toNat)
      case atStart => exact ⟨0, by omega, by omega, rfl, Lib.hid (by simp), Hb2.out⟩
      case round =>
        obtain ⟨k, hk, hk', rfl, Hc, hb⟩ := hrel
        have Hb := Lib.hid hb
        have hszr := hb.size
        clear hb
        by_cases hlt : k < n
        · by_cases hlt' : k < n'
          · have H1 := Lib.hid (H.out.belowOf Hb.out hw)
            obtain ⟨a, v, rfl, ha, hv, c0, c1, c2⟩ := H1.out.at_ hlt
            have H2 := Lib.hid (H'.out.belowOf Hb.out hw)
            obtain ⟨a', u, rfl, ha', hu, d0, d1, d2⟩ := H2.out.at_ hlt'
            have Hat := Lib.hid (cmpRow_at hv hu)
            have Hgv := Lib.hid (Hgl.out.2 v (List.mem_of_getElem? hv))
            have Hgu := Lib.hid (Hgm.out.2 u (List.mem_of_getElem? hu))
            clear hv hu
            have hab : (a.add (k * 3)).block < wr.heap.size := by rw [addr_block]; omega
            have hab' : (a'.add (k * 3)).block < wr.heap.size := by rw [addr_block]; omega
            have Hs := Lib.hid (fun wx (hx : Below wr.heap.size wr wx) => (⟨(hx.cell hab).trans c0, (hx.cell (p := ⟨(a.add (k * 3)).block, (a.add (k * 3)).off + 1, none⟩) hab).trans c1, (hx.cell (p := ⟨(a.add (k * 3)).block, (a.add (k * 3)).off + 2, none⟩) hab).trans c2,
              (hx.cell hab').trans d0, (hx.cell (p := ⟨(a'.add (k * 3)).block, (a'.add (k * 3)).off + 1, none⟩) hab').trans d1, (hx.cell (p := ⟨(a'.add (k * 3)).block, (a'.add (k * 3)).off + 2, none⟩) hab').trans d2⟩ :
                wx.cell? (a.add (k * 3)) = some (.int .i64 v.k) ∧ wx.cell? ⟨(a.add (k * 3)).block, (a.add (k * 3)).off + 1, none⟩ = some (.int .i64 v.n) ∧ wx.cell? ⟨(a.add (k * 3)).block, (a.add (k * 3)).off + 2, none⟩ = some (.string v.s) ∧
                wx.cell? (a'.add (k * 3)) = some (.int .i64 u.k) ∧ wx.cell? ⟨(a'.add (k * 3)).block, (a'.add (k * 3)).off + 1, none⟩ = some (.int .i64 u.n) ∧ wx.cell? ⟨(a'.add (k * 3)).block, (a'.add (k * 3)).off + 2, none⟩ = some (.string u.s)))
            rcases cmpV_cases v u with hc | hc | hc
            · have E2 : Hid (cmpRow l m = -1) := Lib.hid (by rw [Hc.out, Hat.out, if_neg (by omega), hc])
              have Hcall := Lib.hid (fun wx => refBelow_good v u wx Hgv.out Hgu.out)
              rw [hc] at Hcall
              clear hc
              go_wp2
              go_region_held3 (fun wx => wx.cell? (a.add (k * 3)) = some (.int .i64 v.k) ∧ wx.cell? ⟨(a.add (k * 3)).block, (a.add (k * 3)).off + 1, none⟩ = some (.int .i64 v.n) ∧ wx.cell? ⟨(a.add (k * 3)).block, (a.add (k * 3)).off + 2, none⟩ = some (.string v.s) ∧
                wx.cell? (a'.add (k * 3)) = some (.int .i64 u.k) ∧ wx.cell? ⟨(a'.add (k * 3)).block, (a'.add (k * 3)).off + 1, none⟩ = some (.int .i64 u.n) ∧ wx.cell? ⟨(a'.add (k * 3)).block, (a'.add (k * 3)).off + 2, none⟩ = some (.string u.s))
                (first | go_keep | exact Hs.out _ Hb3.out)
                ((go_at_call 121; refine (Hcall.out _).mono ?_; rintro e w3 ⟨rfl, hb3⟩; have Hb3 : Hid (Below wr.heap.size wr w3) := Lib.hid (((Below.refl _ wr).drew).trans hb3); clear hb3))
              go_wp2
              go_ret
              exact ⟨ret_i64 (by rw [E.out, E2.out]), Hb.out.trans (Hb3.out.mono hszr)⟩
            · have E2 : Hid (cmpRow l m = cmpRow (l.drop (k + 1)) (m.drop (k + 1))) := Lib.hid (by rw [Hc.out, Hat.out, if_pos hc])
              have Hcall := Lib.hid (fun wx => refBelow_good v u wx Hgv.out Hgu.out)
              have Hcallr := Lib.hid (fun wx => refBelow_good u v wx Hgu.out Hgv.out)
              rw [cmpV_neg v u, hc] at Hcallr
              rw [hc] at Hcall
              clear hc
              go_wp2
              go_region_held3 (fun wx => wx.cell? (a.add (k * 3)) = some (.int .i64 v.k) ∧ wx.cell? ⟨(a.add (k * 3)).block, (a.add (k * 3)).off + 1, none⟩ = some (.int .i64 v.n) ∧ wx.cell? ⟨(a.add (k * 3)).block, (a.add (k * 3)).off + 2, none⟩ = some (.string v.s) ∧
                wx.cell? (a'.add (k * 3)) = some (.int .i64 u.k) ∧ wx.cell? ⟨(a'.add (k * 3)).block, (a'.add (k * 3)).off + 1, none⟩ = some (.int .i64 u.n) ∧ wx.cell? ⟨(a'.add (k * 3)).block, (a'.add (k * 3)).off + 2, none⟩ = some (.string u.s))
                (first | go_keep | exact Hs.out _ Hb3.out)
                ((go_at_call 121; refine (Hcall.out _).mono ?_; rintro e w3 ⟨rfl, hb3⟩; have Hb3 : Hid (Below wr.heap.size wr w3) := Lib.hid (((Below.refl _ wr).drew).trans hb3); clear hb3))
              go_wp2
              go_region_held3 (fun wx => wx.cell? (a.add (k * 3)) = some (.int .i64 v.k) ∧ wx.cell? ⟨(a.add (k * 3)).block, (a.add (k * 3)).off + 1, none⟩ = some (.int .i64 v.n) ∧ wx.cell? ⟨(a.add (k * 3)).block, (a.add (k * 3)).off + 2, none⟩ = some (.string v.s) ∧
                wx.cell? (a'.add (k * 3)) = some (.int .i64 u.k) ∧ wx.cell? ⟨(a'.add (k * 3)).block, (a'.add (k * 3)).off + 1, none⟩ = some (.int .i64 u.n) ∧ wx.cell? ⟨(a'.add (k * 3)).block, (a'.add (k * 3)).off + 2, none⟩ = some (.string u.s))
                (first | go_keep | exact Hs.out _ Hb4.out)
                ((go_at_call 121; refine (Hcallr.out _).mono ?_; rintro e w4 ⟨rfl, hb4⟩; have Hb4 : Hid (Below wr.heap.size wr w4) := Lib.hid ((Hb3.out.drew).trans (hb4.mono Hb3.out.size)); clear hb4))
              go_wp2
              go_roundw
              case rel => exact ⟨k + 1, by omega, by omega, by go_num, E2, Hb.out.trans (Hb4.out.mono hszr)⟩
              case measure => simp [intOf]; omega
            · have E2 : Hid (cmpRow l m = 1) := Lib.hid (by rw [Hc.out, Hat.out, if_neg (by omega), hc])
              have Hcall := Lib.hid (fun wx => refBelow_good v u wx Hgv.out Hgu.out)
              have Hcallr := Lib.hid (fun wx => refBelow_good u v wx Hgu.out Hgv.out)
              rw [cmpV_neg v u, hc] at Hcallr
              rw [hc] at Hcall
              clear hc
              go_wp2
              go_region_held3 (fun wx => wx.cell? (a.add (k * 3)) = some (.int .i64 v.k) ∧ wx.cell? ⟨(a.add (k * 3)).block, (a.add (k * 3)).off + 1, none⟩ = some (.int .i64 v.n) ∧ wx.cell? ⟨(a.add (k * 3)).block, (a.add (k * 3)).off + 2, none⟩ = some (.string v.s) ∧
                wx.cell? (a'.add (k * 3)) = some (.int .i64 u.k) ∧ wx.cell? ⟨(a'.add (k * 3)).block, (a'.add (k * 3)).off + 1, none⟩ = some (.int .i64 u.n) ∧ wx.cell? ⟨(a'.add (k * 3)).block, (a'.add (k * 3)).off + 2, none⟩ = some (.string u.s))
                (first | go_keep | exact Hs.out _ Hb3.out)
                ((go_at_call 121; refine (Hcall.out _).mono ?_; rintro e w3 ⟨rfl, hb3⟩; have Hb3 : Hid (Below wr.heap.size wr w3) := Lib.hid (((Below.refl _ wr).drew).trans hb3); clear hb3))
              go_wp2
              go_region_held3 (fun wx => wx.cell? (a.add (k * 3)) = some (.int .i64 v.k) ∧ wx.cell? ⟨(a.add (k * 3)).block, (a.add (k * 3)).off + 1, none⟩ = some (.int .i64 v.n) ∧ wx.cell? ⟨(a.add (k * 3)).block, (a.add (k * 3)).off + 2, none⟩ = some (.string v.s) ∧
                wx.cell? (a'.add (k * 3)) = some (.int .i64 u.k) ∧ wx.cell? ⟨(a'.add (k * 3)).block, (a'.add (k * 3)).off + 1, none⟩ = some (.int .i64 u.n) ∧ wx.cell? ⟨(a'.add (k * 3)).block, (a'.add (k * 3)).off + 2, none⟩ = some (.string u.s))
                (first | go_keep | exact Hs.out _ Hb4.out)
                ((go_at_call 121; refine (Hcallr.out _).mono ?_; rintro e w4 ⟨rfl, hb4⟩; have Hb4 : Hid (Below wr.heap.size wr w4) := Lib.hid ((Hb3.out.drew).trans (hb4.mono Hb3.out.size)); clear hb4))
              go_wp2
              go_ret
              exact ⟨ret_i64 (by rw [E.out, E2.out]), Hb.out.trans (Hb4.out.mono hszr)⟩
          · have E2 : Hid (cmpRow l m = 1) := Lib.hid (by rw [Hc.out, cmpRow_behind (by have := Hl.out; omega) (by have := Hm'.out; omega)])
            have hlt2 : n' < n := by omega
            obtain rfl : k = n' := by omega
            go_wp2
            go_ret
            exact ⟨ret_i64 (by rw [E.out, E2.out]), Hb.out⟩
        · obtain rfl : k = n := by omega
          by_cases hlt' : k < n'
          · have E2 : Hid (cmpRow l m = -1) := Lib.hid (by rw [Hc.out, cmpRow_end (by have := Hl.out; omega), if_pos (by have := Hm'.out; omega)])
            go_wp2
            go_ret
            exact ⟨ret_i64 (by rw [E.out, E2.out]), Hb.out⟩
          · have E2 : Hid (cmpRow l m = 0) := Lib.hid (by rw [Hc.out, cmpRow_end (by have := Hl.out; omega), if_neg (by have := Hm'.out; omega)])
            obtain rfl : n' = k := by omega
            go_wp2
            go_ret
            exact ⟨ret_i64 (by rw [E.out, E2.out]), Hb.out⟩
    · have E : Hid (cmpT l m = 0) := Lib.hid (by unfold cmpT; rw [if_pos (.inr hm3)])
      clear hl hm3
      go_enter Tryz.func91, Tryz.ntmps91
      go_wp2_with fail
      refine Hcall1.out.mono ?_
      rintro e w1 ⟨rfl, hb1⟩
      have hsz := hb1.size
      have Hb1 := Lib.hid hb1
      clear hb1
      go_wp2_with fail
      refine (refRow_any A' n' c' B m w1 (H'.out.belowOf Hb1.out hw) hn' (by omega)).mono ?_
      rintro e w2 ⟨rfl, hb2⟩
      have Hb2 := Lib.hid (Hb1.out.trans (hb2.mono hsz))
      clear hb2
      go_wp2
      go_ret
      exact ⟨ret_i64 (by rw [E.out]), Hb2.out⟩
  · have E : Hid (cmpT l m = 0) := Lib.hid (by unfold cmpT; rw [if_pos (.inl hl3)])
    clear hl3
    go_enter Tryz.func91, Tryz.ntmps91
    go_wp2_with fail
    refine Hcall1.out.mono ?_
    rintro e w1 ⟨rfl, hb1⟩
    have Hb1 := Lib.hid hb1
    clear hb1
    go_wp2
    go_ret
    exact ⟨ret_i64 (by rw [E.out]), Hb1.out⟩

end Go.Proofs.YtknfjajmnlpfjaaGreat

namespace Go.Proofs.YtknfjajmnlpfjaaGreat
open Go

section
variable {P : Program} {ops : Array Oper} {Q : Exit → Act → World → Prop} {md : Region.Mode} {S S' : World → Prop}

/-- a condition that says more serves too -/
theorem held_more (h : ∀ w, S' w → S w) : ∀ (fuel : Nat) (listed : Array Bool) (a : Act) (w : World), wpAnyH P md ops Q S' fuel listed a w → wpAnyH P md ops Q S fuel listed a w
  | 0, _, _, _, hw => hw
  | fuel + 1, _, _, _, hw => ⟨hw.1, fun i hi => wpOp_mono (fun a' w' h' => ⟨h w' h'.1, held_more h fuel _ a' w' h'.2⟩) (hw.2 i hi)⟩
end

end Go.Proofs.YtknfjajmnlpfjaaGreat

namespace Go.Proofs.YtknfjajmnlpfjaaGreat
open Go.RowKit
open Go.Lib (strCells compareBytes)

theorem HasVals.head {w : World} {B n : Nat} {A : Option Addr} {l : List TVal} (h : HasVals w B A n l) {k : Nat} (hk : k ≤ n) : HasVals w B A k (l.take k) := by
  have h1 := Has.take h.2 (k := k * 3) (by omega)
  have e : (valCells l).take (k * 3) = valCells (l.take k) := by
    have hl := h.1
    conv => lhs; rw [← List.take_append_drop k l, valCells_app]
    exact List.take_left' (by rw [valCells_len, List.length_take]; omega)
  rw [e] at h1
  exact ⟨by rw [List.length_take, h.1]; omega, h1⟩
theorem rowErr_take {l : List TVal} (h : rowErr l = 0) (k : Nat) : rowErr (l.take k) = 0 := by
  obtain ⟨h1, h2⟩ := rowErr_ok.1 h
  exact rowErr_ok.2 ⟨by rw [List.length_take]; omega, fun v hv => h2 v (List.mem_of_mem_take hv)⟩
theorem cmpT_eq {l m : List TVal} (hl : rowErr l = 0) (hm : rowErr m = 0) : cmpT l m = cmpRow l m := cmpT_row hl hm
theorem lies_err {l low high : List TVal} (h : rowErr l ≠ 0 ∨ rowErr low ≠ 0 ∨ rowErr high ≠ 0) : liesB l low high = false := by
  unfold liesB
  rw [decide_eq_false (p := rowErr l = 0 ∧ rowErr low = 0 ∧ rowErr high = 0) (by omega)]
  rfl
theorem lies_ok {l low high : List TVal} (h : rowErr l = 0) (h1 : rowErr low = 0) (h2 : rowErr high = 0) : liesB l low high = (decide (0 ≤ cmpT l low) && decide (cmpT (l.take high.length) high ≤ 0)) := by
  unfold liesB
  rw [decide_eq_true (p := rowErr l = 0 ∧ rowErr low = 0 ∧ rowErr high = 0) ⟨h, h1, h2⟩, cmpT_row h h1, cmpT_row (rowErr_take h _) h2]
  rfl
theorem firstI_three (x y z : Nat) : (x = 0 ∧ y = 0 ∧ z = 0) ∨ ∃ u : Nat, u ≠ 0 ∧ firstI [(x : Int), (y : Int), (z : Int)] = (u : Int) ∧ (x ≠ 0 ∨ y ≠ 0 ∨ z ≠ 0) := by
  by_cases hx : x = 0
  · by_cases hy : y = 0
    · by_cases hz : z = 0
      · exact .inl ⟨hx, hy, hz⟩
      · exact .inr ⟨z, hz, by simp [firstI, hx, hy]; omega, .inr (.inr hz)⟩
    · refine .inr ⟨y, hy, ?_, .inr (.inl hy)⟩
      simp [firstI, hx]
      omega
  · refine .inr ⟨x, hx, ?_, .inl hx⟩
    simp [firstI]
    omega

set_option maxHeartbeats 1600000 in
set_option maxRecDepth 100000 in
theorem lies_any (A0 A1 A2 : Option Addr) (n0 n1 n2 c0 c1 c2 B : Nat) (l low high : List TVal) (w : World) (h0 : HasVals w B A0 n0 l) (h1 : HasVals w B A1 n1 low) (h2 : HasVals w B A2 n2 high)
    (hn0 : n0 ≤ maxLen) (hn1 : n1 ≤ maxLen) (hn2 : n2 ≤ maxLen) (hc0 : n0 ≤ c0) (hw : B ≤ w.heap.size) (hi0 : ∀ u ∈ l, InI64 u.n) (hi1 : ∀ u ∈ low, InI64 u.n) (hi2 : ∀ u ∈ high, InI64 u.n) :
    Calls Tryz.prog 51 #[.slice A0 n0 c0, .slice A1 n1 c1, .slice A2 n2 c2] w fun e w' => e = .returned (.bool (liesB l low high)) ∧ Below w.heap.size w w' := by
  have H0 := Lib.hid h0
  have H1 := Lib.hid h1
  have H2 := Lib.hid h2
  have Hl2 := Lib.hid h2.1
  have K0 := Lib.hid (checkRow_any A0 n0 c0 B l w h0 hn0 hw hi0)
  have K1 := Lib.hid (fun wx (hb : Below w.heap.size w wx) => checkRow_any A1 n1 c1 B low wx (H1.out.belowOf hb hw) hn1 (Nat.le_trans hw hb.size) hi1)
  have K2 := Lib.hid (fun wx (hb : Below w.heap.size w wx) => checkRow_any A2 n2 c2 B high wx (H2.out.belowOf hb hw) hn2 (Nat.le_trans hw hb.size) hi2)
  have Hc := Lib.hid (fun wx (hb : Below w.heap.size w wx) => compare_any A0 A1 n0 n1 c0 c1 B l low wx (H0.out.belowOf hb hw) (H1.out.belowOf hb hw) hn0 hn1 (Nat.le_trans hw hb.size))
  clear h0 h1 h2 hi0 hi1 hi2
  rcases firstI_three (rowErr l) (rowErr low) (rowErr high) with ⟨e0, e1, e2⟩ | ⟨u, hu, hf, hor⟩
  · have E0 := Lib.hid (lies_ok e0 e1 e2)
    rw [e0] at K0
    rw [e1] at K1
    rw [e2] at K2
    clear e0 e1 e2
    by_cases hge : 0 ≤ cmpT l low
    · have E1 : Hid (liesB l low high = decide (cmpT (l.take high.length) high ≤ 0)) := Lib.hid (by rw [E0.out, decide_eq_true hge]; rfl)
      by_cases hnn : n0 ≤ n2
      · have hmin : min (n0 : Int) (n2 : Int) = (n0 : Int) := by omega
        have Hc2 := Lib.hid (fun wx (hb : Below w.heap.size w wx) => compare_any A0 A2 n0 n2 c0 c2 B (l.take high.length) high wx (by rw [List.take_of_length_le (by rw [H0.out.1, Hl2.out]; exact hnn)]; exact H0.out.belowOf hb hw) (H2.out.belowOf hb hw) hn0 hn2 (Nat.le_trans hw hb.size))
        have hc0i : (n0 : Int) ≤ (c0 : Int) := by omega
        go_enter Tryz.func51, Tryz.ntmps51
        go_wp2_with fail
        refine K0.out.mono ?_
        rintro e w1 ⟨rfl, hb1⟩
        have Hb1 := Lib.hid hb1
        clear hb1
        go_wp2_with fail
        refine (K1.out w1 Hb1.out).mono ?_
        rintro e w2 ⟨rfl, hb2⟩
        have Hb2 := Lib.hid (Hb1.out.trans (hb2.mono Hb1.out.size))
        clear hb2
        go_wp2_with fail
        refine (K2.out w2 Hb2.out).mono ?_
        rintro e w3 ⟨rfl, hb3⟩
        have Hb3 := Lib.hid (Hb2.out.trans (hb3.mono Hb2.out.size))
        clear hb3
        go_wp2_with fail
        refine (first_lit _ #[.int .i64 0, .int .i64 0, .int .i64 0] _ [0, 0, 0] 3 3 0 rfl rfl (by omega) rfl).mono ?_
        rintro e w4 ⟨rfl, rfl⟩
        have Hb4 := Lib.hid (Hb3.out.alloc Hb3.out.size (.cells #[.int .i64 0, .int .i64 0, .int .i64 0] 30))
        go_wp2_with fail
        refine (Hc.out _ Hb4.out).mono ?_
        rintro e w5 ⟨rfl, hb5⟩
        have Hb5 := Lib.hid (Hb4.out.trans (hb5.mono Hb4.out.size))
        clear hb5
        go_wp2_with fail
        refine (Hc2.out _ Hb5.out).mono ?_
        rintro e w6 ⟨rfl, hb6⟩
        have Hb6 := Lib.hid (Hb5.out.trans (hb6.mono Hb5.out.size))
        clear hb6
        go_wp2
        go_ret
        exact ⟨ret_bool (by rw [E1.out]), Hb6.out⟩
      · have hmin : min (n0 : Int) (n2 : Int) = (n2 : Int) := by omega
        have hle : n2 ≤ n0 := by omega
        have Hc2 := Lib.hid (fun wx (hb : Below w.heap.size w wx) => compare_any A0 A2 n2 n2 c0 c2 B (l.take high.length) high wx (by rw [Hl2.out]; exact (H0.out.belowOf hb hw).head hle) (H2.out.belowOf hb hw) hn2 hn2 (Nat.le_trans hw hb.size))
        have hc0i : (n2 : Int) ≤ (c0 : Int) := by omega
        have hc0n : n2 ≤ c0 := by omega
        go_enter Tryz.func51, Tryz.ntmps51
        go_wp2_with fail
        refine K0.out.mono ?_
        rintro e w1 ⟨rfl, hb1⟩
        have Hb1 := Lib.hid hb1
        clear hb1
        go_wp2_with fail
        refine (K1.out w1 Hb1.out).mono ?_
        rintro e w2 ⟨rfl, hb2⟩
        have Hb2 := Lib.hid (Hb1.out.trans (hb2.mono Hb1.out.size))
        clear hb2
        go_wp2_with fail
        refine (K2.out w2 Hb2.out).mono ?_
        rintro e w3 ⟨rfl, hb3⟩
        have Hb3 := Lib.hid (Hb2.out.trans (hb3.mono Hb2.out.size))
        clear hb3
        go_wp2_with fail
        refine (first_lit _ #[.int .i64 0, .int .i64 0, .int .i64 0] _ [0, 0, 0] 3 3 0 rfl rfl (by omega) rfl).mono ?_
        rintro e w4 ⟨rfl, rfl⟩
        have Hb4 := Lib.hid (Hb3.out.alloc Hb3.out.size (.cells #[.int .i64 0, .int .i64 0, .int .i64 0] 30))
        go_wp2_with fail
        refine (Hc.out _ Hb4.out).mono ?_
        rintro e w5 ⟨rfl, hb5⟩
        have Hb5 := Lib.hid (Hb4.out.trans (hb5.mono Hb4.out.size))
        clear hb5
        go_wp2_with fail
        refine (Hc2.out _ Hb5.out).mono ?_
        rintro e w6 ⟨rfl, hb6⟩
        have Hb6 := Lib.hid (Hb5.out.trans (hb6.mono Hb5.out.size))
        clear hb6
        go_wp2
        go_ret
        exact ⟨ret_bool (by rw [E1.out]), Hb6.out⟩
    · have E1 : Hid (liesB l low high = false) := Lib.hid (by rw [E0.out, decide_eq_false hge]; rfl)
      by_cases hnn : n0 ≤ n2
      · have hmin : min (n0 : Int) (n2 : Int) = (n0 : Int) := by omega
        have hc0i : (n0 : Int) ≤ (c0 : Int) := by omega
        go_enter Tryz.func51, Tryz.ntmps51
        go_wp2_with fail
        refine K0.out.mono ?_
        rintro e w1 ⟨rfl, hb1⟩
        have Hb1 := Lib.hid hb1
        clear hb1
        go_wp2_with fail
        refine (K1.out w1 Hb1.out).mono ?_
        rintro e w2 ⟨rfl, hb2⟩
        have Hb2 := Lib.hid (Hb1.out.trans (hb2.mono Hb1.out.size))
        clear hb2
        go_wp2_with fail
        refine (K2.out w2 Hb2.out).mono ?_
        rintro e w3 ⟨rfl, hb3⟩
        have Hb3 := Lib.hid (Hb2.out.trans (hb3.mono Hb2.out.size))
        clear hb3
        go_wp2_with fail
        refine (first_lit _ #[.int .i64 0, .int .i64 0, .int .i64 0] _ [0, 0, 0] 3 3 0 rfl rfl (by omega) rfl).mono ?_
        rintro e w4 ⟨rfl, rfl⟩
        have Hb4 := Lib.hid (Hb3.out.alloc Hb3.out.size (.cells #[.int .i64 0, .int .i64 0, .int .i64 0] 30))
        go_wp2_with fail
        refine (Hc.out _ Hb4.out).mono ?_
        rintro e w5 ⟨rfl, hb5⟩
        have Hb5 := Lib.hid (Hb4.out.trans (hb5.mono Hb4.out.size))
        clear hb5
        go_wp2
        go_ret
        exact ⟨ret_bool (by rw [E1.out]), Hb5.out⟩
      · have hmin : min (n0 : Int) (n2 : Int) = (n2 : Int) := by omega
        have hle : n2 ≤ n0 := by omega
        have hc0i : (n2 : Int) ≤ (c0 : Int) := by omega
        have hc0n : n2 ≤ c0 := by omega
        go_enter Tryz.func51, Tryz.ntmps51
        go_wp2_with fail
        refine K0.out.mono ?_
        rintro e w1 ⟨rfl, hb1⟩
        have Hb1 := Lib.hid hb1
        clear hb1
        go_wp2_with fail
        refine (K1.out w1 Hb1.out).mono ?_
        rintro e w2 ⟨rfl, hb2⟩
        have Hb2 := Lib.hid (Hb1.out.trans (hb2.mono Hb1.out.size))
        clear hb2
        go_wp2_with fail
        refine (K2.out w2 Hb2.out).mono ?_
        rintro e w3 ⟨rfl, hb3⟩
        have Hb3 := Lib.hid (Hb2.out.trans (hb3.mono Hb2.out.size))
        clear hb3
        go_wp2_with fail
        refine (first_lit _ #[.int .i64 0, .int .i64 0, .int .i64 0] _ [0, 0, 0] 3 3 0 rfl rfl (by omega) rfl).mono ?_
        rintro e w4 ⟨rfl, rfl⟩
        have Hb4 := Lib.hid (Hb3.out.alloc Hb3.out.size (.cells #[.int .i64 0, .int .i64 0, .int .i64 0] 30))
        go_wp2_with fail
        refine (Hc.out _ Hb4.out).mono ?_
        rintro e w5 ⟨rfl, hb5⟩
        have Hb5 := Lib.hid (Hb4.out.trans (hb5.mono Hb4.out.size))
        clear hb5
        go_wp2
        go_ret
        exact ⟨ret_bool (by rw [E1.out]), Hb5.out⟩
  · have E : Hid (liesB l low high = false) := Lib.hid (lies_err hor)
    obtain ⟨hz1, hz2⟩ := num_ne hu
    clear hor hu
    go_enter Tryz.func51, Tryz.ntmps51
    go_wp2_with fail
    refine K0.out.mono ?_
    rintro e w1 ⟨rfl, hb1⟩
    have Hb1 := Lib.hid hb1
    clear hb1
    go_wp2_with fail
    refine (K1.out w1 Hb1.out).mono ?_
    rintro e w2 ⟨rfl, hb2⟩
    have Hb2 := Lib.hid (Hb1.out.trans (hb2.mono Hb1.out.size))
    clear hb2
    go_wp2_with fail
    refine (K2.out w2 Hb2.out).mono ?_
    rintro e w3 ⟨rfl, hb3⟩
    have Hb3 := Lib.hid (Hb2.out.trans (hb3.mono Hb2.out.size))
    clear hb3
    go_wp2_with fail
    refine (first_lit _ #[.int .i64 (rowErr l : Int), .int .i64 (rowErr low : Int), .int .i64 (rowErr high : Int)] _ [(rowErr l : Int), (rowErr low : Int), (rowErr high : Int)] 3 3 u rfl rfl (by omega) hf).mono ?_
    rintro e w4 ⟨rfl, rfl⟩
    have Hb4 := Lib.hid (Hb3.out.alloc Hb3.out.size (.cells #[.int .i64 (rowErr l : Int), .int .i64 (rowErr low : Int), .int .i64 (rowErr high : Int)] 30))
    clear hf
    go_wp2
    go_ret
    exact ⟨ret_bool (by rw [E.out]), Hb4.out⟩

set_option maxHeartbeats 1600000 in
set_option maxRecDepth 100000 in
theorem refLies_any (A0 A1 A2 : Option Addr) (n0 n1 n2 c0 c1 c2 B : Nat) (l low high : List TVal) (w : World) (h0 : HasVals w B A0 n0 l) (h1 : HasVals w B A1 n1 low) (h2 : HasVals w B A2 n2 high)
    (hn0 : n0 ≤ maxLen) (hn1 : n1 ≤ maxLen) (hn2 : n2 ≤ maxLen) (hc0 : n0 ≤ c0) (hw : B ≤ w.heap.size) :
    Calls Tryz.prog 59 #[.slice A0 n0 c0, .slice A1 n1 c1, .slice A2 n2 c2] w fun e w' => e = .returned (.bool (liesB l low high)) ∧ Below w.heap.size w w' := by
  have H0 := Lib.hid h0
  have H1 := Lib.hid h1
  have H2 := Lib.hid h2
  have Hl2 := Lib.hid h2.1
  have K0 := Lib.hid (refRow_any A0 n0 c0 B l w h0 hn0 hw)
  have K1 := Lib.hid (fun wx (hb : Below w.heap.size w wx) => refRow_any A1 n1 c1 B low wx (H1.out.belowOf hb hw) hn1 (Nat.le_trans hw hb.size))
  have K2 := Lib.hid (fun wx (hb : Below w.heap.size w wx) => refRow_any A2 n2 c2 B high wx (H2.out.belowOf hb hw) hn2 (Nat.le_trans hw hb.size))
  clear h0 h1 h2
  rcases rowErr_num l with e0 | ⟨z1, z2, z3⟩
  · have E0 := Lib.hid e0
    rw [e0] at K0
    clear e0
    rcases rowErr_num low with e1 | ⟨z1, z2, z3⟩
    · have E1 := Lib.hid e1
      rw [e1] at K1
      clear e1
      rcases rowErr_num high with e2 | ⟨z1, z2, z3⟩
      · have E2 := Lib.hid (lies_ok E0.out E1.out e2)
        rw [e2] at K2
        have Er := Lib.hid e2
        clear e2
        have Hc := Lib.hid (fun wx (hb : Below w.heap.size w wx) => refCompare_any A0 A1 n0 n1 c0 c1 B l low wx (H0.out.belowOf hb hw) (H1.out.belowOf hb hw) hn0 hn1 (Nat.le_trans hw hb.size))
        have hx : (n2 < n0 ∨ n0 ≤ n2) := by omega
        rcases hx with hx | hx
        · have hc0i : (n2 : Int) ≤ (c0 : Int) := by omega
          have hc0n : n2 ≤ c0 := by omega
          have Hc2 := Lib.hid (fun wx (hb : Below w.heap.size w wx) => refCompare_any A0 A2 n2 n2 c0 c2 B (l.take high.length) high wx (by rw [Hl2.out]; exact (H0.out.belowOf hb hw).head (by omega)) (H2.out.belowOf hb hw) hn2 hn2 (Nat.le_trans hw hb.size))
          by_cases hge : 0 ≤ cmpT l low
          · have E : Hid (liesB l low high = decide (cmpT (l.take high.length) high ≤ 0)) := Lib.hid (by rw [E2.out, decide_eq_true hge]; rfl)
            go_enter Tryz.func59, Tryz.ntmps59
            go_wp2_with fail
            refine K0.out.mono ?_
            rintro e w1 ⟨rfl, hb1⟩
            have Hb1 := Lib.hid hb1
            clear hb1
            go_wp2_with fail
            refine (K1.out w1 Hb1.out).mono ?_
            rintro e w2 ⟨rfl, hb2⟩
            have Hb2 := Lib.hid (Hb1.out.trans (hb2.mono Hb1.out.size))
            clear hb2
            go_wp2_with fail
            refine (K2.out w2 Hb2.out).mono ?_
            rintro e w3 ⟨rfl, hb3⟩
            have Hb3 := Lib.hid (Hb2.out.trans (hb3.mono Hb2.out.size))
            clear hb3
            go_wp2_with fail
            refine (Hc.out _ Hb3.out).mono ?_
            rintro e w4 ⟨rfl, hb4⟩
            have Hb4 := Lib.hid (Hb3.out.trans (hb4.mono Hb3.out.size))
            clear hb4
            go_wp2_with fail
            refine (Hc2.out _ Hb4.out).mono ?_
            rintro e w6 ⟨rfl, hb6⟩
            have Hb6 := Lib.hid (Hb4.out.trans (hb6.mono Hb4.out.size))
            clear hb6
            go_wp2
            go_ret
            exact ⟨ret_bool (by rw [E.out]), Hb6.out⟩
          · have E : Hid (liesB l low high = false) := Lib.hid (by rw [E2.out, decide_eq_false hge]; rfl)
            go_enter Tryz.func59, Tryz.ntmps59
            go_wp2_with fail
            refine K0.out.mono ?_
            rintro e w1 ⟨rfl, hb1⟩
            have Hb1 := Lib.hid hb1
            clear hb1
            go_wp2_with fail
            refine (K1.out w1 Hb1.out).mono ?_
            rintro e w2 ⟨rfl, hb2⟩
            have Hb2 := Lib.hid (Hb1.out.trans (hb2.mono Hb1.out.size))
            clear hb2
            go_wp2_with fail
            refine (K2.out w2 Hb2.out).mono ?_
            rintro e w3 ⟨rfl, hb3⟩
            have Hb3 := Lib.hid (Hb2.out.trans (hb3.mono Hb2.out.size))
            clear hb3
            go_wp2_with fail
            refine (Hc.out _ Hb3.out).mono ?_
            rintro e w4 ⟨rfl, hb4⟩
            have Hb4 := Lib.hid (Hb3.out.trans (hb4.mono Hb3.out.size))
            clear hb4
            go_wp2
            go_ret
            exact ⟨ret_bool (by rw [E.out]), Hb4.out⟩
        · have Hc2 := Lib.hid (fun wx (hb : Below w.heap.size w wx) => refCompare_any A0 A2 n0 n2 c0 c2 B (l.take high.length) high wx (by rw [List.take_of_length_le (by rw [H0.out.1, Hl2.out]; exact hx)]; exact H0.out.belowOf hb hw) (H2.out.belowOf hb hw) hn0 hn2 (Nat.le_trans hw hb.size))
          by_cases hge : 0 ≤ cmpT l low
          · have E : Hid (liesB l low high = decide (cmpT (l.take high.length) high ≤ 0)) := Lib.hid (by rw [E2.out, decide_eq_true hge]; rfl)
            go_enter Tryz.func59, Tryz.ntmps59
            go_wp2_with fail
            refine K0.out.mono ?_
            rintro e w1 ⟨rfl, hb1⟩
            have Hb1 := Lib.hid hb1
            clear hb1
            go_wp2_with fail
            refine (K1.out w1 Hb1.out).mono ?_
            rintro e w2 ⟨rfl, hb2⟩
            have Hb2 := Lib.hid (Hb1.out.trans (hb2.mono Hb1.out.size))
            clear hb2
            go_wp2_with fail
            refine (K2.out w2 Hb2.out).mono ?_
            rintro e w3 ⟨rfl, hb3⟩
            have Hb3 := Lib.hid (Hb2.out.trans (hb3.mono Hb2.out.size))
            clear hb3
            go_wp2_with fail
            refine (Hc.out _ Hb3.out).mono ?_
            rintro e w4 ⟨rfl, hb4⟩
            have Hb4 := Lib.hid (Hb3.out.trans (hb4.mono Hb3.out.size))
            clear hb4
            go_wp2_with fail
            refine (Hc2.out _ Hb4.out).mono ?_
            rintro e w6 ⟨rfl, hb6⟩
            have Hb6 := Lib.hid (Hb4.out.trans (hb6.mono Hb4.out.size))
            clear hb6
            go_wp2
            go_ret
            exact ⟨ret_bool (by rw [E.out]), Hb6.out⟩
          · have E : Hid (liesB l low high = false) := Lib.hid (by rw [E2.out, decide_eq_false hge]; rfl)
            go_enter Tryz.func59, Tryz.ntmps59
            go_wp2_with fail
            refine K0.out.mono ?_
            rintro e w1 ⟨rfl, hb1⟩
            have Hb1 := Lib.hid hb1
            clear hb1
            go_wp2_with fail
            refine (K1.out w1 Hb1.out).mono ?_
            rintro e w2 ⟨rfl, hb2⟩
            have Hb2 := Lib.hid (Hb1.out.trans (hb2.mono Hb1.out.size))
            clear hb2
            go_wp2_with fail
            refine (K2.out w2 Hb2.out).mono ?_
            rintro e w3 ⟨rfl, hb3⟩
            have Hb3 := Lib.hid (Hb2.out.trans (hb3.mono Hb2.out.size))
            clear hb3
            go_wp2_with fail
            refine (Hc.out _ Hb3.out).mono ?_
            rintro e w4 ⟨rfl, hb4⟩
            have Hb4 := Lib.hid (Hb3.out.trans (hb4.mono Hb3.out.size))
            clear hb4
            go_wp2
            go_ret
            exact ⟨ret_bool (by rw [E.out]), Hb4.out⟩
      · have E : Hid (liesB l low high = false) := Lib.hid (lies_err (.inr (.inr z3)))
        clear z3
        go_enter Tryz.func59, Tryz.ntmps59
        go_wp2_with fail
        refine K0.out.mono ?_
        rintro e w1 ⟨rfl, hb1⟩
        have Hb1 := Lib.hid hb1
        clear hb1
        go_wp2_with fail
        refine (K1.out w1 Hb1.out).mono ?_
        rintro e w2 ⟨rfl, hb2⟩
        have Hb2 := Lib.hid (Hb1.out.trans (hb2.mono Hb1.out.size))
        clear hb2
        go_wp2_with fail
        refine (K2.out w2 Hb2.out).mono ?_
        rintro e w3 ⟨rfl, hb3⟩
        have Hb3 := Lib.hid (Hb2.out.trans (hb3.mono Hb2.out.size))
        clear hb3
        go_wp2
        go_ret
        exact ⟨ret_bool (by rw [E.out]), Hb3.out⟩
    · have E : Hid (liesB l low high = false) := Lib.hid (lies_err (.inr (.inl z3)))
      clear z3
      go_enter Tryz.func59, Tryz.ntmps59
      go_wp2_with fail
      refine K0.out.mono ?_
      rintro e w1 ⟨rfl, hb1⟩
      have Hb1 := Lib.hid hb1
      clear hb1
      go_wp2_with fail
      refine (K1.out w1 Hb1.out).mono ?_
      rintro e w2 ⟨rfl, hb2⟩
      have Hb2 := Lib.hid (Hb1.out.trans (hb2.mono Hb1.out.size))
      clear hb2
      go_wp2
      go_ret
      exact ⟨ret_bool (by rw [E.out]), Hb2.out⟩
  · have E : Hid (liesB l low high = false) := Lib.hid (lies_err (.inl z3))
    clear z3
    go_enter Tryz.func59, Tryz.ntmps59
    go_wp2_with fail
    refine K0.out.mono ?_
    rintro e w1 ⟨rfl, hb1⟩
    have Hb1 := Lib.hid hb1
    clear hb1
    go_wp2
    go_ret
    exact ⟨ret_bool (by rw [E.out]), Hb1.out⟩

end Go.Proofs.YtknfjajmnlpfjaaGreat

namespace Go.Proofs.YtknfjajmnlpfjaaGreat
open Go.RowKit
open Go.Lib (strCells compareBytes)

theorem entry_first {id : Int} {l : List TVal} {key : List UInt8} {n : Nat} (hl : l.length = n) {b c : Bool} (hb : b = (!isIdB id || decide (n = 0))) (hc : c = (!l.all notNull || !keyOk key)) :
    firstI [whenI b 1, whenI (decide ((2 : Int) < (n : Int))) 4, (rowErr l : Int), whenI c 1] = (entryErr id l key : Int) := by
  subst hb hc hl
  unfold entryErr
  cases hi : isIdB id with
  | false => simp [firstI, whenI]
  | true =>
    by_cases h0 : l.length = 0
    · simp [h0, firstI, whenI]
    · by_cases h2 : 2 < l.length
      · have : (2 : Int) < (l.length : Int) := by omega
        simp [h0, h2, this, firstI, whenI]
      · have : ¬ (2 : Int) < (l.length : Int) := by omega
        by_cases hr : rowErr l = 0
        · cases ha : l.all notNull <;> cases hk : keyOk key <;> simp [h0, h2, this, hr, firstI, whenI]
        · simp [h0, h2, this, hr, firstI, whenI]
def entryVal (id : Int) (l : List TVal) (key : List UInt8) : Value := textErr (entryT id l key) (entryErr id l key)
theorem entry_bad {id : Int} {l : List TVal} {key : List UInt8} (h : entryErr id l key ≠ 0) : entryT id l key = [] := by unfold entryT; rw [if_neg h]

set_option maxHeartbeats 1600000 in
set_option maxRecDepth 100000 in
theorem entry_any (id : Int) (A : Option Addr) (n c B : Nat) (l : List TVal) (key : ByteArray) (w : World) (h : HasVals w B A n l) (hn : n ≤ maxLen) (hw : B ≤ w.heap.size) (hi : ∀ u ∈ l, InI64 u.n) :
    Calls Tryz.prog 38 #[.int .i64 id, .slice A n c, .string key] w fun e w' => e = .returned (textErr (entryT id l key.data.toList) (entryErr id l key.data.toList)) ∧ Below w.heap.size w w' := by
  have H := Lib.hid h
  have Hl := Lib.hid h.1
  have Hk := Lib.hid (key_any A n c B l w h hn hw hi)
  have Hid1 := Lib.hid (fun wx => isId_any id wx)
  have Hkey := Lib.hid (fun wx => recKey_any key wx)
  have Hnull := Lib.hid (fun wx (hb : Below w.heap.size w wx) => containsNull_any A n c B l wx (H.out.belowOf hb hw) hn (Nat.le_trans hw hb.size))
  have Hf := Lib.hid (fun (b c : Bool) (hb : b = (!isIdB id || decide (n = 0))) (hc : c = (!l.all notNull || !keyOk key.data.toList)) => entry_first (id := id) (l := l) (key := key.data.toList) Hl.out hb hc)
  simp only [textErr] at Hk ⊢
  clear h hi
  obtain ⟨sx, hsx⟩ : ∃ sx : ByteArray, ⟨(keyT l).toArray⟩ = sx := ⟨_, rfl⟩
  have Hsx : Hid (sx.data.toList = keyT l) := Lib.hid (by rw [← hsx])
  rw [hsx] at Hk
  clear hsx
  have Hne : Hid (entryErr id l key.data.toList ≠ 0 → (((entryErr id l key.data.toList : Int) == 0) = false ∧ ((entryErr id l key.data.toList : Int) != 0) = true) ∧ entryT id l key.data.toList = []) := Lib.hid fun h => ⟨num_ne h, entry_bad h⟩
  cases hnl : l.all notNull with
  | false =>
    have hne : entryErr id l key.data.toList ≠ 0 := by
      unfold entryErr
      rw [hnl]
      split
      · omega
      · split
        · omega
        · split
          · assumption
          · simp
    obtain ⟨⟨hz1, hz2⟩, e2⟩ := Hne.out hne
    have E2 := Lib.hid e2
    rw [hnl] at Hnull Hf
    clear hnl hne e2
    cases hid : isIdB id with
    | false =>
      rw [hid] at Hid1 Hf
      clear hid
      have Hf1 := Lib.hid (Hf.out true true rfl rfl)
      clear Hf
      go_enter Tryz.func38, Tryz.ntmps38
      go_wp2_with fail
      refine Hk.out.mono ?_
      rintro e w1 ⟨rfl, hb1⟩
      have Hb1 := Lib.hid hb1
      clear hb1
      go_wp2_with fail
      refine (Hid1.out _).mono ?_
      rintro e w2 ⟨rfl, rfl⟩
      go_wp2_with fail
      refine (when_any _ _ _).mono ?_
      rintro e w2 ⟨rfl, rfl⟩
      go_wp2_with fail
      refine (when_any _ _ _).mono ?_
      rintro e w2 ⟨rfl, rfl⟩
      go_wp2_with fail
      refine (Hnull.out w1 Hb1.out).mono ?_
      rintro e w2 ⟨rfl, hb2⟩
      have Hb2 := Lib.hid (Hb1.out.trans (hb2.mono Hb1.out.size))
      clear hb2
      go_wp2_with fail
      refine (when_any _ _ _).mono ?_
      rintro e w3 ⟨rfl, rfl⟩
      go_wp2_with fail
      refine (first_lit _ #[.int .i64 (whenI true 1), .int .i64 (whenI (decide ((2 : Int) < (n : Int))) 4), .int .i64 (rowErr l : Int), .int .i64 (whenI true 1)] _ [whenI true 1, whenI (decide ((2 : Int) < (n : Int))) 4, (rowErr l : Int), whenI true 1] 4 4 (entryErr id l key.data.toList : Int) rfl rfl (by omega) Hf1.out).mono ?_
      rintro e w4 ⟨rfl, rfl⟩
      have Hb4 := Lib.hid (Hb2.out.alloc Hb2.out.size (.cells #[.int .i64 (whenI true 1), .int .i64 (whenI (decide ((2 : Int) < (n : Int))) 4), .int .i64 (rowErr l : Int), .int .i64 (whenI true 1)] 30))
      go_wp2
      go_ret2
      exact ⟨by rw [E2.out]; rfl, Hb4.out⟩
    | true =>
      rw [hid] at Hid1 Hf
      clear hid
      by_cases h0 : n = 0
      · subst h0
        have Hf1 := Lib.hid (Hf.out true true rfl rfl)
        clear Hf
        go_enter Tryz.func38, Tryz.ntmps38
        go_wp2_with fail
        refine Hk.out.mono ?_
        rintro e w1 ⟨rfl, hb1⟩
        have Hb1 := Lib.hid hb1
        clear hb1
        go_wp2_with fail
        refine (Hid1.out _).mono ?_
        rintro e w2 ⟨rfl, rfl⟩
        go_wp2_with fail
        refine (when_any _ _ _).mono ?_
        rintro e w2 ⟨rfl, rfl⟩
        go_wp2_with fail
        refine (when_any _ _ _).mono ?_
        rintro e w2 ⟨rfl, rfl⟩
        go_wp2_with fail
        refine (Hnull.out w1 Hb1.out).mono ?_
        rintro e w2 ⟨rfl, hb2⟩
        have Hb2 := Lib.hid (Hb1.out.trans (hb2.mono Hb1.out.size))
        clear hb2
        go_wp2_with fail
        refine (when_any _ _ _).mono ?_
        rintro e w3 ⟨rfl, rfl⟩
        go_wp2_with fail
        refine (first_lit _ #[.int .i64 (whenI true 1), .int .i64 (whenI (decide ((2 : Int) < 0)) 4), .int .i64 (rowErr l : Int), .int .i64 (whenI true 1)] _ [whenI true 1, whenI (decide ((2 : Int) < 0)) 4, (rowErr l : Int), whenI true 1] 4 4 (entryErr id l key.data.toList : Int) rfl rfl (by omega) Hf1.out).mono ?_
        rintro e w4 ⟨rfl, rfl⟩
        have Hb4 := Lib.hid (Hb2.out.alloc Hb2.out.size (.cells #[.int .i64 (whenI true 1), .int .i64 (whenI (decide ((2 : Int) < 0)) 4), .int .i64 (rowErr l : Int), .int .i64 (whenI true 1)] 30))
        go_wp2
        go_ret2
        exact ⟨by rw [E2.out]; rfl, Hb4.out⟩
      · have hb : ((n : Int) == 0) = false := by simp; omega
        have Hf1 := Lib.hid (Hf.out false true (by rw [decide_eq_false h0]; rfl) rfl)
        clear Hf
        clear h0
        go_enter Tryz.func38, Tryz.ntmps38
        go_wp2_with fail
        refine Hk.out.mono ?_
        rintro e w1 ⟨rfl, hb1⟩
        have Hb1 := Lib.hid hb1
        clear hb1
        go_wp2_with fail
        refine (Hid1.out _).mono ?_
        rintro e w2 ⟨rfl, rfl⟩
        go_wp2_with fail
        refine (when_any _ _ _).mono ?_
        rintro e w2 ⟨rfl, rfl⟩
        go_wp2_with fail
        refine (when_any _ _ _).mono ?_
        rintro e w2 ⟨rfl, rfl⟩
        go_wp2_with fail
        refine (Hnull.out w1 Hb1.out).mono ?_
        rintro e w2 ⟨rfl, hb2⟩
        have Hb2 := Lib.hid (Hb1.out.trans (hb2.mono Hb1.out.size))
        clear hb2
        go_wp2_with fail
        refine (when_any _ _ _).mono ?_
        rintro e w3 ⟨rfl, rfl⟩
        go_wp2_with fail
        refine (first_lit _ #[.int .i64 (whenI false 1), .int .i64 (whenI (decide ((2 : Int) < (n : Int))) 4), .int .i64 (rowErr l : Int), .int .i64 (whenI true 1)] _ [whenI false 1, whenI (decide ((2 : Int) < (n : Int))) 4, (rowErr l : Int), whenI true 1] 4 4 (entryErr id l key.data.toList : Int) rfl rfl (by omega) Hf1.out).mono ?_
        rintro e w4 ⟨rfl, rfl⟩
        have Hb4 := Lib.hid (Hb2.out.alloc Hb2.out.size (.cells #[.int .i64 (whenI false 1), .int .i64 (whenI (decide ((2 : Int) < (n : Int))) 4), .int .i64 (rowErr l : Int), .int .i64 (whenI true 1)] 30))
        go_wp2
        go_ret2
        exact ⟨by rw [E2.out]; rfl, Hb4.out⟩
  | true =>
    rw [hnl] at Hnull Hf
    clear hnl
    cases hid : isIdB id with
    | false =>
      have hne : entryErr id l key.data.toList ≠ 0 := by
        unfold entryErr
        rw [if_pos (.inl hid)]
        omega
      obtain ⟨⟨hz1, hz2⟩, e2⟩ := Hne.out hne
      have E2 := Lib.hid e2
      rw [hid] at Hid1 Hf
      clear hid hne e2
      have Hf1 := Lib.hid (Hf.out true (!keyOk key.data.toList) rfl rfl)
      clear Hf
      go_enter Tryz.func38, Tryz.ntmps38
      go_wp2_with fail
      refine Hk.out.mono ?_
      rintro e w1 ⟨rfl, hb1⟩
      have Hb1 := Lib.hid hb1
      clear hb1
      go_wp2_with fail
      refine (Hid1.out _).mono ?_
      rintro e w2 ⟨rfl, rfl⟩
      go_wp2_with fail
      refine (when_any _ _ _).mono ?_
      rintro e w2 ⟨rfl, rfl⟩
      go_wp2_with fail
      refine (when_any _ _ _).mono ?_
      rintro e w2 ⟨rfl, rfl⟩
      go_wp2_with fail
      refine (Hnull.out w1 Hb1.out).mono ?_
      rintro e w2 ⟨rfl, hb2⟩
      have Hb2 := Lib.hid (Hb1.out.trans (hb2.mono Hb1.out.size))
      clear hb2
      go_wp2_with fail
      refine (Hkey.out _).mono ?_
      rintro e w3 ⟨rfl, rfl⟩
      go_wp2_with fail
      refine (when_any _ _ _).mono ?_
      rintro e w3 ⟨rfl, rfl⟩
      go_wp2_with fail
      refine (first_lit _ #[.int .i64 (whenI true 1), .int .i64 (whenI (decide ((2 : Int) < (n : Int))) 4), .int .i64 (rowErr l : Int), .int .i64 (whenI (!keyOk key.data.toList) 1)] _ [whenI true 1, whenI (decide ((2 : Int) < (n : Int))) 4, (rowErr l : Int), whenI (!keyOk key.data.toList) 1] 4 4 (entryErr id l key.data.toList : Int) rfl rfl (by omega) Hf1.out).mono ?_
      rintro e w4 ⟨rfl, rfl⟩
      have Hb4 := Lib.hid (Hb2.out.alloc Hb2.out.size (.cells #[.int .i64 (whenI true 1), .int .i64 (whenI (decide ((2 : Int) < (n : Int))) 4), .int .i64 (rowErr l : Int), .int .i64 (whenI (!keyOk key.data.toList) 1)] 30))
      go_wp2
      go_ret2
      exact ⟨by rw [E2.out]; rfl, Hb4.out⟩
    | true =>
      have Hids := Lib.hid hid
      rw [hid] at Hid1 Hf
      clear hid
      by_cases h0 : n = 0
      · have hne : entryErr id l key.data.toList ≠ 0 := by
          unfold entryErr
          rw [if_pos (.inr (by rw [Hl.out, h0]))]
          omega
        obtain ⟨⟨hz1, hz2⟩, e2⟩ := Hne.out hne
        have E2 := Lib.hid e2
        clear hne e2
        subst h0
        have Hf1 := Lib.hid (Hf.out true (!keyOk key.data.toList) rfl rfl)
        clear Hf
        go_enter Tryz.func38, Tryz.ntmps38
        go_wp2_with fail
        refine Hk.out.mono ?_
        rintro e w1 ⟨rfl, hb1⟩
        have Hb1 := Lib.hid hb1
        clear hb1
        go_wp2_with fail
        refine (Hid1.out _).mono ?_
        rintro e w2 ⟨rfl, rfl⟩
        go_wp2_with fail
        refine (when_any _ _ _).mono ?_
        rintro e w2 ⟨rfl, rfl⟩
        go_wp2_with fail
        refine (when_any _ _ _).mono ?_
        rintro e w2 ⟨rfl, rfl⟩
        go_wp2_with fail
        refine (Hnull.out w1 Hb1.out).mono ?_
        rintro e w2 ⟨rfl, hb2⟩
        have Hb2 := Lib.hid (Hb1.out.trans (hb2.mono Hb1.out.size))
        clear hb2
        go_wp2_with fail
        refine (Hkey.out _).mono ?_
        rintro e w3 ⟨rfl, rfl⟩
        go_wp2_with fail
        refine (when_any _ _ _).mono ?_
        rintro e w3 ⟨rfl, rfl⟩
        go_wp2_with fail
        refine (first_lit _ #[.int .i64 (whenI true 1), .int .i64 (whenI (decide ((2 : Int) < 0)) 4), .int .i64 (rowErr l : Int), .int .i64 (whenI (!keyOk key.data.toList) 1)] _ [whenI true 1, whenI (decide ((2 : Int) < 0)) 4, (rowErr l : Int), whenI (!keyOk key.data.toList) 1] 4 4 (entryErr id l key.data.toList : Int) rfl rfl (by omega) Hf1.out).mono ?_
        rintro e w4 ⟨rfl, rfl⟩
        have Hb4 := Lib.hid (Hb2.out.alloc Hb2.out.size (.cells #[.int .i64 (whenI true 1), .int .i64 (whenI (decide ((2 : Int) < 0)) 4), .int .i64 (rowErr l : Int), .int .i64 (whenI (!keyOk key.data.toList) 1)] 30))
        go_wp2
        go_ret2
        exact ⟨by rw [E2.out]; rfl, Hb4.out⟩
      · have hb : ((n : Int) == 0) = false := by simp; omega
        have Hf1 := Lib.hid (Hf.out false (!keyOk key.data.toList) (by rw [decide_eq_false h0]; rfl) rfl)
        clear Hf
        clear h0
        by_cases hne : entryErr id l key.data.toList = 0
        · have E := Lib.hid hne
          rw [hne] at Hf1
          clear hne
          have hks : keyOk key.data.toList = true := by
            have := E.out
            unfold entryErr at this
            split at this
            · omega
            · split at this
              · omega
              · split at this
                · omega
                · split at this
                  · next h => simpa using (Bool.and_eq_true _ _ ▸ h).2
                  · omega
          have hkl : key.size ≤ 16 := by
            unfold keyOk at hks
            rw [Lib.size_eq]
            simp at hks
            exact hks.2
          have hsl : sx.size ≤ 268 := by
            have hr := (entryErr_ok E.out).2
            have h4 := rowErr_ok.1 hr
            have := keyL_len h4.2
            rw [Lib.size_eq, Hsx.out, keyT_eq hr]
            omega
          have Hres : Hid (entryT id l key.data.toList = idT id ++ sx.data.toList ++ 0 :: key.data.toList) := Lib.hid (by
            unfold entryT
            rw [if_pos E.out, Hsx.out, keyT_eq (entryErr_ok E.out).2])
          have Hit := Lib.hid (fun wx => idText_any id Hids.out wx)
          obtain ⟨ix, hix⟩ : ∃ ix : ByteArray, ⟨(idT id).toArray⟩ = ix := ⟨_, rfl⟩
          have Hix : Hid (ix.data.toList = idT id) := Lib.hid (by rw [← hix])
          have hixs : ix.size = 2 := by rw [Lib.size_eq, Hix.out]; rfl
          rw [hix] at Hit
          have hcv0 : ∀ wx : World, (convert 118 9 (.slice (some ⟨wx.heap.size, 0, none⟩) 1 1)).run Tryz.prog (wx.alloc (.cells #[.int .u8 0] 5)) = .ok (.string ⟨#[0]⟩) (wx.alloc (.cells #[.int .u8 0] 5)) := fun wx => string_run (lit_bytes wx [0] 5 #[.int .u8 0] rfl) 1
          have Hend : Hid (Ending.returned (.tuple #[.string (ix ++ sx ++ ⟨#[0]⟩ ++ key), .int .i64 0]) = .returned (.tuple #[.string ⟨(entryT id l key.data.toList).toArray⟩, .int .i64 ((0 : Nat) : Int)])) := Lib.hid (by
            have e : ix ++ sx ++ ⟨#[0]⟩ ++ key = ⟨(entryT id l key.data.toList).toArray⟩ := bytes_ext (by
              simp only [ByteArray.data_append, Array.toList_append, Hix.out, Hres.out, List.append_assoc]
              rfl)
            rw [e]
            rfl)
          clear hix hks
          go_enter Tryz.func38, Tryz.ntmps38
          go_wp2_with fail
          refine Hk.out.mono ?_
          rintro e w1 ⟨rfl, hb1⟩
          have Hb1 := Lib.hid hb1
          clear hb1
          go_wp2_with fail
          refine (Hid1.out _).mono ?_
          rintro e w2 ⟨rfl, rfl⟩
          go_wp2_with fail
          refine (when_any _ _ _).mono ?_
          rintro e w2 ⟨rfl, rfl⟩
          go_wp2_with fail
          refine (when_any _ _ _).mono ?_
          rintro e w2 ⟨rfl, rfl⟩
          go_wp2_with fail
          refine (Hnull.out w1 Hb1.out).mono ?_
          rintro e w2 ⟨rfl, hb2⟩
          have Hb2 := Lib.hid (Hb1.out.trans (hb2.mono Hb1.out.size))
          clear hb2
          go_wp2_with fail
          refine (Hkey.out _).mono ?_
          rintro e w3 ⟨rfl, rfl⟩
          go_wp2_with fail
          refine (when_any _ _ _).mono ?_
          rintro e w3 ⟨rfl, rfl⟩
          go_wp2_with fail
          refine (first_lit _ #[.int .i64 (whenI false 1), .int .i64 (whenI (decide ((2 : Int) < (n : Int))) 4), .int .i64 (rowErr l : Int), .int .i64 (whenI (!keyOk key.data.toList) 1)] _ [whenI false 1, whenI (decide ((2 : Int) < (n : Int))) 4, (rowErr l : Int), whenI (!keyOk key.data.toList) 1] 4 4 0 rfl rfl (by omega) Hf1.out).mono ?_
          rintro e w4 ⟨rfl, rfl⟩
          have Hb4 := Lib.hid (Hb2.out.alloc Hb2.out.size (.cells #[.int .i64 (whenI false 1), .int .i64 (whenI (decide ((2 : Int) < (n : Int))) 4), .int .i64 (rowErr l : Int), .int .i64 (whenI (!keyOk key.data.toList) 1)] 30))
          obtain ⟨w4, hw4⟩ : ∃ w4, w2.alloc (.cells #[.int .i64 (whenI false 1), .int .i64 (whenI (decide ((2 : Int) < (n : Int))) 4), .int .i64 (rowErr l : Int), .int .i64 (whenI (!keyOk key.data.toList) 1)] 30) = w4 := ⟨_, rfl⟩
          rw [hw4] at Hb4 ⊢
          clear hw4
          have hz4 := Hb4.out.size
          go_wp2
          refine wp_region_held_drew (S := fun _ => True) (by kernel_rfl) trivial (fun hHeld => ?_)
          refine wpAnyH_take (i := 0) (oi := ⟨some 42, _, _, _, _, _⟩) (v := .int .i64 id) rfl (by kernel_rfl) (by kernel_rfl) (by kernel_rfl) (fun _ _ _ h => h) (Or.inl ⟨by rfl, ?_⟩) (by assumption) ?_
          · intro w hSw; (try dsimp only at hSw); go_simp
          simp only [Act.put, List.setIfInBounds_toArray, List.set_cons_zero, List.set_cons_succ]
          refine wpAnyH_take (i := 2) (oi := ⟨some 44, _, _, _, _, _⟩) (v := .string sx) rfl (by kernel_rfl) (by kernel_rfl) (by kernel_rfl) (fun _ _ _ h => h) (Or.inl ⟨by rfl, ?_⟩) (by assumption) ?_
          · intro w hSw; (try dsimp only at hSw); go_simp
          simp only [Act.put, List.setIfInBounds_toArray, List.set_cons_zero, List.set_cons_succ]
          refine wpAnyH_take (i := 7) (oi := ⟨some 49, _, _, _, _, _⟩) (v := .string key) rfl (by kernel_rfl) (by kernel_rfl) (by kernel_rfl) (fun _ _ _ h => h) (Or.inl ⟨by rfl, ?_⟩) (by assumption) ?_
          · intro w hSw; (try dsimp only at hSw); go_simp
          simp only [Act.put, List.setIfInBounds_toArray, List.set_cons_zero, List.set_cons_succ]
          refine wpAnyH_ready (rs := [1, 4]) (by kernel_rfl) (by simp) (AllReadyH.cons (o := ⟨some 43, _, _, _, _, _⟩) rfl (fun K hK => ?_) (AllReadyH.cons (o := ⟨some 46, _, _, _, _, _⟩) rfl (fun K hK => ?_) AllReadyH.nil))
          · go_simp
            refine (Hit.out _).mono ?_
            rintro e w9 ⟨rfl, hb9⟩
            have Hb9 : Hid (Below w.heap.size w w9) := Lib.hid (Hb4.out.trans (((((Below.refl _ w4).drew).trans hb9)).mono hz4))
            clear hb9
            refine hK.out _ _ trivial (fun _ => ?_)
            clear hK K
            refine wpAnyH_take (i := 3) (oi := ⟨some 45, _, _, _, _, _⟩) (v := .string (ix ++ sx)) rfl (by kernel_rfl) (by kernel_rfl) (by kernel_rfl) (fun _ _ _ h => h) (Or.inl ⟨by rfl, ?_⟩) (by assumption) ?_
            · intro w hSw; (try dsimp only at hSw); (go_simp <;> omega)
            simp only [Act.put, List.setIfInBounds_toArray, List.set_cons_zero, List.set_cons_succ]
            refine wpAnyH_ready (rs := [4]) (by kernel_rfl) (by simp) (AllReadyH.cons (o := ⟨some 46, _, _, _, _, _⟩) rfl (fun K hK => ?_) AllReadyH.nil)
            go_simp
            refine hK.out _ _ trivial (fun _ => ?_)
            clear hK K
            refine held_more (S' := fun wx => (convert 118 9 (.slice (some ⟨w9.heap.size, 0, none⟩) 1 1)).run Tryz.prog wx = .ok (.string ⟨#[0]⟩) wx) (fun _ _ => trivial) _ _ _ _ ?_
            have hS9 : (fun wx => (convert 118 9 (.slice (some ⟨w9.heap.size, 0, none⟩) 1 1)).run Tryz.prog wx = .ok (.string ⟨#[0]⟩) wx) (w9.alloc (.cells #[.int .u8 0] 5)) := hcv0 w9
            refine wpAnyH_take (i := 5) (oi := ⟨some 47, _, _, _, _, _⟩) (v := .string ⟨#[0]⟩) rfl (by kernel_rfl) (by kernel_rfl) (by kernel_rfl) (fun _ _ _ h => h) (Or.inl ⟨by rfl, ?_⟩) (by assumption) ?_
            · intro w hSw; (try dsimp only at hSw); go_simp
            simp only [Act.put, List.setIfInBounds_toArray, List.set_cons_zero, List.set_cons_succ]
            refine wpAnyH_take (i := 6) (oi := ⟨some 48, _, _, _, _, _⟩) (v := .string (ix ++ sx ++ ⟨#[0]⟩)) rfl (by kernel_rfl) (by kernel_rfl) (by kernel_rfl) (fun _ _ _ h => h) (Or.inl ⟨by rfl, ?_⟩) (by assumption) ?_
            · intro w hSw; (try dsimp only at hSw); (go_simp <;> omega)
            simp only [Act.put, List.setIfInBounds_toArray, List.set_cons_zero, List.set_cons_succ]
            refine wpAnyH_take (i := 8) (oi := ⟨some 50, _, _, _, _, _⟩) (v := .string (ix ++ sx ++ ⟨#[0]⟩ ++ key)) rfl (by kernel_rfl) (by kernel_rfl) (by kernel_rfl) (fun _ _ _ h => h) (Or.inl ⟨by rfl, ?_⟩) (by assumption) ?_
            · intro w hSw; (try dsimp only at hSw); (go_simp <;> omega)
            simp only [Act.put, List.setIfInBounds_toArray, List.set_cons_zero, List.set_cons_succ]
            refine wpAnyH_take (i := 9) (oi := ⟨some 6, _, _, _, _, _⟩) (v := .string (ix ++ sx ++ ⟨#[0]⟩ ++ key)) rfl (by kernel_rfl) (by kernel_rfl) (by kernel_rfl) (fun _ _ _ h => h) (Or.inl ⟨by rfl, ?_⟩) (by assumption) ?_
            · intro w hSw; (try dsimp only at hSw); go_simp
            simp only [Act.put, List.setIfInBounds_toArray, List.set_cons_zero, List.set_cons_succ]
            refine wpAnyH_take (i := 10) (oi := ⟨some 7, _, _, _, _, _⟩) (v := .int .i64 0) rfl (by kernel_rfl) (by kernel_rfl) (by kernel_rfl) (fun _ _ _ h => h) (Or.inl ⟨by rfl, ?_⟩) (by assumption) ?_
            · intro w hSw; (try dsimp only at hSw); go_simp
            simp only [Act.put, List.setIfInBounds_toArray, List.set_cons_zero, List.set_cons_succ]
            refine wpAnyH_done (by kernel_rfl) ?_ _
            go_wp2
            go_ret2
            exact ⟨by rw [E.out]; exact Hend.out, Hb9.out.alloc Hb9.out.size _⟩
          · go_simp
            refine hK.out _ _ trivial (fun _ => ?_)
            clear hK K
            refine held_more (S' := fun wx => (convert 118 9 (.slice (some ⟨w4.heap.size, 0, none⟩) 1 1)).run Tryz.prog wx = .ok (.string ⟨#[0]⟩) wx) (fun _ _ => trivial) _ _ _ _ ?_
            have hS4 : (fun wx => (convert 118 9 (.slice (some ⟨w4.heap.size, 0, none⟩) 1 1)).run Tryz.prog wx = .ok (.string ⟨#[0]⟩) wx) (w4.drew.alloc (.cells #[.int .u8 0] 5)) := hcv0 w4.drew
            refine wpAnyH_take (i := 5) (oi := ⟨some 47, _, _, _, _, _⟩) (v := .string ⟨#[0]⟩) rfl (by kernel_rfl) (by kernel_rfl) (by kernel_rfl) (fun _ _ _ h => h) (Or.inl ⟨by rfl, ?_⟩) (by assumption) ?_
            · intro w hSw; (try dsimp only at hSw); go_simp
            simp only [Act.put, List.setIfInBounds_toArray, List.set_cons_zero, List.set_cons_succ]
            refine wpAnyH_ready (rs := [1]) (by kernel_rfl) (by simp) (AllReadyH.cons (o := ⟨some 43, _, _, _, _, _⟩) rfl (fun K hK => ?_) AllReadyH.nil)
            go_simp
            refine (Hit.out _).mono ?_
            rintro e w9 ⟨rfl, hb9⟩
            have hS9 : (fun wx => (convert 118 9 (.slice (some ⟨w4.heap.size, 0, none⟩) 1 1)).run Tryz.prog wx = .ok (.string ⟨#[0]⟩) wx) w9 := string_run (Has.below (lit_bytes w4.drew [0] 5 #[.int .u8 0] rfl) hb9) 1
            have Hb9 : Hid (Below w.heap.size w w9) := Lib.hid ((Hb4.out.drew.alloc hz4 _).trans (hb9.mono (le_alloc hz4 _)))
            clear hb9
            refine hK.out _ _ hS9 (fun _ => ?_)
            clear hK K
            refine wpAnyH_take (i := 3) (oi := ⟨some 45, _, _, _, _, _⟩) (v := .string (ix ++ sx)) rfl (by kernel_rfl) (by kernel_rfl) (by kernel_rfl) (fun _ _ _ h => h) (Or.inl ⟨by rfl, ?_⟩) (by assumption) ?_
            · intro w hSw; (try dsimp only at hSw); (go_simp <;> omega)
            simp only [Act.put, List.setIfInBounds_toArray, List.set_cons_zero, List.set_cons_succ]
            refine wpAnyH_take (i := 6) (oi := ⟨some 48, _, _, _, _, _⟩) (v := .string (ix ++ sx ++ ⟨#[0]⟩)) rfl (by kernel_rfl) (by kernel_rfl) (by kernel_rfl) (fun _ _ _ h => h) (Or.inl ⟨by rfl, ?_⟩) (by assumption) ?_
            · intro w hSw; (try dsimp only at hSw); (go_simp <;> omega)
            simp only [Act.put, List.setIfInBounds_toArray, List.set_cons_zero, List.set_cons_succ]
            refine wpAnyH_take (i := 8) (oi := ⟨some 50, _, _, _, _, _⟩) (v := .string (ix ++ sx ++ ⟨#[0]⟩ ++ key)) rfl (by kernel_rfl) (by kernel_rfl) (by kernel_rfl) (fun _ _ _ h => h) (Or.inl ⟨by rfl, ?_⟩) (by assumption) ?_
            · intro w hSw; (try dsimp only at hSw); (go_simp <;> omega)
            simp only [Act.put, List.setIfInBounds_toArray, List.set_cons_zero, List.set_cons_succ]
            refine wpAnyH_take (i := 9) (oi := ⟨some 6, _, _, _, _, _⟩) (v := .string (ix ++ sx ++ ⟨#[0]⟩ ++ key)) rfl (by kernel_rfl) (by kernel_rfl) (by kernel_rfl) (fun _ _ _ h => h) (Or.inl ⟨by rfl, ?_⟩) (by assumption) ?_
            · intro w hSw; (try dsimp only at hSw); go_simp
            simp only [Act.put, List.setIfInBounds_toArray, List.set_cons_zero, List.set_cons_succ]
            refine wpAnyH_take (i := 10) (oi := ⟨some 7, _, _, _, _, _⟩) (v := .int .i64 0) rfl (by kernel_rfl) (by kernel_rfl) (by kernel_rfl) (fun _ _ _ h => h) (Or.inl ⟨by rfl, ?_⟩) (by assumption) ?_
            · intro w hSw; (try dsimp only at hSw); go_simp
            simp only [Act.put, List.setIfInBounds_toArray, List.set_cons_zero, List.set_cons_succ]
            refine wpAnyH_done (by kernel_rfl) ?_ _
            go_wp2
            go_ret2
            exact ⟨by rw [E.out]; exact Hend.out, Hb9.out⟩
        · obtain ⟨⟨hz1, hz2⟩, e2⟩ := Hne.out hne
          have E2 := Lib.hid e2
          clear hne e2
          go_enter Tryz.func38, Tryz.ntmps38
          go_wp2_with fail
          refine Hk.out.mono ?_
          rintro e w1 ⟨rfl, hb1⟩
          have Hb1 := Lib.hid hb1
          clear hb1
          go_wp2_with fail
          refine (Hid1.out _).mono ?_
          rintro e w2 ⟨rfl, rfl⟩
          go_wp2_with fail
          refine (when_any _ _ _).mono ?_
          rintro e w2 ⟨rfl, rfl⟩
          go_wp2_with fail
          refine (when_any _ _ _).mono ?_
          rintro e w2 ⟨rfl, rfl⟩
          go_wp2_with fail
          refine (Hnull.out w1 Hb1.out).mono ?_
          rintro e w2 ⟨rfl, hb2⟩
          have Hb2 := Lib.hid (Hb1.out.trans (hb2.mono Hb1.out.size))
          clear hb2
          go_wp2_with fail
          refine (Hkey.out _).mono ?_
          rintro e w3 ⟨rfl, rfl⟩
          go_wp2_with fail
          refine (when_any _ _ _).mono ?_
          rintro e w3 ⟨rfl, rfl⟩
          go_wp2_with fail
          refine (first_lit _ #[.int .i64 (whenI false 1), .int .i64 (whenI (decide ((2 : Int) < (n : Int))) 4), .int .i64 (rowErr l : Int), .int .i64 (whenI (!keyOk key.data.toList) 1)] _ [whenI false 1, whenI (decide ((2 : Int) < (n : Int))) 4, (rowErr l : Int), whenI (!keyOk key.data.toList) 1] 4 4 (entryErr id l key.data.toList : Int) rfl rfl (by omega) Hf1.out).mono ?_
          rintro e w4 ⟨rfl, rfl⟩
          have Hb4 := Lib.hid (Hb2.out.alloc Hb2.out.size (.cells #[.int .i64 (whenI false 1), .int .i64 (whenI (decide ((2 : Int) < (n : Int))) 4), .int .i64 (rowErr l : Int), .int .i64 (whenI (!keyOk key.data.toList) 1)] 30))
          go_wp2
          go_ret2
          exact ⟨by rw [E2.out]; rfl, Hb4.out⟩

end Go.Proofs.YtknfjajmnlpfjaaGreat

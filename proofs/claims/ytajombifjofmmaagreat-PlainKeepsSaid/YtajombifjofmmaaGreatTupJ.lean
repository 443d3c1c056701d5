/- The document's Compare gives what the plain text (SpecTuple) gives. Condition: the rows are in memory. -/
import Derived.Test.YtajombifjofmmaaGreatTupI
import Derived.Test.YtajombifjofmmaaGreatSpecCut
namespace Go.Proofs.YtajombifjofmmaaGreat
open Go.RowKit
open Go.Lib (strCells compareBytes)

theorem decide_sgn (a b : Int) : decide (a < b) = decide (sgn a b = -1) := by
  unfold sgn
  by_cases h : a < b
  · simp [h]
  · by_cases h' : b < a
    · simp [h, h']
    · simp [h, h']
theorem below_good {v u : TVal} (hv : goodV v = true) (hu : goodV u = true) : (if v.k ≠ u.k then decide (v.k < u.k) else if v.k = 1 then decide (v.n < u.n) else Op.bytesLess v.s.toList u.s.toList) = decide (cmpV v u = -1) := by
  rw [goodV_iff] at hv hu
  rw [Lib.toList_data, Lib.toList_data, bytesLess_cmp, decide_sgn, decide_sgn]
  unfold cmpV
  simp only [TVal.t] at *
  by_cases hk : v.k = u.k
  · simp only [hk, ne_eq, not_true, if_false]
    rcases hv with ⟨h1, h2, h3⟩ | ⟨h1, h3⟩ | ⟨h1, h2, h3⟩ <;> rcases hu with ⟨g1, g2, g3⟩ | ⟨g1, g3⟩ | ⟨g1, g2, g3⟩ <;> first | (exfalso; omega) | skip
    · simp [g1, h2, g2]
    · rw [if_pos g1]
      by_cases hn : v.n = u.n
      · simp [hn, h3, g3, sgn, compareBytes]
      · simp [hn]
    · simp [g1, h2, g2]
  · simp [hk]
theorem refBelow_good (v u : TVal) (w : World) (hv : goodV v = true) (hu : goodV u = true) :
    Calls Tryz.prog 123 #[vagg v, vagg u] w fun e w' => e = .returned (.bool (decide (cmpV v u = -1))) ∧ Below w.heap.size w w' := by
  have := refBelow_any v u w
  rw [below_good hv hu] at this
  exact this

set_option maxHeartbeats 800000 in
theorem refCompare_any (A A' : Option Addr) (n n' c c' B : Nat) (l m : List TVal) (w : World) (h : HasVals w B A n l) (h' : HasVals w B A' n' m) (hn : n ≤ maxLen) (hn' : n' ≤ maxLen) (hw : B ≤ w.heap.size) :
    Calls Tryz.prog 93 #[.slice A n c, .slice A' n' c'] w fun e w' => e = .returned (.int .i64 (cmpT l m)) ∧ Below w.heap.size w w' := by
  have H := Lib.hid h
  have H' := Lib.hid h'
  clear h h'
  have Hl := Lib.hid H.out.1
  have Hm' := Lib.hid H'.out.1
  have Hcall1 := Lib.hid (refRow_any A n c B l w H.out hn hw)
  rcases rowErr_num l with hl | ⟨hl1, hl2, hl3⟩
  · rw [hl] at Hcall1
    rcases rowErr_num m with hm | ⟨hm1, hm2, hm3⟩
    · have E : Hid (cmpT l m = cmpRow l m) := Lib.hid (by unfold cmpT; rw [if_neg (by omega)])
      have Hm := Lib.hid hm
      have Hgl := Lib.hid (rowErr_ok.1 hl)
      have Hgm := Lib.hid (rowErr_ok.1 hm)
      have hn4 : n ≤ 4 := by have := Hgl.out.1; have := Hl.out; omega
      have hn4' : n' ≤ 4 := by have := Hgm.out.1; have := Hm'.out; omega
      clear hl hm
      go_enter Tryz.func93, Tryz.ntmps93
      go_wp2_with fail
      refine Hcall1.out.mono ?_
      rintro e w1 ⟨rfl, hb1⟩
      have hsz := hb1.size
      have Hb1 := Lib.hid hb1
      clear hb1
      have Hcall2 := Lib.hid (refRow_any A' n' c' B m w1 (H'.out.belowOf Hb1.out hw) hn' (by omega))
      rw [Hm.out] at Hcall2
      go_wp2_with fail
      refine Hcall2.out.mono ?_
      rintro e w2 ⟨rfl, hb2⟩
      have Hb2 := Lib.hid (Hb1.out.trans (hb2.mono hsz))
      clear hb2
      clear Hcall1 Hcall2
      go_wp2
      go_loopw [5] (fun i wr => ∃ k : Nat, k ≤ n ∧ k ≤ n' ∧ i = .int .i64 (k : Int) ∧ Hid (cmpRow l m = cmpRow (l.drop k) (m.drop k)) ∧ Below w.heap.size w wr) (fun i _ => n - (intOf i).toNat)
      case atStart => exact ⟨0, by omega, by omega, rfl, Lib.hid (by simp), Hb2.out⟩
      case round =>
        obtain ⟨k, hk, hk', rfl, Hc, hb⟩ := hrel
        have Hb := Lib.hid hb
        have hszr := hb.size
        clear hb
        by_cases hlt : k < n
        · by_cases hlt' : k < n'
          · have H1 := Lib.hid (H.out.belowOf Hb.out hw)
            obtain ⟨a, v, rfl, ha, hv, c0, c1, c2⟩ := H1.out.at_ hlt
            have H2 := Lib.hid (H'.out.belowOf Hb.out hw)
            obtain ⟨a', u, rfl, ha', hu, d0, d1, d2⟩ := H2.out.at_ hlt'
            have Hat := Lib.hid (cmpRow_at hv hu)
            have Hgv := Lib.hid (Hgl.out.2 v (List.mem_of_getElem? hv))
            have Hgu := Lib.hid (Hgm.out.2 u (List.mem_of_getElem? hu))
            clear hv hu
            have hab : (a.add (k * 3)).block < wr.heap.size := by rw [addr_block]; omega
            have hab' : (a'.add (k * 3)).block < wr.heap.size := by rw [addr_block]; omega
            have Hs := Lib.hid (fun wx (hx : Below wr.heap.size wr wx) => (⟨(hx.cell hab).trans c0, (hx.cell (p := ⟨(a.add (k * 3)).block, (a.add (k * 3)).off + 1, none⟩) hab).trans c1, (hx.cell (p := ⟨(a.add (k * 3)).block, (a.add (k * 3)).off + 2, none⟩) hab).trans c2,
              (hx.cell hab').trans d0, (hx.cell (p := ⟨(a'.add (k * 3)).block, (a'.add (k * 3)).off + 1, none⟩) hab').trans d1, (hx.cell (p := ⟨(a'.add (k * 3)).block, (a'.add (k * 3)).off + 2, none⟩) hab').trans d2⟩ :
                wx.cell? (a.add (k * 3)) = some (.int .i64 v.k) ∧ wx.cell? ⟨(a.add (k * 3)).block, (a.add (k * 3)).off + 1, none⟩ = some (.int .i64 v.n) ∧ wx.cell? ⟨(a.add (k * 3)).block, (a.add (k * 3)).off + 2, none⟩ = some (.string v.s) ∧
                wx.cell? (a'.add (k * 3)) = some (.int .i64 u.k) ∧ wx.cell? ⟨(a'.add (k * 3)).block, (a'.add (k * 3)).off + 1, none⟩ = some (.int .i64 u.n) ∧ wx.cell? ⟨(a'.add (k * 3)).block, (a'.add (k * 3)).off + 2, none⟩ = some (.string u.s)))
            rcases cmpV_cases v u with hc | hc | hc
            · have E2 : Hid (cmpRow l m = -1) := Lib.hid (by rw [Hc.out, Hat.out, if_neg (by omega), hc])
              have Hcall := Lib.hid (fun wx => refBelow_good v u wx Hgv.out Hgu.out)
              rw [hc] at Hcall
              clear hc
              go_wp2
              go_region_held3 (fun wx => wx.cell? (a.add (k * 3)) = some (.int .i64 v.k) ∧ wx.cell? ⟨(a.add (k * 3)).block, (a.add (k * 3)).off + 1, none⟩ = some (.int .i64 v.n) ∧ wx.cell? ⟨(a.add (k * 3)).block, (a.add (k * 3)).off + 2, none⟩ = some (.string v.s) ∧
                wx.cell? (a'.add (k * 3)) = some (.int .i64 u.k) ∧ wx.cell? ⟨(a'.add (k * 3)).block, (a'.add (k * 3)).off + 1, none⟩ = some (.int .i64 u.n) ∧ wx.cell? ⟨(a'.add (k * 3)).block, (a'.add (k * 3)).off + 2, none⟩ = some (.string u.s))
                (first | go_keep | exact Hs.out _ Hb3.out)
                ((go_at_call 123; refine (Hcall.out _).mono ?_; rintro e w3 ⟨rfl, hb3⟩; have Hb3 : Hid (Below wr.heap.size wr w3) := Lib.hid (((Below.refl _ wr).drew).trans hb3); clear hb3))
              go_wp2
              go_ret
              exact ⟨ret_i64 (by rw [E.out, E2.out]), Hb.out.trans (Hb3.out.mono hszr)⟩
            · have E2 : Hid (cmpRow l m = cmpRow (l.drop (k + 1)) (m.drop (k + 1))) := Lib.hid (by rw [Hc.out, Hat.out, if_pos hc])
              have Hcall := Lib.hid (fun wx => refBelow_good v u wx Hgv.out Hgu.out)
              have Hcallr := Lib.hid (fun wx => refBelow_good u v wx Hgu.out Hgv.out)
              rw [cmpV_neg v u, hc] at Hcallr
              rw [hc] at Hcall
              clear hc
              go_wp2
              go_region_held3 (fun wx => wx.cell? (a.add (k * 3)) = some (.int .i64 v.k) ∧ wx.cell? ⟨(a.add (k * 3)).block, (a.add (k * 3)).off + 1, none⟩ = some (.int .i64 v.n) ∧ wx.cell? ⟨(a.add (k * 3)).block, (a.add (k * 3)).off + 2, none⟩ = some (.string v.s) ∧
                wx.cell? (a'.add (k * 3)) = some (.int .i64 u.k) ∧ wx.cell? ⟨(a'.add (k * 3)).block, (a'.add (k * 3)).off + 1, none⟩ = some (.int .i64 u.n) ∧ wx.cell? ⟨(a'.add (k * 3)).block, (a'.add (k * 3)).off + 2, none⟩ = some (.string u.s))
                (first | go_keep | exact Hs.out _ Hb3.out)
                ((go_at_call 123; refine (Hcall.out _).mono ?_; rintro e w3 ⟨rfl, hb3⟩; have Hb3 : Hid (Below wr.heap.size wr w3) := Lib.hid (((Below.refl _ wr).drew).trans hb3); clear hb3))
              go_wp2
              go_region_held3 (fun wx => wx.cell? (a.add (k * 3)) = some (.int .i64 v.k) ∧ wx.cell? ⟨(a.add (k * 3)).block, (a.add (k * 3)).off + 1, none⟩ = some (.int .i64 v.n) ∧ wx.cell? ⟨(a.add (k * 3)).block, (a.add (k * 3)).off + 2, none⟩ = some (.string v.s) ∧
                wx.cell? (a'.add (k * 3)) = some (.int .i64 u.k) ∧ wx.cell? ⟨(a'.add (k * 3)).block, (a'.add (k * 3)).off + 1, none⟩ = some (.int .i64 u.n) ∧ wx.cell? ⟨(a'.add (k * 3)).block, (a'.add (k * 3)).off + 2, none⟩ = some (.string u.s))
                (first | go_keep | exact Hs.out _ Hb4.out)
                ((go_at_call 123; refine (Hcallr.out _).mono ?_; rintro e w4 ⟨rfl, hb4⟩; have Hb4 : Hid (Below wr.heap.size wr w4) := Lib.hid ((Hb3.out.drew).trans (hb4.mono Hb3.out.size)); clear hb4))
              go_wp2
              go_roundw
              case rel => exact ⟨k + 1, by omega, by omega, by go_num, E2, Hb.out.trans (Hb4.out.mono hszr)⟩
              case measure => simp [intOf]; omega
            · have E2 : Hid (cmpRow l m = 1) := Lib.hid (by rw [Hc.out, Hat.out, if_neg (by omega), hc])
              have Hcall := Lib.hid (fun wx => refBelow_good v u wx Hgv.out Hgu.out)
              have Hcallr := Lib.hid (fun wx => refBelow_good u v wx Hgu.out Hgv.out)
              rw [cmpV_neg v u, hc] at Hcallr
              rw [hc] at Hcall
              clear hc
              go_wp2
              go_region_held3 (fun wx => wx.cell? (a.add (k * 3)) = some (.int .i64 v.k) ∧ wx.cell? ⟨(a.add (k * 3)).block, (a.add (k * 3)).off + 1, none⟩ = some (.int .i64 v.n) ∧ wx.cell? ⟨(a.add (k * 3)).block, (a.add (k * 3)).off + 2, none⟩ = some (.string v.s) ∧
                wx.cell? (a'.add (k * 3)) = some (.int .i64 u.k) ∧ wx.cell? ⟨(a'.add (k * 3)).block, (a'.add (k * 3)).off + 1, none⟩ = some (.int .i64 u.n) ∧ wx.cell? ⟨(a'.add (k * 3)).block, (a'.add (k * 3)).off + 2, none⟩ = some (.string u.s))
                (first | go_keep | exact Hs.out _ Hb3.out)
                ((go_at_call 123; refine (Hcall.out _).mono ?_; rintro e w3 ⟨rfl, hb3⟩; have Hb3 : Hid (Below wr.heap.size wr w3) := Lib.hid (((Below.refl _ wr).drew).trans hb3); clear hb3))
              go_wp2
              go_region_held3 (fun wx => wx.cell? (a.add (k * 3)) = some (.int .i64 v.k) ∧ wx.cell? ⟨(a.add (k * 3)).block, (a.add (k * 3)).off + 1, none⟩ = some (.int .i64 v.n) ∧ wx.cell? ⟨(a.add (k * 3)).block, (a.add (k * 3)).off + 2, none⟩ = some (.string v.s) ∧
                wx.cell? (a'.add (k * 3)) = some (.int .i64 u.k) ∧ wx.cell? ⟨(a'.add (k * 3)).block, (a'.add (k * 3)).off + 1, none⟩ = some (.int .i64 u.n) ∧ wx.cell? ⟨(a'.add (k * 3)).block, (a'.add (k * 3)).off + 2, none⟩ = some (.string u.s))
                (first | go_keep | exact Hs.out _ Hb4.out)
                ((go_at_call 123; refine (Hcallr.out _).mono ?_; rintro e w4 ⟨rfl, hb4⟩; have Hb4 : Hid (Below wr.heap.size wr w4) := Lib.hid ((Hb3.out.drew).trans (hb4.mono Hb3.out.size)); clear hb4))
              go_wp2
              go_ret
              exact ⟨ret_i64 (by rw [E.out, E2.out]), Hb.out.trans (Hb4.out.mono hszr)⟩
          · have E2 : Hid (cmpRow l m = 1) := Lib.hid (by rw [Hc.out, cmpRow_behind (by have := Hl.out; omega) (by have := Hm'.out; omega)])
            have hlt2 : n' < n := by omega
            obtain rfl : k = n' := by omega
            go_wp2
            go_ret
            exact ⟨ret_i64 (by rw [E.out, E2.out]), Hb.out⟩
        · obtain rfl : k = n := by omega
          by_cases hlt' : k < n'
          · have E2 : Hid (cmpRow l m = -1) := Lib.hid (by rw [Hc.out, cmpRow_end (by have := Hl.out; omega), if_pos (by have := Hm'.out; omega)])
            go_wp2
            go_ret
            exact ⟨ret_i64 (by rw [E.out, E2.out]), Hb.out⟩
          · have E2 : Hid (cmpRow l m = 0) := Lib.hid (by rw [Hc.out, cmpRow_end (by have := Hl.out; omega), if_neg (by have := Hm'.out; omega)])
            obtain rfl : n' = k := by omega
            go_wp2
            go_ret
            exact ⟨ret_i64 (by rw [E.out, E2.out]), Hb.out⟩
    · have E : Hid (cmpT l m = 0) := Lib.hid (by unfold cmpT; rw [if_pos (.inr hm3)])
      clear hl hm3
      go_enter Tryz.func93, Tryz.ntmps93
      go_wp2_with fail
      refine Hcall1.out.mono ?_
      rintro e w1 ⟨rfl, hb1⟩
      have hsz := hb1.size
      have Hb1 := Lib.hid hb1
      clear hb1
      go_wp2_with fail
      refine (refRow_any A' n' c' B m w1 (H'.out.belowOf Hb1.out hw) hn' (by omega)).mono ?_
      rintro e w2 ⟨rfl, hb2⟩
      have Hb2 := Lib.hid (Hb1.out.trans (hb2.mono hsz))
      clear hb2
      go_wp2
      go_ret
      exact ⟨ret_i64 (by rw [E.out]), Hb2.out⟩
  · have E : Hid (cmpT l m = 0) := Lib.hid (by unfold cmpT; rw [if_pos (.inl hl3)])
    clear hl3
    go_enter Tryz.func93, Tryz.ntmps93
    go_wp2_with fail
    refine Hcall1.out.mono ?_
    rintro e w1 ⟨rfl, hb1⟩
    have Hb1 := Lib.hid hb1
    clear hb1
    go_wp2
    go_ret
    exact ⟨ret_i64 (by rw [E.out]), Hb1.out⟩

end Go.Proofs.YtajombifjofmmaaGreat

/- SpanIn: a text is in the least form, and in what is left without a range, just if it is in one of the ranges, and not in that one. No condition. -/
import Derived.Test.YtoifhpeohbbekaaRngQ
import Derived.Test.YtoifhpeohbbekaaOpenRng
import Derived.Test.YtoifhpeohbbekaaRow
namespace Go.Proofs.Ytoifhpeohbbekaa
open Go.RowKit
open Go.Lib (strCells compareBytes)

/-- how many ranges have a text -/
def cnt (m : List Rg) (s : List UInt8) : Nat := (m.filter fun x => decide (hasR x s)).length
theorem cnt_take {m : List Rg} {k : Nat} {x : Rg} (h : m[k]? = some x) (s : List UInt8) : cnt (m.take (k + 1)) s = cnt (m.take k) s + (if hasR x s then 1 else 0) := by
  unfold cnt
  rw [List.take_add_one, h, List.filter_append, List.length_append]
  by_cases hx : hasR x s <;> simp [hx]
theorem cnt_none : ∀ {m : List Rg} {s : List UInt8}, ¬ inS m s → cnt m s = 0
  | [], _, _ => rfl
  | x :: m, s, h => by
    rw [in_cons] at h
    have h1 : ¬ hasR x s := fun e => h (.inl e)
    have h2 : ¬ inS m s := fun e => h (.inr e)
    have := cnt_none h2
    unfold cnt at this ⊢
    simp [h1, this]
theorem cnt_form : ∀ {m : List Rg} (_ : Form m) (s : List UInt8), cnt m s = if inS m s then 1 else 0
  | [], _, s => by rw [if_neg (in_nil s)]; rfl
  | x :: m, h, s => by
    by_cases hx : hasR x s
    · have h2 : ¬ inS m s := fun e => by
        obtain ⟨t1, t2⟩ := form_tail h e
        rcases hx.2 with h3 | h3
        · exact t1 h3
        · exact lt_asymm' t2 h3
      rw [if_pos (in_cons.2 (.inl hx))]
      have := cnt_none h2
      unfold cnt at this ⊢
      simp [hx, this]
    · have ih := cnt_form (form_cons h).2.2 s
      have e : inS (x :: m) s ↔ inS m s := in_cons.trans (or_iff_right hx)
      have e2 : cnt (x :: m) s = cnt m s := by unfold cnt; simp [hx]
      rw [e2, ih]
      by_cases h3 : inS m s
      · rw [if_pos h3, if_pos (e.2 h3)]
      · rw [if_neg h3, if_neg (fun h4 => h3 (e.1 h4))]
set_option maxRecDepth 100000 in
set_option maxHeartbeats 6400000 in
theorem in_walk (A : Option Addr) (n ca : Nat) (l : List Rg) (r : Rg) (s : ByteArray) (w : World) (h : HasRgs w w.heap.size A n l) (hnc : n ≤ ca) (hm : ca ≤ maxLen) (hs : ∀ u ∈ l, u.lo.size ≤ maxLen ∧ u.hi.size ≤ maxLen) (hr : r.lo.size ≤ maxLen ∧ r.hi.size ≤ maxLen) (hss : s.size ≤ maxLen) :
    Calls Try.prog 9 #[.slice A n ca, ragg r, .string s] w fun e w' => e = .returned (.bool true) ∧ Below w.heap.size w w' := by
  have H := Lib.hid h
  have Hl := Lib.hid h.1
  have Hl1 : Hid (∀ wx, Below w.heap.size w wx → Calls Try.prog 36 #[.slice A n ca, .int .i64 20] wx (LightPost l 20 wx)) := Lib.hid (fun wx hx => lightR_any A n ca w.heap.size 20 l wx (h.belowOf hx (Nat.le_refl _)) (by omega) hs)
  have Hl2 : Hid (∀ wx : World, Calls Try.prog 36 #[.slice (some ⟨wx.heap.size, 0, none⟩) 1 1, .int .i64 1] (wx.alloc (.cells #[.string r.lo, .string r.hi] 25)) (LightPost [r] 1 (wx.alloc (.cells #[.string r.lo, .string r.hi] 25)))) := Lib.hid (fun wx => lightR_any (some ⟨wx.heap.size, 0, none⟩) 1 1 (wx.heap.size + 1) 1 [r] _ (one_lit wx r) (by simp [maxLen]) (fun u hu => by simp at hu; subst hu; exact hr))
  have HLe := Lib.hid (fun (hn : n ≤ 20) (hK : Small 200 l) wx (hx : Below w.heap.size w wx) => least_any A n ca w.heap.size 200 l wx (h.belowOf hx (Nat.le_refl _)) hx.size (by omega) hK (by omega))
  have HMi := Lib.hid (fun (hn : n ≤ 20) (hK : Small 200 l) (hK2 : Small 200 [r]) wx (hx : Below w.heap.size w wx) => minus_any A n ca w.heap.size 200 l r wx (h.belowOf hx (Nat.le_refl _)) hx.size (by omega) hK (by omega) (hK2 r (by simp)))
  have Hha := Lib.hid (fun x wx => has_any x s wx)
  unfold maxLen at hss
  clear h hs hr hm hnc
  have Hhr := Lib.hid (fun wx => has_any r s wx)
  obtain ⟨dr, hdr⟩ : ∃ d, decide (hasR r s.data.toList) = d := ⟨_, rfl⟩
  simp only [hdr] at Hhr
  have Hdr := Lib.hid hdr
  obtain ⟨rl, rh⟩ := r
  unfold ragg at *
  simp only at Hl2
  clear hdr
  have HBx : Hid (∀ wx, Below (w.alloc (.cells #[.string rl, .string rh] 25)).heap.size (w.alloc (.cells #[.string rl, .string rh] 25)) wx → (wx.cell? ⟨w.heap.size, 0, none⟩ = some (.string rl) ∧ wx.cell? ⟨w.heap.size, 1, none⟩ = some (.string rh)) ∧ Below w.heap.size w wx) := Lib.hid fun wx hx => by
    have h1 := (Box.made w 25 #[.string rl, .string rh]).below hx (by simp)
    exact ⟨⟨h1.cell 0, h1.cell 1⟩, (below_box _).trans (hx.mono (by simp))⟩
  go_enter Try.func9, Try.ntmps9
  go_wp2_with fail
  refine (awakeR_any _).mono ?_
  rintro e w1 ⟨rfl, hb1⟩
  have Hb1 := Lib.hid hb1
  obtain ⟨⟨p0, p1⟩, hbw1⟩ := HBx.out w1 hb1
  have Hl1' := Lib.hid (Hl1.out w1 hbw1)
  have Hbw1 := Lib.hid hbw1
  clear hb1 hbw1
  go_wp2_with fail
  refine Hl1'.out.mono ?_
  rintro e w1' ⟨t, rfl, ht, rfl⟩
  have Ht := Lib.hid ht
  clear ht
  cases t with
  | false =>
    go_wp2
    go_ret
    exact ⟨rfl, Hbw1.out⟩
  | true =>
    have HtA := Lib.hid (Ht.out rfl)
    clear Ht
    go_wp2_with fail
    refine (Hl2.out _).mono ?_
    rintro e w2' ⟨t2, rfl, ht2, rfl⟩
    have Ht2 := Lib.hid ht2
    have Hb2 := Lib.hid (Hb1.out.alloc Hb1.out.size (.cells #[.string rl, .string rh] 25))
    obtain ⟨w2, hw2⟩ : ∃ w2, w1'.alloc (.cells #[.string rl, .string rh] 25) = w2 := ⟨_, rfl⟩
    rw [hw2] at Hb2 ⊢
    clear ht2 hw2 p0 p1
    have Hbw2 := Lib.hid (HBx.out _ Hb2.out).2
    cases t2 with
    | false =>
      go_wp2
      go_ret
      exact ⟨rfl, Hbw2.out⟩
    | true =>
      have HtB := Lib.hid (Ht2.out rfl)
      clear Ht2
      by_cases hs2 : 200 < s.size
      · have hsd : decide ((200 : Int) < (s.size : Int)) = true := decide_eq_true (by omega)
        go_wp2
        go_ret
        exact ⟨rfl, Hbw2.out⟩
      · have hsd : decide ((200 : Int) < (s.size : Int)) = false := decide_eq_false (by omega)
        have hn20 : n ≤ 20 := by have := HtA.out.1; have := Hl.out; omega
        have HLe1 := Lib.hid (HLe.out hn20 HtA.out.2)
        have HMi1 := Lib.hid (HMi.out hn20 HtA.out.2 HtB.out.2)
        clear hs2 HLe HMi
        go_wp2
        go_loopw [7, 8] (fun bv iv wr => ∃ k : Nat, k ≤ n ∧ iv = .int .i64 (k : Int) ∧ bv = .bool (decide (inS (l.take k) s.data.toList)) ∧ Below w2.heap.size w2 wr) (fun _ iv _ => n - (intOf iv).toNat)
        case atStart => exact ⟨0, by omega, rfl, by rw [show decide (inS (l.take 0) s.data.toList) = false from decide_eq_false (in_nil _)], Below.refl _ _⟩
        case round =>
          obtain ⟨k, hk, rfl, rfl, hb⟩ := hrel
          have Hbk := Lib.hid (Hb2.out.trans (hb.mono Hb2.out.size))
          have Hb := Lib.hid hb
          have hszk := hb.size
          obtain ⟨d, hd⟩ : ∃ d, decide (inS (l.take k) s.data.toList) = d := ⟨_, rfl⟩
          rw [hd]
          by_cases hlt : k < n
          · obtain ⟨a, y, rfl, hab, hy, c0, c1⟩ := (H.out.belowOf (HBx.out _ Hbk.out).2 (Nat.le_refl _)).at_ hlt
            have Hhy := Lib.hid (fun wx => Hha.out y wx)
            have hk0 : (0 : Int) ≤ (k : Int) := by omega
            have hk1 : (k : Int) < (n : Int) := by omega
            obtain ⟨d2, hd2⟩ : ∃ d, decide (hasR y s.data.toList) = d := ⟨_, rfl⟩
            have Hnx : Hid (decide (inS (l.take (k + 1)) s.data.toList) = (d || d2)) := Lib.hid (by
              rw [← hd, ← hd2, ← Bool.decide_or]
              exact decide_eq_decide.2 (take_in hy _))
            simp only [hd2] at Hhy
            obtain ⟨yl, yh⟩ := y
            simp only at c0 c1 Hhy
            clear hy hd hd2 hb
            cases d with
            | true =>
              go_wp2
              go_roundw
              case rel => exact ⟨k + 1, by omega, by go_num, by rw [Hnx.out]; rfl, Hb.out⟩
              case measure => simp [intOf]; omega
            | false =>
              go_wp2_with fail
              refine (Hhy.out _).mono ?_
              rintro e w4 ⟨rfl, b4⟩
              have Hb4 := Lib.hid (Hb.out.trans (b4.mono hszk))
              clear b4
              go_wp2
              go_roundw
              case rel => exact ⟨k + 1, by omega, by go_num, by rw [Hnx.out]; rfl, Hb4.out⟩
              case measure => simp [intOf]; omega
          · obtain rfl : k = n := by omega
            rw [List.take_of_length_le (by have := Hl.out; omega)] at hd
            have Hd := Lib.hid hd
            have HK : Hid (∀ wx, Below (w.alloc (.cells #[.string rl, .string rh] 25)).heap.size (w.alloc (.cells #[.string rl, .string rh] 25)) wx → (wx.cell? ⟨w.heap.size, 0, none⟩ = some (.string rl) ∧ wx.cell? ⟨w.heap.size, 1, none⟩ = some (.string rh)) ∧ Below (w.alloc (.cells #[.string rl, .string rh] 25)).heap.size (w.alloc (.cells #[.string rl, .string rh] 25)) wx) := Lib.hid fun wx hx => ⟨(HBx.out wx hx).1, hx⟩
            generalize wr = wk at *
            clear hd hb Hb
            go_wp2
            go_region_held3 (fun wx => (wx.cell? ⟨w.heap.size, 0, none⟩ = some (.string rl) ∧ wx.cell? ⟨w.heap.size, 1, none⟩ = some (.string rh)) ∧ Below (w.alloc (.cells #[.string rl, .string rh] 25)).heap.size (w.alloc (.cells #[.string rl, .string rh] 25)) wx)
              (first | exact HK.out _ Hbk.out.drew | exact HK.out _ (keep_call (And.right (by assumption)) b1) | exact HK.out _ (keep_call (And.right (by assumption)) b4))
              (first
                | (go_at_call 44; refine (HLe1.out _ (HBx.out _ (And.right (by assumption))).2).mono ?_; rintro e w11 ⟨m1, v1, rfl, o1, f1, k1, -, b1⟩; obtain ⟨A1, c1, rfl, -, -, x1⟩ := o1.slice)
                | (go_at_call 46; refine (HMi1.out _ (HBx.out _ (And.right (by assumption))).2).mono ?_; rintro e w14 ⟨m3, v3, rfl, o3, f3, k3, -, b4⟩; obtain ⟨A3, c3, rfl, -, -, x3⟩ := o3.slice))
            all_goals
              have H14 : Hid (Below (w.alloc (.cells #[.string rl, .string rh] 25)).heap.size (w.alloc (.cells #[.string rl, .string rh] 25)) w14) := Lib.hid (And.right (by assumption))
              have X1 := Lib.hid ((x1.belowOf b4 (Nat.le_refl _)).more b4.size)
              have X3 := Lib.hid x3
              obtain ⟨N1, hN1⟩ : ∃ N, m1.length = N := ⟨_, rfl⟩
              obtain ⟨N3, hN3⟩ : ∃ N, m3.length = N := ⟨_, rfl⟩
              rw [hN1] at X1 k1 ⊢
              rw [hN3] at X3 k3 ⊢
              have HN := Lib.hid (And.intro hN1 hN3)
              have Hc1 : Hid (cnt m1 s.data.toList = if d then 1 else 0) := Lib.hid (by
                rw [cnt_form f1.1, ← Hd.out]
                have := f1.2 s.data.toList
                by_cases h3 : inS m1 s.data.toList
                · rw [if_pos h3, decide_eq_true (this.1 h3)]; rfl
                · rw [if_neg h3, decide_eq_false (fun h4 => h3 (this.2 h4))]; rfl)
              have Hc3 : Hid (cnt m3 s.data.toList = if d && !dr then 1 else 0) := Lib.hid (by
                rw [cnt_form f3.1, ← Hd.out, ← Hdr.out]
                have := f3.2 s.data.toList
                by_cases h3 : inS m3 s.data.toList
                · rw [if_pos h3, decide_eq_true (this.1 h3).1, decide_eq_false (this.1 h3).2]; rfl
                · rw [if_neg h3]
                  by_cases h4 : inS l s.data.toList
                  · have h5 : hasR ⟨rl, rh⟩ s.data.toList := Classical.byContradiction fun h6 => h3 (this.2 ⟨h4, h6⟩)
                    rw [decide_eq_true h4, decide_eq_true h5]; rfl
                  · rw [decide_eq_false h4]; rfl)
              clear o1 o3 f1 f3 b1 b4 x1 x3 hN1 hN3
              clear ‹_ ∧ Below (w.alloc (.cells #[.string rl, .string rh] 25)).heap.size _ w14›
              go_wp2
              go_loopw [9, 13] (fun av iv wr => ∃ j : Nat, j ≤ N1 ∧ iv = .int .i64 (j : Int) ∧ av = .int .i64 (cnt (m1.take j) s.data.toList : Int) ∧ Below w14.heap.size w14 wr) (fun _ iv _ => N1 - (intOf iv).toNat)
              case atStart => exact ⟨0, by omega, rfl, by rw [List.take_zero]; rfl, Below.refl _ _⟩
              case round =>
                obtain ⟨j, hj, rfl, rfl, hb⟩ := hrel
                have Hbj := Lib.hid hb
                have hszj := hb.size
                have Hcj : Hid (cnt (m1.take j) s.data.toList ≤ 40) := Lib.hid (Nat.le_trans (List.length_filter_le _ _) (by rw [List.length_take]; omega))
                obtain ⟨C, hC⟩ : ∃ C, cnt (m1.take j) s.data.toList = C := ⟨_, rfl⟩
                rw [hC] at Hcj ⊢
                have hC40 : C ≤ 40 := Hcj.out
                by_cases hlt : j < N1
                · obtain ⟨a, y, rfl, hab, hy, c0, c1'⟩ := (X1.out.belowOf hb (Nat.le_refl _)).at_ hlt
                  have Hhy := Lib.hid (fun wx => Hha.out y wx)
                  have hk0 : (0 : Int) ≤ (j : Int) := by omega
                  have hk1 : (j : Int) < (N1 : Int) := by omega
                  have hC0 : (0 : Int) ≤ (C : Int) := by omega
                  have Hnx := Lib.hid (cnt_take hy s.data.toList)
                  rw [hC] at Hnx
                  obtain ⟨yl, yh⟩ := y
                  simp only at c0 c1' Hhy
                  clear hb hC hy
                  by_cases hh : hasR ⟨yl, yh⟩ s.data.toList
                  · simp only [decide_eq_true hh] at Hhy
                    rw [if_pos hh] at Hnx
                    clear hh
                    go_wp2_with fail
                    refine (Hhy.out _).mono ?_
                    rintro e w4 ⟨rfl, b4⟩
                    have Hb4 := Lib.hid (Hbj.out.trans (b4.mono hszj))
                    clear b4
                    go_wp2
                    go_roundw
                    case rel => exact ⟨j + 1, by omega, by go_num, by rw [Hnx.out]; go_num, Hb4.out⟩
                    case measure => simp [intOf]; omega
                  · simp only [decide_eq_false hh] at Hhy
                    rw [if_neg hh, Nat.add_zero] at Hnx
                    clear hh
                    go_wp2_with fail
                    refine (Hhy.out _).mono ?_
                    rintro e w4 ⟨rfl, b4⟩
                    have Hb4 := Lib.hid (Hbj.out.trans (b4.mono hszj))
                    clear b4
                    go_wp2
                    go_roundw
                    case rel => exact ⟨j + 1, by omega, by go_num, by rw [Hnx.out]; rfl, Hb4.out⟩
                    case measure => simp [intOf]; omega
                · obtain rfl : j = N1 := by omega
                  rw [List.take_of_length_le (by have := HN.out.1; omega)] at hC
                  have HCa := Lib.hid hC
                  obtain ⟨Ca, hCa⟩ : ∃ Ca, C = Ca := ⟨_, rfl⟩
                  rw [hCa] at HCa ⊢
                  have hszw : w14.heap.size ≤ wr.heap.size := hszj
                  have X3' := Lib.hid ((X3.out.belowOf hb (Nat.le_refl _)).more hb.size)
                  have H14' : Hid (Below (w.alloc (.cells #[.string rl, .string rh] 25)).heap.size (w.alloc (.cells #[.string rl, .string rh] 25)) wr) := Lib.hid (H14.out.trans (hb.mono H14.out.size))
                  have hCa40 : Ca ≤ 40 := by omega
                  clear hb hC hCa hC40 Hcj X3 H14 Hbj
                  generalize wr = w15 at *
                  go_wp2
                  go_loopw [10, 14] (fun av iv wr => ∃ j : Nat, j ≤ N3 ∧ iv = .int .i64 (j : Int) ∧ av = .int .i64 (cnt (m3.take j) s.data.toList : Int) ∧ Below w15.heap.size w15 wr) (fun _ iv _ => N3 - (intOf iv).toNat)
                  case atStart => exact ⟨0, by omega, rfl, by rw [List.take_zero]; rfl, Below.refl _ _⟩
                  case round =>
                    obtain ⟨j, hj, rfl, rfl, hb⟩ := hrel
                    have Hbj := Lib.hid hb
                    have hszj := hb.size
                    have Hcj : Hid (cnt (m3.take j) s.data.toList ≤ 40) := Lib.hid (Nat.le_trans (List.length_filter_le _ _) (by rw [List.length_take]; omega))
                    obtain ⟨C, hC⟩ : ∃ C, cnt (m3.take j) s.data.toList = C := ⟨_, rfl⟩
                    rw [hC] at Hcj ⊢
                    have hC40 : C ≤ 40 := Hcj.out
                    by_cases hlt : j < N3
                    · obtain ⟨a, y, rfl, hab, hy, c0, c1'⟩ := (X3'.out.belowOf hb (Nat.le_refl _)).at_ hlt
                      have Hhy := Lib.hid (fun wx => Hha.out y wx)
                      have hk0 : (0 : Int) ≤ (j : Int) := by omega
                      have hk1 : (j : Int) < (N3 : Int) := by omega
                      have hC0 : (0 : Int) ≤ (C : Int) := by omega
                      have Hnx := Lib.hid (cnt_take hy s.data.toList)
                      rw [hC] at Hnx
                      obtain ⟨yl, yh⟩ := y
                      simp only at c0 c1' Hhy
                      clear hb hC hy
                      by_cases hh : hasR ⟨yl, yh⟩ s.data.toList
                      · simp only [decide_eq_true hh] at Hhy
                        rw [if_pos hh] at Hnx
                        clear hh
                        go_wp2_with fail
                        refine (Hhy.out _).mono ?_
                        rintro e w4 ⟨rfl, b4⟩
                        have Hb4 := Lib.hid (Hbj.out.trans (b4.mono hszj))
                        clear b4
                        go_wp2
                        go_roundw
                        case rel => exact ⟨j + 1, by omega, by go_num, by rw [Hnx.out]; go_num, Hb4.out⟩
                        case measure => simp [intOf]; omega
                      · simp only [decide_eq_false hh] at Hhy
                        rw [if_neg hh, Nat.add_zero] at Hnx
                        clear hh
                        go_wp2_with fail
                        refine (Hhy.out _).mono ?_
                        rintro e w4 ⟨rfl, b4⟩
                        have Hb4 := Lib.hid (Hbj.out.trans (b4.mono hszj))
                        clear b4
                        go_wp2
                        go_roundw
                        case rel => exact ⟨j + 1, by omega, by go_num, by rw [Hnx.out]; rfl, Hb4.out⟩
                        case measure => simp [intOf]; omega
                    · obtain rfl : j = N3 := by omega
                      rw [List.take_of_length_le (by have := HN.out.2; omega)] at hC
                      have HCb := Lib.hid hC
                      have HZ : Hid (Below (w.alloc (.cells #[.string rl, .string rh] 25)).heap.size (w.alloc (.cells #[.string rl, .string rh] 25)) wr) := Lib.hid (H14'.out.trans (hb.mono H14'.out.size))
                      obtain ⟨⟨q0, q1⟩, hbw⟩ := HBx.out wr HZ.out
                      have Hbw := Lib.hid hbw
                      clear hb hbw
                      have e1 := HCa.out.symm.trans Hc1.out
                      have e3 := HCb.out.symm.trans Hc3.out
                      clear hC
                      cases d with
                      | true =>
                        cases dr with
                        | true =>
                          obtain rfl : Ca = 1 := e1
                          obtain rfl : C = 0 := e3
                          clear HCa HCb Hc1 Hc3
                          go_wp2_with fail
                          refine (Hhr.out _).mono ?_
                          rintro e w9 ⟨rfl, b9⟩
                          have Hb9 := Lib.hid (Hbw.out.trans (b9.mono Hbw.out.size))
                          clear b9
                          go_wp2
                          go_ret
                          exact ⟨rfl, Hb9.out⟩
                        | false =>
                          obtain rfl : Ca = 1 := e1
                          obtain rfl : C = 1 := e3
                          clear HCa HCb Hc1 Hc3
                          go_wp2_with fail
                          refine (Hhr.out _).mono ?_
                          rintro e w9 ⟨rfl, b9⟩
                          have Hb9 := Lib.hid (Hbw.out.trans (b9.mono Hbw.out.size))
                          clear b9
                          go_wp2
                          go_ret
                          exact ⟨rfl, Hb9.out⟩
                      | false =>
                        obtain rfl : Ca = 0 := e1
                        obtain rfl : C = 0 := e3
                        clear HCa HCb Hc1 Hc3
                        go_wp2
                        go_ret
                        exact ⟨rfl, Hbw.out⟩

namespace lawSpanIn
open Go.ChangeShapes Go.WideShapes Go.ChangeAt

theorem own : ownKnob Try.prog.godebug = none := by kernel_rfl
theorem kids : Kids Try.prog (· < Try.prog.types.size) := kids_rows (by kernel_rfl) (by kernel_rfl)
theorem full : ∀ t e, t < Try.prog.types.size → Try.prog.underlying t = some (.slice e) → 0 < Try.prog.cellsOf e := slices_full_of Try.prog (by kernel_rfl)

set_option maxRecDepth 100000 in
theorem lifted (os : Os) (started : os.Started) (H : Type) (enc : TypeId × Value → H) :
    ReturnsInHanded {} Try.checked os 9 .any (Rows.spanInSpec.pre6 enc Try.prog Try.f9 Rows.spanInRow.domain false) (Rows.spanInSpec.post enc Try.prog Try.f9 false true false false) := by
  refine returnsInHanded_of_change (C := Try.checked) own started (by kernel_rfl) Try.func9
    (ChangeSpec.witness6 (enc := enc) (C := Try.checked) false ⟨#[], #[.slice none 0 0, .agg #[.string ⟨#[]⟩, .string ⟨#[]⟩], .string ⟨#[]⟩], []⟩ 8 (by kernel_rfl) (by kernel_rfl) (by kernel_rfl) (by kernel_rfl)) ?_
  intro W base args ds gs before hval0 hW _ _
  have hval : ∀ (j : Nat) t v, Try.f9.params[j]? = some t → args[j]? = some v → Value.okWide Try.prog W .any base t v := hval0
  have hW' := hW
  obtain ⟨p, q, hA0, hV, rfl, _, _⟩ := hW
  obtain ⟨rfl, rfl⟩ := trodVars_none hV
  have hA : DataW.TrodAll enc Try.prog W 0 (fun _ => true) true Try.f9.params.toList args.toList ds p := hA0
  rw [Try.params9] at hA hval
  obtain ⟨v0, vs0, d0, ds0, p0, q0, hargs, rfl, rfl, h0, r0⟩ := trodAll_cons hA
  obtain ⟨v1, vs1, d1, ds1, p1, q1, rfl, rfl, rfl, h1, r1⟩ := trodAll_cons r0
  obtain ⟨v2, vs2, d2, ds2, p2, q2, rfl, rfl, rfl, h2, r2⟩ := trodAll_cons r1
  obtain ⟨rfl, rfl, rfl⟩ := trodAll_nil r2
  obtain rfl : args = #[v0, v1, v2] := by cases args; simp_all
  have hlt := hW'.lt
  obtain ⟨A0, n0, c0, l0, rfl, hnc0, hm0, hb0, hs0⟩ := open_rgs Try.underlying67 Try.underlying25 (by kernel_rfl) ⟨rfl, rfl⟩ ⟨by kernel_rfl, by kernel_rfl⟩ ⟨by kernel_rfl, by kernel_rfl⟩ (hval 0 67 v0 rfl rfl) h0 (fun x hx => hlt x (by simp [hx]))
  obtain ⟨x1, y1, rfl, wx1, wy1⟩ := open_rg Try.underlying25 (by kernel_rfl) ⟨rfl, rfl⟩ ⟨by kernel_rfl, by kernel_rfl⟩ ⟨by kernel_rfl, by kernel_rfl⟩ (hval 1 25 v1 rfl rfl) h1
  obtain ⟨s2, rfl, _, _, ws2⟩ := Go.ChangeMaps.open_string Try.underlying9 (hval 2 9 v2 rfl rfl) h2
  refine (in_walk A0 n0 c0 l0 ⟨x1, y1⟩ s2 W hb0 hnc0 hm0 hs0 ⟨wx1, wy1⟩ ws2).mono fun e W' ⟨he, hbel⟩ => ?_
  subst he
  exact ⟨_, rfl, law_post kids full (of_decide_eq_true (by kernel_rfl)) Try.underlying4 rfl rfl rfl hW' hbel⟩

theorem proved : Rows.SpanInSaid :=
  OpenClaim.holds_of_wide 9 Try.f9 rfl rfl rfl rfl rfl rfl rfl ⟨rfl, rfl, rfl, rfl, rfl⟩ rfl rfl rfl rfl rfl (by kernel_rfl) Try.func9 (by kernel_rfl)
    (of_decide_eq_true (by kernel_rfl)) (by unfold Func.isWrapper; first | (rw [if_pos (by decide +kernel)]; kernel_rfl) | (rw [if_neg (by decide +kernel)]; exact ⟨rfl, rfl⟩))
    (fun os started H enc _ => lifted os started H enc)
end lawSpanIn

end Go.Proofs.Ytoifhpeohbbekaa

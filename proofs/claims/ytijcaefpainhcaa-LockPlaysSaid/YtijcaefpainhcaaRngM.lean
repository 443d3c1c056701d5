/- The document's Covers: has a set all that a range has? Condition: few ranges, in memory. -/
import Derived.Test.YtijcaefpainhcaaRngK
namespace Go.Proofs.Ytijcaefpainhcaa
open Go.RowKit
open Go.Lib (strCells compareBytes)

noncomputable def coversB (l : List Rg) (r : Rg) : Bool := @decide (∀ s, hasR r s → inS l s) (Classical.propDecidable _)
theorem coversB_true {l : List Rg} {r : Rg} (h : ∀ s, hasR r s → inS l s) : coversB l r = true := by unfold coversB; exact @decide_eq_true _ (Classical.propDecidable _) h
theorem coversB_false {l : List Rg} {r : Rg} (h : ¬ ∀ s, hasR r s → inS l s) : coversB l r = false := by unfold coversB; exact @decide_eq_false _ (Classical.propDecidable _) h

set_option maxRecDepth 100000 in
set_option maxHeartbeats 6400000 in
theorem refCovers_any (A : Option Addr) (n c C : Nat) (l : List Rg) (r : Rg) (w : World) (h : HasRgs w C A n l) (hC : C ≤ w.heap.size) (hn : n ≤ 100000) :
    Calls Try.prog 24 #[.slice A n c, ragg r] w fun e w' => e = .returned (.bool (coversB l r)) ∧ Below w.heap.size w w' := by
  have H := Lib.hid h
  have Hl := Lib.hid h.1
  have HC := Lib.hid hC
  obtain ⟨hp1, hp2⟩ := places_are (l ++ [r])
  have hN := placesN (l ++ [r]) (n + 1)
  rw [List.take_of_length_le (by simp [h.1]), List.length_append, h.1, List.length_singleton] at hN
  have Hpl := Lib.hid (fun A' c' C' wx (hx : HasRgs wx C' A' (n + 1) (l ++ [r])) hC' => places_any A' (n + 1) c' C' (l ++ [r]) wx hx hC' (by omega))
  obtain ⟨at_, hat⟩ : ∃ a, placesL (l ++ [r]) = a := ⟨_, rfl⟩
  rw [hat] at hp1 hp2 hN Hpl
  have HP := Lib.hid (And.intro hp1 hp2)
  obtain ⟨N, hNe⟩ : ∃ N, at_.length = N := ⟨_, rfl⟩
  rw [hNe] at hN
  have HN := Lib.hid hNe
  have HNb := Lib.hid hN
  have Hr2 := Lib.hid (fun s wx => refHas_any r s wx)
  obtain ⟨CB, hCB⟩ : ∃ b, coversB l r = b := ⟨_, rfl⟩
  rw [hCB]
  have HCB := Lib.hid hCB
  obtain ⟨rl, rh⟩ := r
  unfold ragg at *
  simp only at Hr2
  clear h hC hp1 hp2 hat hNe hCB
  have hbx : Box (w.alloc (.cells #[.string rl, .string rh] 23)) w.heap.size 23 #[.string rl, .string rh] := Box.made _ _ _
  have HBx : Hid (∀ wx, Below (w.heap.size + 1) (w.alloc (.cells #[.string rl, .string rh] 23)) wx → wx.cell? ⟨w.heap.size, 0, none⟩ = some (.string rl) ∧ wx.cell? ⟨w.heap.size, 1, none⟩ = some (.string rh) ∧ Below w.heap.size w wx ∧ w.heap.size + 1 ≤ wx.heap.size) := Lib.hid fun wx hx =>
    ⟨below_cell hx (Nat.lt_succ_self _) (hbx.cell 0), below_cell hx (Nat.lt_succ_self _) (hbx.cell 1), (below_box _).trans (hx.mono (Nat.le_succ _)), by have := hx.size; rw [World.size_alloc] at this; exact this⟩
  clear hbx
  go_enter Try.func24, Try.ntmps24
  go_wp2_with (first
    | (at_builtin; refine wpList_append_hasN rfl (.tmp 8) (.tmp 9) _ rfl 23 rg_elem (by omega) Try.underlying26 rfl (own_nilR _ (w.heap.size + 1)) rfl (H.out.2.alloc HC.out _) (rgCells_one _) (by simp only [maxLen]; omega) (by omega) (by simp only [World.size_alloc]; omega) ?_; intro v1 w1 o1 g1 z1; rw [Nat.zero_add, List.nil_append] at o1; obtain ⟨A1, c1, rfl, -, -, -⟩ := own_sliceN o1; have hb1 := keep_grown (Below.refl (w.heap.size + 1) (w.alloc (.cells #[.string rl, .string rh] 23))) (own_nilR _ (w.heap.size + 1)) (by simp only [World.size_alloc]; omega) g1; obtain ⟨p0, p1, -, hs1⟩ := HBx.out w1 hb1; have Ho1 := Lib.hid o1; have Hb1 := Lib.hid hb1; clear o1 g1 z1 hb1)
    | (at_builtin; refine wpList_append_hasN rfl (.tmp 11) (.tmp 13) _ rfl 23 rg_elem (by omega) Try.underlying26 rfl (own_belowN Ho1.out (below_box _)) rfl (rg_lit w1 ⟨rl, rh⟩) (rgCells_one _) (by simp only [maxLen]; omega) (by omega) (by simp only [World.size_alloc]; omega) ?_; intro v2 w2 o2 g2 z2; have hb2 := keep_grown (Hb1.out.alloc hs1 _) (own_belowN Ho1.out (below_box _)) (by simp only [World.size_alloc]; omega) g2; obtain ⟨A2, c2, rfl, -, -, -⟩ := own_sliceN o2; have Hall := Lib.hid (own_all o2 Hl.out); have Hb2 := Lib.hid hb2; clear o2 g2 z2 hb2)
    | (go_at_call 45; refine (Hpl.out _ _ _ _ Hall.out (Nat.le_refl _)).mono ?_; rintro e w3 ⟨v3, rfl, o3, b3⟩; obtain ⟨A3, c3, rfl, -, -, x3⟩ := o3.slice; rw [HN.out] at x3 ⊢; have Hat := Lib.hid x3; have Hb3 := Lib.hid (Hb2.out.trans (b3.mono (HBx.out w2 Hb2.out).2.2.2)); clear o3 x3 b3))
  have hsz3 := (HBx.out w3 Hb3.out).2.2.2
  have hNb : N ≤ 200003 := by have := HNb.out; omega
  go_wp2
  go_loopw [7] (fun iv wr => ∃ k : Nat, k ≤ N ∧ iv = .int .i64 (k : Int) ∧ Hid (∀ (j : Nat) (a : ByteArray), j < k → at_[j]? = some a → hasR ⟨rl, rh⟩ a.data.toList → inS l a.data.toList) ∧ Below w3.heap.size w3 wr) (fun iv _ => N - (intOf iv).toNat)
  case atStart => exact ⟨0, by omega, rfl, Lib.hid (by intro j a hj; omega), Below.refl _ _⟩
  case round =>
    obtain ⟨k, hk, rfl, Hp, hb⟩ := hrel
    have Hb := Lib.hid hb
    have hsz := hb.size
    have Hbw : Hid (Below w.heap.size w wr) := Lib.hid (HBx.out wr (Hb3.out.trans (hb.mono hsz3))).2.2.1
    by_cases hlt : k < N
    · obtain ⟨a, y, rfl, hab, hy, c0⟩ := (Hat.out.belowOf hb (Nat.le_refl _)).at_ hlt
      have Hin := Lib.hid (fun wx (hx : Below w3.heap.size w3 wx) => refIn_any A n c C l y wx (H.out.belowOf ((HBx.out _ (Hb3.out.trans (hx.mono hsz3))).2.2.1) HC.out) (by have := HC.out; have := (HBx.out _ (Hb3.out.trans (hx.mono hsz3))).2.2.2; omega) (by omega))
      have Hha := Lib.hid (fun wx => Hr2.out y wx)
      obtain ⟨d2, hd⟩ : ∃ d, decide (inS l y.data.toList) = d := ⟨_, rfl⟩
      obtain ⟨d, hd2⟩ : ∃ d2, decide (hasR ⟨rl, rh⟩ y.data.toList) = d2 := ⟨_, rfl⟩
      have Hdd := Lib.hid (And.intro hd hd2)
      simp only [hd] at Hin
      simp only [hd2] at Hha
      have Hy := Lib.hid hy
      have Hnext : Hid ((hasR ⟨rl, rh⟩ y.data.toList → inS l y.data.toList) → ∀ (j : Nat) (a : ByteArray), j < k + 1 → at_[j]? = some a → hasR ⟨rl, rh⟩ a.data.toList → inS l a.data.toList) := Lib.hid fun hh j a' hj ha' => by
        rcases Nat.lt_or_ge j k with e | e
        · exact Hp.out j a' e ha'
        · obtain rfl : j = k := by omega
          rw [Hy.out] at ha'
          injection ha' with ha'
          subst ha'
          exact hh
      have hk0 : (0 : Int) ≤ (k : Int) := by omega
      have hk1 : (k : Int) < (N : Int) := by omega
      have HK : Hid (∀ wx, Below w3.heap.size w3 wx → (wx.cell? (a.add k) = some (.string y) ∧ wx.cell? ⟨w.heap.size, 0, none⟩ = some (.string rl) ∧ wx.cell? ⟨w.heap.size, 1, none⟩ = some (.string rh)) ∧ Below w3.heap.size w3 wx) := Lib.hid fun wx hx => by
        obtain ⟨a', y', e, hab', hy', c0'⟩ := (Hat.out.belowOf hx (Nat.le_refl _)).at_ hlt
        injection e with e
        subst e
        rw [hy] at hy'
        injection hy' with hy'
        subst hy'
        obtain ⟨q0, q1, -, -⟩ := HBx.out _ (Hb3.out.trans (hx.mono hsz3))
        exact ⟨⟨c0', q0, q1⟩, hx⟩
      clear hd hd2 hb hy c0
      cases d with
      | true =>
        cases d2 with
        | true =>
          have Hp1 := Lib.hid (Hnext.out (fun _ => of_decide_eq_true Hdd.out.1))
          go_wp2
          go_region_held3 (fun wx => (wx.cell? (a.add k) = some (.string y) ∧ wx.cell? ⟨w.heap.size, 0, none⟩ = some (.string rl) ∧ wx.cell? ⟨w.heap.size, 1, none⟩ = some (.string rh)) ∧ Below w3.heap.size w3 wx)
            (first | exact HK.out _ Hb.out.drew | exact HK.out _ (keep_call (And.right (by assumption)) b4) | exact HK.out _ (keep_call (And.right (by assumption)) b5))
            (first
              | (go_at_call 17; refine (Hha.out _).mono ?_; rintro e w4 ⟨rfl, b4⟩)
              | (go_at_call 54; refine (Hin.out _ (And.right (by assumption))).mono ?_; rintro e w5 ⟨rfl, b5⟩))
          all_goals
            have HbE : Hid (Below w3.heap.size w3 w5) := Lib.hid (Hb.out.trans ((keep_call (keep_call (Below.refl wr.heap.size wr).drew b4) b5).mono hsz))
            clear b4 b5
            go_wp2
            go_roundw
            case rel => exact ⟨k + 1, by omega, by go_num, Hp1, HbE.out⟩
            case measure => simp [intOf]; omega
        | false =>
          have E : Hid (CB = false) := Lib.hid (by rw [← HCB.out]; exact coversB_false fun h => of_decide_eq_false Hdd.out.1 (h _ (of_decide_eq_true Hdd.out.2)))
          go_wp2
          go_region_held3 (fun wx => (wx.cell? (a.add k) = some (.string y) ∧ wx.cell? ⟨w.heap.size, 0, none⟩ = some (.string rl) ∧ wx.cell? ⟨w.heap.size, 1, none⟩ = some (.string rh)) ∧ Below w3.heap.size w3 wx)
            (first | exact HK.out _ Hb.out.drew | exact HK.out _ (keep_call (And.right (by assumption)) b4) | exact HK.out _ (keep_call (And.right (by assumption)) b5))
            (first
              | (go_at_call 17; refine (Hha.out _).mono ?_; rintro e w4 ⟨rfl, b4⟩)
              | (go_at_call 54; refine (Hin.out _ (And.right (by assumption))).mono ?_; rintro e w5 ⟨rfl, b5⟩))
          all_goals
            have HbE : Hid (Below w.heap.size w w5) := Lib.hid (Hbw.out.trans ((keep_call (keep_call (Below.refl wr.heap.size wr).drew b4) b5).mono Hbw.out.size))
            clear b4 b5
            go_wp2
            go_ret
            exact ⟨ret_bool E.out.symm, HbE.out⟩
      | false =>
        have Hp1 := Lib.hid (Hnext.out (fun h => absurd h (of_decide_eq_false Hdd.out.2)))
        go_wp2
        have hS0 : (fun wx => (wx.cell? (a.add k) = some (.string y) ∧ wx.cell? ⟨w.heap.size, 0, none⟩ = some (.string rl) ∧ wx.cell? ⟨w.heap.size, 1, none⟩ = some (.string rh)) ∧ Below w3.heap.size w3 wx) wr.drew := HK.out _ Hb.out.drew
        refine wp_region_held_drew (S := fun wx => (wx.cell? (a.add k) = some (.string y) ∧ wx.cell? ⟨w.heap.size, 0, none⟩ = some (.string rl) ∧ wx.cell? ⟨w.heap.size, 1, none⟩ = some (.string rh)) ∧ Below w3.heap.size w3 wx) (by kernel_rfl) hS0 (fun hHeld => ?_)
        refine wpAnyH_take (i := 0) (oi := ⟨some 23, _, _, _, _, _⟩) (v := .agg #[.string rl, .string rh]) rfl (by kernel_rfl) (by kernel_rfl) (by kernel_rfl) (fun _ _ _ h => h) (Or.inl ⟨by rfl, ?_⟩) (by assumption) ?_
        · intro w hSw; (try dsimp only at hSw); go_simp
        simp only [Act.put, List.setIfInBounds_toArray, List.set_cons_zero, List.set_cons_succ]
        refine wpAnyH_take (i := 1) (oi := ⟨some 24, _, _, _, _, _⟩) (v := .slice (some a) N c3) rfl (by kernel_rfl) (by kernel_rfl) (by kernel_rfl) (fun _ _ _ h => h) (Or.inl ⟨by rfl, ?_⟩) (by assumption) ?_
        · intro w hSw; (try dsimp only at hSw); go_simp
        simp only [Act.put, List.setIfInBounds_toArray, List.set_cons_zero, List.set_cons_succ]
        refine wpAnyH_take (i := 2) (oi := ⟨some 25, _, _, _, _, _⟩) (v := .int .i64 (k : Int)) rfl (by kernel_rfl) (by kernel_rfl) (by kernel_rfl) (fun _ _ _ h => h) (Or.inl ⟨by rfl, ?_⟩) (by assumption) ?_
        · intro w hSw; (try dsimp only at hSw); go_simp
        simp only [Act.put, List.setIfInBounds_toArray, List.set_cons_zero, List.set_cons_succ]
        refine wpAnyH_take (i := 3) (oi := ⟨some 26, _, _, _, _, _⟩) (v := .pointer (some (a.add k))) rfl (by kernel_rfl) (by kernel_rfl) (by kernel_rfl) (fun _ _ _ h => h) (Or.inl ⟨by rfl, ?_⟩) (by assumption) ?_
        · intro w hSw; (try dsimp only at hSw); go_simp
        simp only [Act.put, List.setIfInBounds_toArray, List.set_cons_zero, List.set_cons_succ]
        refine wpAnyH_take (i := 4) (oi := ⟨some 27, _, _, _, _, _⟩) (v := .string y) rfl (by kernel_rfl) (by kernel_rfl) (by kernel_rfl) (fun _ _ _ h => h) (Or.inl ⟨by rfl, ?_⟩) (by assumption) ?_
        · intro w hSw; (try dsimp only at hSw); go_simp
        simp only [Act.put, List.setIfInBounds_toArray, List.set_cons_zero, List.set_cons_succ]
        refine wpAnyH_ready (rs := [5]) (by kernel_rfl) (by simp) (AllReadyH.cons (o := ⟨some 28, _, _, _, _, _⟩) rfl (fun K hK => ?_) AllReadyH.nil)
        go_simp
        refine (Hha.out _).mono ?_; rintro e w4 ⟨rfl, b4⟩
        have k4 := keep_call (Below.refl wr.heap.size wr).drew b4
        have hS4 : (fun wx => (wx.cell? (a.add k) = some (.string y) ∧ wx.cell? ⟨w.heap.size, 0, none⟩ = some (.string rl) ∧ wx.cell? ⟨w.heap.size, 1, none⟩ = some (.string rh)) ∧ Below w3.heap.size w3 wx) w4 := HK.out _ (Hb.out.trans (k4.mono hsz))
        refine hK.out _ _ hS4 (fun _ => ?_)
        clear hK K
        refine wpAnyH_take (i := 6) (oi := ⟨some 29, _, _, _, _, _⟩) (v := .bool false) rfl (by kernel_rfl) (by kernel_rfl) (by kernel_rfl) (fun _ _ _ h => h) (Or.inl ⟨by rfl, ?_⟩) (by assumption) ?_
        · intro w hSw; (try dsimp only at hSw); go_simp
        simp only [Act.put, List.setIfInBounds_toArray, List.set_cons_zero, List.set_cons_succ]
        refine wpAnyH_take (i := 7) (oi := ⟨some 30, _, _, _, _, _⟩) (v := undef) rfl (by kernel_rfl) (by kernel_rfl) (by kernel_rfl) (fun _ _ _ h => h) (Or.inr ⟨by rfl, rfl⟩) (by assumption) ?_
        simp only [Act.put, List.setIfInBounds_toArray, List.set_cons_zero, List.set_cons_succ]
        refine wpAnyH_take (i := 8) (oi := ⟨some 31, _, _, _, _, _⟩) (v := undef) rfl (by kernel_rfl) (by kernel_rfl) (by kernel_rfl) (fun _ _ _ h => h) (Or.inr ⟨by rfl, rfl⟩) (by assumption) ?_
        simp only [Act.put, List.setIfInBounds_toArray, List.set_cons_zero, List.set_cons_succ]
        refine wpAnyH_take (i := 9) (oi := ⟨some 32, _, _, _, _, _⟩) (v := undef) rfl (by kernel_rfl) (by kernel_rfl) (by kernel_rfl) (fun _ _ _ h => h) (Or.inr ⟨by rfl, rfl⟩) (by assumption) ?_
        simp only [Act.put, List.setIfInBounds_toArray, List.set_cons_zero, List.set_cons_succ]
        refine wpAnyH_take (i := 10) (oi := ⟨some 33, _, _, _, _, _⟩) (v := undef) rfl (by kernel_rfl) (by kernel_rfl) (by kernel_rfl) (fun _ _ _ h => h) (Or.inr ⟨by rfl, rfl⟩) (by assumption) ?_
        simp only [Act.put, List.setIfInBounds_toArray, List.set_cons_zero, List.set_cons_succ]
        refine wpAnyH_take (i := 11) (oi := ⟨some 34, _, _, _, _, _⟩) (v := undef) rfl (by kernel_rfl) (by kernel_rfl) (by kernel_rfl) (fun _ _ _ h => h) (Or.inr ⟨by rfl, rfl⟩) (by assumption) ?_
        simp only [Act.put, List.setIfInBounds_toArray, List.set_cons_zero, List.set_cons_succ]
        refine wpAnyH_take (i := 12) (oi := ⟨some 35, _, _, _, _, _⟩) (v := undef) rfl (by kernel_rfl) (by kernel_rfl) (by kernel_rfl) (fun _ _ _ h => h) (Or.inr ⟨by rfl, rfl⟩) (by assumption) ?_
        simp only [Act.put, List.setIfInBounds_toArray, List.set_cons_zero, List.set_cons_succ]
        refine wpAnyH_take (i := 13) (oi := ⟨some 36, _, _, _, _, _⟩) (v := undef) rfl (by kernel_rfl) (by kernel_rfl) (by kernel_rfl) (fun _ _ _ h => h) (Or.inr ⟨by rfl, rfl⟩) (by assumption) ?_
        simp only [Act.put, List.setIfInBounds_toArray, List.set_cons_zero, List.set_cons_succ]
        refine wpAnyH_take (i := 14) (oi := ⟨some 37, _, _, _, _, _⟩) (v := .bool false) rfl (by kernel_rfl) (by kernel_rfl) (by kernel_rfl) (fun _ _ _ h => h) (Or.inl ⟨by rfl, ?_⟩) (by assumption) ?_
        · intro w hSw; (try dsimp only at hSw); go_simp
        simp only [Act.put, List.setIfInBounds_toArray, List.set_cons_zero, List.set_cons_succ]
        refine wpAnyH_done (by kernel_rfl) ?_ _
        have HbE : Hid (Below w3.heap.size w3 w4) := Lib.hid (Hb.out.trans (k4.mono hsz))
        clear b4 k4 hS4
        go_wp2
        go_roundw
        case rel => exact ⟨k + 1, by omega, by go_num, Hp1, HbE.out⟩
        case measure => simp [intOf]; omega
    · obtain rfl : k = N := by omega
      have E : Hid (CB = true) := Lib.hid (by
        rw [← HCB.out]
        refine coversB_true fun s hs => ?_
        obtain ⟨j, hj, hc⟩ := place_of HP.out.1 s
        have ha : at_[j]? = some at_[j] := List.getElem?_eq_getElem hj
        exact (place_in HP.out.1 (fun q hq => HP.out.2 q (List.mem_append_left _ hq)) ha hc).2 (Hp.out j _ (by have := HN.out; omega) ha ((place_same HP.out.1 (HP.out.2 ⟨rl, rh⟩ (by simp)) ha hc).1 hs)))
      clear hb
      go_wp2
      go_ret
      exact ⟨ret_bool E.out.symm, Hbw.out⟩

end Go.Proofs.Ytijcaefpainhcaa

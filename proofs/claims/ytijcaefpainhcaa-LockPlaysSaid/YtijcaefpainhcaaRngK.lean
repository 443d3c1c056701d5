/- The document's Minus: a least form of what is left. Condition: few ranges, in memory. -/
import Derived.Test.YtijcaefpainhcaaRngJ
import Derived.Test.YtijcaefpainhcaaRegion
namespace Go.Proofs.Ytijcaefpainhcaa
open Go.RowKit
open Go.Lib (strCells compareBytes)

theorem bo_elemN : ElemN Try.prog 4 1 1 (.bool false) := ⟨by kernel_rfl, rfl⟩
theorem lit_bo (w : World) (d : Bool) : Has (w.alloc (.cells #[.bool d] 4)) (w.heap.size + 1) (some ⟨w.heap.size, 0, none⟩) (1 * 1) [.bool d] := Has.lit w #[.bool d] 4
theorem keep_alloc {wr wx : World} (h : Below wr.heap.size wr wx) (o : Obj) : Below wr.heap.size wr (wx.alloc o) := h.alloc h.size o
theorem keep_grown {wr wx w' : World} {v : Value} {B m size : Nat} {e : TypeId} {xs : List Value} (h : Below B wr wx) (ho : wx.ownsRow B e size v m xs) (hB : B ≤ wx.heap.size) (hg : wx.grownBy w' v.ownBlock) : Below B wr w' := h.grown hg hB fun q hq => (ho.lt q hq).1
theorem own_nilR (w : World) (B : Nat) : w.ownsRow B 23 2 (.slice none 0 0) 0 [] := World.ownsRow_nil _ _ _ _

theorem own_all {w : World} {B n c : Nat} {A : Option Addr} {l : List Rg} {r : Rg} (h : w.ownsRow B 23 2 (.slice A (n + 1) c) (n + 1) (rgCells l ++ rgCells [r])) (hl : l.length = n) : HasRgs w w.heap.size A (n + 1) (l ++ [r]) := by
  refine ⟨by simp [hl], ?_⟩
  have := Has.of_ownN h
  rw [← rgCells_app] at this
  exact this
set_option maxRecDepth 100000 in
set_option maxHeartbeats 6400000 in
theorem refMinus_any (A : Option Addr) (n c C : Nat) (l : List Rg) (r : Rg) (w : World) (h : HasRgs w C A n l) (hC : C ≤ w.heap.size) (hn : n ≤ 100000) :
    Calls Try.prog 22 #[.slice A n c, ragg r] w (FormPost (3 + 2 * n) (fun s => inS l s ∧ ¬ hasR r s) w) := by
  have H := Lib.hid h
  have Hl := Lib.hid h.1
  have HC := Lib.hid hC
  obtain ⟨hp1, hp2⟩ := places_are (l ++ [r])
  have hN := placesN (l ++ [r]) (n + 1)
  rw [List.take_of_length_le (by simp [h.1]), List.length_append, h.1, List.length_singleton] at hN
  have Hpl := Lib.hid (fun A' c' C' wx (hx : HasRgs wx C' A' (n + 1) (l ++ [r])) hC' => places_any A' (n + 1) c' C' (l ++ [r]) wx hx hC' (by omega))
  obtain ⟨at_, hat⟩ : ∃ a, placesL (l ++ [r]) = a := ⟨_, rfl⟩
  rw [hat] at hp1 hp2 hN Hpl
  have HP := Lib.hid (And.intro hp1 hp2)
  obtain ⟨N, hNe⟩ : ∃ N, at_.length = N := ⟨_, rfl⟩
  rw [hNe] at hN
  have HN := Lib.hid hNe
  have HNb := Lib.hid hN
  have Hr2 := Lib.hid (fun s wx => refHas_any r s wx)
  obtain ⟨rl, rh⟩ := r
  unfold ragg at *
  simp only at Hr2
  clear h hC hp1 hp2 hat hNe
  have hbx : Box (w.alloc (.cells #[.string rl, .string rh] 23)) w.heap.size 23 #[.string rl, .string rh] := Box.made _ _ _
  have HBx : Hid (∀ wx, Below (w.heap.size + 1) (w.alloc (.cells #[.string rl, .string rh] 23)) wx → wx.cell? ⟨w.heap.size, 0, none⟩ = some (.string rl) ∧ wx.cell? ⟨w.heap.size, 1, none⟩ = some (.string rh) ∧ Below w.heap.size w wx ∧ w.heap.size + 1 ≤ wx.heap.size) := Lib.hid fun wx hx =>
    ⟨below_cell hx (Nat.lt_succ_self _) (hbx.cell 0), below_cell hx (Nat.lt_succ_self _) (hbx.cell 1), (below_box _).trans (hx.mono (Nat.le_succ _)), by have := hx.size; rw [World.size_alloc] at this; exact this⟩
  clear hbx
  go_enter Try.func22, Try.ntmps22
  go_wp2_with (first
    | (at_builtin; refine wpList_append_hasN rfl (.tmp 9) (.tmp 10) _ rfl 23 rg_elem (by omega) Try.underlying26 rfl (own_nilR _ (w.heap.size + 1)) rfl (H.out.2.alloc HC.out _) (rgCells_one _) (by simp only [maxLen]; omega) (by omega) (by simp only [World.size_alloc]; omega) ?_; intro v1 w1 o1 g1 z1; rw [Nat.zero_add, List.nil_append] at o1; obtain ⟨A1, c1, rfl, -, -, -⟩ := own_sliceN o1; have hb1 := keep_grown (Below.refl (w.heap.size + 1) (w.alloc (.cells #[.string rl, .string rh] 23))) (own_nilR _ (w.heap.size + 1)) (by simp only [World.size_alloc]; omega) g1; obtain ⟨p0, p1, -, hs1⟩ := HBx.out w1 hb1; have Ho1 := Lib.hid o1; have Hb1 := Lib.hid hb1; clear o1 g1 z1 hb1)
    | (at_builtin; refine wpList_append_hasN rfl (.tmp 12) (.tmp 14) _ rfl 23 rg_elem (by omega) Try.underlying26 rfl (own_belowN Ho1.out (below_box _)) rfl (rg_lit w1 ⟨rl, rh⟩) (rgCells_one _) (by simp only [maxLen]; omega) (by omega) (by simp only [World.size_alloc]; omega) ?_; intro v2 w2 o2 g2 z2; have hb2 := keep_grown (Hb1.out.alloc hs1 _) (own_belowN Ho1.out (below_box _)) (by simp only [World.size_alloc]; omega) g2; obtain ⟨A2, c2, rfl, -, -, -⟩ := own_sliceN o2; have Hall := Lib.hid (own_all o2 Hl.out); have Hb2 := Lib.hid hb2; clear o2 g2 z2 hb2)
    | (go_at_call 45; refine (Hpl.out _ _ _ _ Hall.out (Nat.le_refl _)).mono ?_; rintro e w3 ⟨v3, rfl, o3, b3⟩; obtain ⟨A3, c3, rfl, -, -, x3⟩ := o3.slice; rw [HN.out] at x3 ⊢; have Hat := Lib.hid x3; have Hb3 := Lib.hid (Hb2.out.trans (b3.mono (HBx.out w2 Hb2.out).2.2.2)); clear o3 x3 b3))
  have hsz3 := (HBx.out w3 Hb3.out).2.2.2
  have hNb : N ≤ 200003 := by have := HNb.out; omega
  go_wp2
  go_loopw [7, 8] (fun o iv wr => ∃ k : Nat, k ≤ N ∧ iv = .int .i64 (k : Int) ∧ OwnBo wr w3.heap.size o (isL (fun s => inS l s ∧ ¬ hasR ⟨rl, rh⟩ s) (at_.take k)) ∧ Below w3.heap.size w3 wr) (fun _ iv _ => N - (intOf iv).toNat)
  case atStart => exact ⟨0, by omega, rfl, OwnBo.nil _ _, Below.refl _ _⟩
  case round =>
    obtain ⟨k, hk, rfl, ho, hb⟩ := hrel
    have Hb := Lib.hid hb
    have hsz := hb.size
    have Hlk : Hid ((isL (fun s => inS l s ∧ ¬ hasR ⟨rl, rh⟩ s) (at_.take k)).length = k) := Lib.hid (by rw [isL_len, List.length_take]; have := HN.out; omega)
    obtain ⟨Ao, co, rfl, -, -, -⟩ := ho.slice
    unfold OwnBo at ho
    rw [Hlk.out] at ho ⊢
    have hbr : Below (w.heap.size + 1) (w.alloc (.cells #[.string rl, .string rh] 23)) wr := Hb3.out.trans (hb.mono hsz3)
    obtain ⟨e0, e1, hbw, hsw⟩ := HBx.out wr hbr
    by_cases hlt : k < N
    · obtain ⟨a, y, rfl, hab, hy, c0⟩ := (Hat.out.belowOf hb (Nat.le_refl _)).at_ hlt
      have Hs := Lib.hid (isL_succ (P := fun s => inS l s ∧ ¬ hasR ⟨rl, rh⟩ s) hy)
      have Hin := Lib.hid (fun wx (hx : Below w3.heap.size w3 wx) => refIn_any A n c C l y wx (H.out.belowOf ((HBx.out _ (Hb3.out.trans (hx.mono hsz3))).2.2.1) HC.out) (by have := HC.out; have := (HBx.out _ (Hb3.out.trans (hx.mono hsz3))).2.2.2; omega) (by omega))
      have Hha := Lib.hid (fun wx => Hr2.out y wx)
      obtain ⟨d, hd⟩ : ∃ d, decide (inS l y.data.toList) = d := ⟨_, rfl⟩
      obtain ⟨d2, hd2⟩ : ∃ d2, decide (hasR ⟨rl, rh⟩ y.data.toList) = d2 := ⟨_, rfl⟩
      have Hdd : Hid (decide (inS l y.data.toList ∧ ¬ hasR ⟨rl, rh⟩ y.data.toList) = (d && !d2)) := Lib.hid (by rw [← hd, ← hd2]; simp)
      rw [hd] at Hin
      simp only [hd2] at Hha
      rw [Hdd.out] at Hs
      have hk0 : (0 : Int) ≤ (k : Int) := by omega
      have hk1 : (k : Int) < (N : Int) := by omega
      have Ho := Lib.hid ho
      have hcw := HBx.out w3 Hb3.out
      have HK : Hid (∀ wx, Below w3.heap.size w3 wx → (wx.cell? (a.add k) = some (.string y) ∧ wx.cell? ⟨w.heap.size, 0, none⟩ = some (.string rl) ∧ wx.cell? ⟨w.heap.size, 1, none⟩ = some (.string rh)) ∧ Below w3.heap.size w3 wx) := Lib.hid fun wx hx => by
        obtain ⟨a', y', e, hab', hy', c0'⟩ := (Hat.out.belowOf hx (Nat.le_refl _)).at_ hlt
        injection e with e
        subst e
        rw [hy] at hy'
        injection hy' with hy'
        subst hy'
        obtain ⟨q0, q1, -, -⟩ := HBx.out _ (Hb3.out.trans (hx.mono hsz3))
        exact ⟨⟨c0', q0, q1⟩, hx⟩
      clear hd hd2 ho hb hbr e0 e1 hbw hcw
      obtain ⟨d3, hd3⟩ : ∃ d3, (!d2) = d3 := ⟨_, rfl⟩
      cases d with
      | true =>
        clear hy c0
        rw [Bool.true_and, hd3] at Hs
        go_wp2
        go_region_held3 (fun wx => (wx.cell? (a.add k) = some (.string y) ∧ wx.cell? ⟨w.heap.size, 0, none⟩ = some (.string rl) ∧ wx.cell? ⟨w.heap.size, 1, none⟩ = some (.string rh)) ∧ Below w3.heap.size w3 wx)
          (first | exact HK.out _ Hb.out.drew | exact HK.out _ (keep_call (And.right (by assumption)) b4) | exact HK.out _ (keep_call (And.right (by assumption)) b5) | exact HK.out _ (keep_alloc (And.right (by assumption)) _) | exact HK.out _ hbA)
          (first
            | (go_at_call 54; refine (Hin.out _ (And.right (by assumption))).mono ?_; rintro e w4 ⟨rfl, b4⟩)
            | (go_at_call 17; refine (Hha.out _).mono ?_; rintro e w5 ⟨rfl, b5⟩; have k5 := keep_call (keep_call (Below.refl wr.heap.size wr).drew b4) b5; have hs5 : w3.heap.size ≤ (w5.alloc (Obj.cells #[.bool d3] 4)).heap.size := Nat.le_trans hsz (keep_alloc k5 _).size; have Ho5 := own_belowN Ho.out (keep_alloc k5 (Obj.cells #[.bool d3] 4)))
            | (refine step_append_hasN (by rfl) _ _ _ (by rfl) 4 bo_elemN (by omega) Try.underlying63 (by rfl) Ho5 (by rfl) (lit_bo w5 d3) (one_bool _) (by simp only [maxLen]; omega) (by omega) hs5 ?_; intro vA wA oA gA zA; have hbA := keep_grown (Hb.out.trans ((keep_alloc k5 (Obj.cells #[.bool d3] 4)).mono hsz)) Ho5 hs5 gA))
        all_goals
          have HoE : Hid (OwnBo wA w3.heap.size vA (isL (fun s => inS l s ∧ ¬ hasR ⟨rl, rh⟩ s) (at_.take (k + 1)))) := Lib.hid (by unfold OwnBo; rw [Hs.out, List.length_append, boCells_app, Hlk.out]; exact oA)
          have HbE : Hid (Below w3.heap.size w3 wA) := Lib.hid hbA
          clear b4 b5 k5 hs5 Ho5 oA gA zA hbA
          go_wp2
          go_roundw
          case rel => exact ⟨k + 1, by omega, by go_num, HoE.out, HbE.out⟩
          case measure => simp [intOf]; omega
      | false =>
        rw [Bool.false_and] at Hs
        go_wp2
        have hS0 : (fun wx => wx.cell? (a.add k) = some (.string y) ∧ Below w3.heap.size w3 wx) wr.drew := ⟨(HK.out _ Hb.out.drew).1.1, Hb.out.drew⟩
        refine wp_region_held_drew (S := fun wx => wx.cell? (a.add k) = some (.string y) ∧ Below w3.heap.size w3 wx) (by kernel_rfl) hS0 (fun hHeld => ?_)
        refine wpAnyH_take (i := 0) (oi := ⟨some 24, _, _, _, _, _⟩) (v := .slice Ao k co) rfl (by kernel_rfl) (by kernel_rfl) (by kernel_rfl) (fun _ _ _ h => h) (Or.inl ⟨by rfl, ?_⟩) (by assumption) ?_
        · intro w hSw; (try dsimp only at hSw); go_simp
        simp only [Act.put, List.setIfInBounds_toArray, List.set_cons_zero, List.set_cons_succ]
        refine wpAnyH_take (i := 1) (oi := ⟨some 25, _, _, _, _, _⟩) (v := .slice A n c) rfl (by kernel_rfl) (by kernel_rfl) (by kernel_rfl) (fun _ _ _ h => h) (Or.inl ⟨by rfl, ?_⟩) (by assumption) ?_
        · intro w hSw; (try dsimp only at hSw); go_simp
        simp only [Act.put, List.setIfInBounds_toArray, List.set_cons_zero, List.set_cons_succ]
        refine wpAnyH_take (i := 2) (oi := ⟨some 26, _, _, _, _, _⟩) (v := .slice (some a) N c3) rfl (by kernel_rfl) (by kernel_rfl) (by kernel_rfl) (fun _ _ _ h => h) (Or.inl ⟨by rfl, ?_⟩) (by assumption) ?_
        · intro w hSw; (try dsimp only at hSw); go_simp
        simp only [Act.put, List.setIfInBounds_toArray, List.set_cons_zero, List.set_cons_succ]
        refine wpAnyH_take (i := 3) (oi := ⟨some 27, _, _, _, _, _⟩) (v := .int .i64 (k : Int)) rfl (by kernel_rfl) (by kernel_rfl) (by kernel_rfl) (fun _ _ _ h => h) (Or.inl ⟨by rfl, ?_⟩) (by assumption) ?_
        · intro w hSw; (try dsimp only at hSw); go_simp
        simp only [Act.put, List.setIfInBounds_toArray, List.set_cons_zero, List.set_cons_succ]
        refine wpAnyH_take (i := 4) (oi := ⟨some 28, _, _, _, _, _⟩) (v := .pointer (some (a.add k))) rfl (by kernel_rfl) (by kernel_rfl) (by kernel_rfl) (fun _ _ _ h => h) (Or.inl ⟨by rfl, ?_⟩) (by assumption) ?_
        · intro w hSw; (try dsimp only at hSw); go_simp
        simp only [Act.put, List.setIfInBounds_toArray, List.set_cons_zero, List.set_cons_succ]
        refine wpAnyH_take (i := 5) (oi := ⟨some 29, _, _, _, _, _⟩) (v := .string y) rfl (by kernel_rfl) (by kernel_rfl) (by kernel_rfl) (fun _ _ _ h => h) (Or.inl ⟨by rfl, ?_⟩) (by assumption) ?_
        · intro w hSw; (try dsimp only at hSw); go_simp
        simp only [Act.put, List.setIfInBounds_toArray, List.set_cons_zero, List.set_cons_succ]
        refine wpAnyH_ready (rs := [6]) (by kernel_rfl) (by simp) (AllReadyH.cons (o := ⟨some 30, _, _, _, _, _⟩) rfl (fun K hK => ?_) AllReadyH.nil)
        go_simp
        refine (Hin.out _ Hb.out.drew).mono ?_; rintro e w4 ⟨rfl, b4⟩
        have k4 := keep_call (Below.refl wr.heap.size wr).drew b4
        have hS4 : (fun wx => wx.cell? (a.add k) = some (.string y) ∧ Below w3.heap.size w3 wx) w4 := ⟨(HK.out _ (Hb.out.trans (k4.mono hsz))).1.1, Hb.out.trans (k4.mono hsz)⟩
        refine hK.out _ _ hS4 (fun _ => ?_)
        clear hK K
        refine wpAnyH_take (i := 7) (oi := ⟨some 31, _, _, _, _, _⟩) (v := .bool false) rfl (by kernel_rfl) (by kernel_rfl) (by kernel_rfl) (fun _ _ _ h => h) (Or.inl ⟨by rfl, ?_⟩) (by assumption) ?_
        · intro w hSw; (try dsimp only at hSw); go_simp
        simp only [Act.put, List.setIfInBounds_toArray, List.set_cons_zero, List.set_cons_succ]
        refine wpAnyH_take (i := 8) (oi := ⟨some 32, _, _, _, _, _⟩) (v := undef) rfl (by kernel_rfl) (by kernel_rfl) (by kernel_rfl) (fun _ _ _ h => h) (Or.inr ⟨by rfl, rfl⟩) (by assumption) ?_
        simp only [Act.put, List.setIfInBounds_toArray, List.set_cons_zero, List.set_cons_succ]
        refine wpAnyH_take (i := 9) (oi := ⟨some 33, _, _, _, _, _⟩) (v := undef) rfl (by kernel_rfl) (by kernel_rfl) (by kernel_rfl) (fun _ _ _ h => h) (Or.inr ⟨by rfl, rfl⟩) (by assumption) ?_
        simp only [Act.put, List.setIfInBounds_toArray, List.set_cons_zero, List.set_cons_succ]
        refine wpAnyH_take (i := 10) (oi := ⟨some 34, _, _, _, _, _⟩) (v := undef) rfl (by kernel_rfl) (by kernel_rfl) (by kernel_rfl) (fun _ _ _ h => h) (Or.inr ⟨by rfl, rfl⟩) (by assumption) ?_
        simp only [Act.put, List.setIfInBounds_toArray, List.set_cons_zero, List.set_cons_succ]
        refine wpAnyH_take (i := 11) (oi := ⟨some 35, _, _, _, _, _⟩) (v := undef) rfl (by kernel_rfl) (by kernel_rfl) (by kernel_rfl) (fun _ _ _ h => h) (Or.inr ⟨by rfl, rfl⟩) (by assumption) ?_
        simp only [Act.put, List.setIfInBounds_toArray, List.set_cons_zero, List.set_cons_succ]
        refine wpAnyH_take (i := 12) (oi := ⟨some 36, _, _, _, _, _⟩) (v := undef) rfl (by kernel_rfl) (by kernel_rfl) (by kernel_rfl) (fun _ _ _ h => h) (Or.inr ⟨by rfl, rfl⟩) (by assumption) ?_
        simp only [Act.put, List.setIfInBounds_toArray, List.set_cons_zero, List.set_cons_succ]
        refine wpAnyH_take (i := 13) (oi := ⟨some 37, _, _, _, _, _⟩) (v := undef) rfl (by kernel_rfl) (by kernel_rfl) (by kernel_rfl) (fun _ _ _ h => h) (Or.inr ⟨by rfl, rfl⟩) (by assumption) ?_
        simp only [Act.put, List.setIfInBounds_toArray, List.set_cons_zero, List.set_cons_succ]
        refine wpAnyH_take (i := 14) (oi := ⟨some 38, _, _, _, _, _⟩) (v := undef) rfl (by kernel_rfl) (by kernel_rfl) (by kernel_rfl) (fun _ _ _ h => h) (Or.inr ⟨by rfl, rfl⟩) (by assumption) ?_
        simp only [Act.put, List.setIfInBounds_toArray, List.set_cons_zero, List.set_cons_succ]
        refine wpAnyH_take (i := 15) (oi := ⟨some 39, _, _, _, _, _⟩) (v := .bool false) rfl (by kernel_rfl) (by kernel_rfl) (by kernel_rfl) (fun _ _ _ h => h) (Or.inl ⟨by rfl, ?_⟩) (by assumption) ?_
        · intro w hSw; (try dsimp only at hSw); go_simp
        simp only [Act.put, List.setIfInBounds_toArray, List.set_cons_zero, List.set_cons_succ]
        have hs4 : w3.heap.size ≤ (w4.alloc (Obj.cells #[.bool false] 4)).heap.size := Nat.le_trans hsz (keep_alloc k4 _).size
        have Ho4 := own_belowN Ho.out (keep_alloc k4 (Obj.cells #[.bool false] 4))
        have hS5 : (fun wx => wx.cell? (a.add k) = some (.string y) ∧ Below w3.heap.size w3 wx) (w4.alloc (Obj.cells #[.bool false] 4)) := ⟨(HK.out _ ((Hb.out.trans (k4.mono hsz)).alloc (Hb.out.trans (k4.mono hsz)).size _)).1.1, (Hb.out.trans (k4.mono hsz)).alloc (Hb.out.trans (k4.mono hsz)).size _⟩
        refine wpAnyH_ready (rs := [16]) (by kernel_rfl) (by simp) (AllReadyH.cons (o := ⟨some 40, _, _, _, _, _⟩) rfl (fun K hK => ?_) AllReadyH.nil)
        go_simp
        refine hK.out _ _ hS5 (fun _ => ?_)
        clear hK K
        refine wpAnyH_ready (rs := [17]) (by kernel_rfl) (by simp) (AllReadyH.cons (o := ⟨some 41, _, _, _, _, _⟩) rfl (fun K hK => ?_) AllReadyH.nil)
        refine step_append_hasN (by rfl) _ _ _ (by rfl) 4 bo_elemN (by omega) Try.underlying63 (by rfl) Ho4 (by rfl) (lit_bo w4 false) (one_bool _) (by simp only [maxLen]; omega) (by omega) hs4 ?_
        intro vA wA oA gA zA
        have hbA := keep_grown (Hb.out.trans ((keep_alloc k4 (Obj.cells #[.bool false] 4)).mono hsz)) Ho4 hs4 gA
        have hSA : (fun wx => wx.cell? (a.add k) = some (.string y) ∧ Below w3.heap.size w3 wx) wA := ⟨(HK.out _ hbA).1.1, hbA⟩
        refine hK.out _ _ hSA (fun _ => ?_)
        clear hK K
        simp only [Act.put, List.setIfInBounds_toArray, List.set_cons_zero, List.set_cons_succ]
        refine wpAnyH_take (i := 18) (oi := ⟨some 7, _, _, _, _, _⟩) (v := vA) rfl (by kernel_rfl) (by kernel_rfl) (by kernel_rfl) (fun _ _ _ h => h) (Or.inl ⟨by rfl, ?_⟩) (by assumption) ?_
        · intro w hSw; (try dsimp only at hSw); go_simp
        simp only [Act.put, List.setIfInBounds_toArray, List.set_cons_zero, List.set_cons_succ]
        refine wpAnyH_done (by kernel_rfl) ?_ _
        have HoE : Hid (OwnBo wA w3.heap.size vA (isL (fun s => inS l s ∧ ¬ hasR ⟨rl, rh⟩ s) (at_.take (k + 1)))) := Lib.hid (by unfold OwnBo; rw [Hs.out, List.length_append, boCells_app, Hlk.out]; exact oA)
        have HbE : Hid (Below w3.heap.size w3 wA) := Lib.hid hbA
        clear b4 k4 hs4 Ho4 oA gA zA hbA hSA
        go_wp2
        go_roundw
        case rel => exact ⟨k + 1, by omega, by go_num, HoE.out, HbE.out⟩
        case measure => simp [intOf]; omega
    · obtain rfl : k = N := by omega
      have E : Hid (at_.take k = at_) := Lib.hid (List.take_of_length_le (by have := HN.out; omega))
      rw [E.out] at ho
      have hbo : HasBo wr wr.heap.size Ao k (isL (fun s => inS l s ∧ ¬ hasR ⟨rl, rh⟩ s) at_) := by
        obtain ⟨A', c', e', -, -, hx⟩ := OwnBo.slice (show OwnBo wr w3.heap.size (.slice Ao k co) (isL (fun s => inS l s ∧ ¬ hasR ⟨rl, rh⟩ s) at_) by unfold OwnBo; rw [isL_len, HN.out]; exact ho)
        rw [isL_len, HN.out] at e' hx
        injection e' with e1 _ _
        subst e1
        exact hx
      have Hfm := Lib.hid (form_any A3 Ao k c3 co wr.heap.size at_ _ wr ((Hat.out.belowOf hb (Nat.le_refl _)).more_ hsz) hbo (Nat.le_refl _) (by omega) HP.out.1 (isL_at (P := fun s => inS l s ∧ ¬ hasR ⟨rl, rh⟩ s)) (fun j a s ha hs => and_congr (place_in HP.out.1 (fun q hq => HP.out.2 q (List.mem_append_left _ hq)) ha hs) (not_congr (place_same HP.out.1 (HP.out.2 ⟨rl, rh⟩ (by simp)) ha hs))))
      have HbE : Hid (Below w.heap.size w wr) := Lib.hid hbw
      clear ho hb hbo hbr e0 e1 hbw
      go_wp2_with fail
      refine Hfm.out.mono ?_
      rintro e w4 ⟨m, v, rfl, om, fm, lm, bm⟩
      have HE : Hid (OwnRgs w4 w.heap.size v m ∧ IsForm m (fun s => inS l s ∧ ¬ hasR ⟨rl, rh⟩ s) ∧ m.length ≤ 3 + 2 * n ∧ Below w.heap.size w w4) := Lib.hid ⟨own_baseN om HbE.out.size, fm, by have := HNb.out; omega, HbE.out.trans (bm.mono HbE.out.size)⟩
      clear om fm lm bm
      go_wp2
      go_ret
      exact ⟨m, v, rfl, HE.out.1, HE.out.2.1, HE.out.2.2.1, HE.out.2.2.2⟩

end Go.Proofs.Ytijcaefpainhcaa

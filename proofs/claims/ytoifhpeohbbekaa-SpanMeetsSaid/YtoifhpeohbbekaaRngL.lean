/- The document's Meet: what two ranges have in common. Condition: none but that both are few bytes. -/
import Derived.Test.YtoifhpeohbbekaaRngK
namespace Go.Proofs.Ytoifhpeohbbekaa
open Go.RowKit
open Go.Lib (strCells compareBytes)

set_option maxRecDepth 100000 in
set_option maxHeartbeats 6400000 in
theorem refMeet_any (r q : Rg) (w : World) : Calls Try.prog 38 #[ragg r, ragg q] w (MeetPost r q w) := by
  have Hm := Lib.hid (fun m (hm : IsForm m (fun s => hasR r s ∧ hasR q s)) => isForm_uniq hm (meet_form r q) (fun _ => Iff.rfl))
  obtain ⟨hp1, hp2⟩ := places_are [r, q]
  have hN := placesN [r, q] 2
  rw [List.take_of_length_le (by simp)] at hN
  have Hpl := Lib.hid (fun A' c' C' wx (hx : HasRgs wx C' A' 2 [r, q]) hC' => places_any A' 2 c' C' [r, q] wx hx hC' (by omega))
  obtain ⟨at_, hat⟩ : ∃ a, placesL [r, q] = a := ⟨_, rfl⟩
  rw [hat] at hp1 hp2 hN Hpl
  have HP := Lib.hid (And.intro hp1 hp2)
  obtain ⟨N, hNe⟩ : ∃ N, at_.length = N := ⟨_, rfl⟩
  rw [hNe] at hN
  have HN := Lib.hid hNe
  have hNb : N ≤ 5 := by simpa using hN
  have Hr1 := Lib.hid (fun s wx => refHas_any r s wx)
  have Hr2 := Lib.hid (fun s wx => refHas_any q s wx)
  unfold MeetPost
  unfold meetL at Hm
  obtain ⟨M, hM⟩ : ∃ M, meetR r q = M := ⟨_, rfl⟩
  rw [hM] at Hm ⊢
  obtain ⟨ml, mh⟩ := M
  obtain ⟨al, ah⟩ := r
  obtain ⟨bl, bh⟩ := q
  unfold ragg at *
  simp only at Hr1 Hr2
  obtain ⟨Z, hZ⟩ : ∃ Z : Value, (Value.tuple #[if emptyR ⟨ml, mh⟩ then .agg #[.string ⟨#[]⟩, .string ⟨#[]⟩] else .agg #[.string ml, .string mh], .bool (!decide (emptyR ⟨ml, mh⟩))]) = Z := ⟨_, rfl⟩
  rw [hZ]
  have HZ := Lib.hid hZ
  clear hp1 hp2 hat hNe hN hM hZ
  have hbx : Box (((w.alloc (.cells #[.string al, .string ah] 25)).alloc (.cells #[.string bl, .string bh] 25)).alloc (.cells #[.string ⟨#[]⟩, .string ⟨#[]⟩] 25)) w.heap.size 25 #[.string al, .string ah] := ((Box.made _ _ _).alloc _).alloc _
  have hby : Box (((w.alloc (.cells #[.string al, .string ah] 25)).alloc (.cells #[.string bl, .string bh] 25)).alloc (.cells #[.string ⟨#[]⟩, .string ⟨#[]⟩] 25)) (w.heap.size + 1) 25 #[.string bl, .string bh] := by
    have := (Box.made (w.alloc (.cells #[.string al, .string ah] 25)) 25 #[.string bl, .string bh]).alloc (.cells #[.string ⟨#[]⟩, .string ⟨#[]⟩] 25)
    rwa [World.size_alloc] at this
  have hbz : Box (((w.alloc (.cells #[.string al, .string ah] 25)).alloc (.cells #[.string bl, .string bh] 25)).alloc (.cells #[.string ⟨#[]⟩, .string ⟨#[]⟩] 25)) (w.heap.size + 1 + 1) 25 #[.string ⟨#[]⟩, .string ⟨#[]⟩] := by
    have := Box.made ((w.alloc (.cells #[.string al, .string ah] 25)).alloc (.cells #[.string bl, .string bh] 25)) 25 #[.string ⟨#[]⟩, .string ⟨#[]⟩]
    rwa [World.size_alloc, World.size_alloc] at this
  have HBx : Hid (∀ wx, Below (w.heap.size + 1 + 1 + 1) (((w.alloc (.cells #[.string al, .string ah] 25)).alloc (.cells #[.string bl, .string bh] 25)).alloc (.cells #[.string ⟨#[]⟩, .string ⟨#[]⟩] 25)) wx → ((wx.cell? ⟨w.heap.size, 0, none⟩ = some (.string al) ∧ wx.cell? ⟨w.heap.size, 1, none⟩ = some (.string ah)) ∧ wx.cell? ⟨w.heap.size + 1, 0, none⟩ = some (.string bl) ∧ wx.cell? ⟨w.heap.size + 1, 1, none⟩ = some (.string bh)) ∧ Box wx (w.heap.size + 1 + 1) 25 #[.string ⟨#[]⟩, .string ⟨#[]⟩] ∧ Below w.heap.size w wx ∧ w.heap.size + 1 + 1 + 1 ≤ wx.heap.size) := Lib.hid fun wx hx =>
    ⟨⟨⟨below_cell hx (by show w.heap.size < _; omega) (hbx.cell 0), below_cell hx (by show w.heap.size < _; omega) (hbx.cell 1)⟩, below_cell hx (by show w.heap.size + 1 < _; omega) (hby.cell 0), below_cell hx (by show w.heap.size + 1 < _; omega) (hby.cell 1)⟩, hbz.below hx (by omega),
      (((below_box _).alloc (by simp only [World.size_alloc]; omega) _).alloc (by simp only [World.size_alloc]; omega) _).trans (hx.mono (by omega)), by have := hx.size; simp only [World.size_alloc] at this; exact this⟩
  have Hlit : Hid (HasRgs ((((w.alloc (.cells #[.string al, .string ah] 25)).alloc (.cells #[.string bl, .string bh] 25)).alloc (.cells #[.string ⟨#[]⟩, .string ⟨#[]⟩] 25)).alloc (.cells #[.string al, .string ah, .string bl, .string bh] 25)) (w.heap.size + 1 + 1 + 1 + 1) (some ⟨w.heap.size + 1 + 1 + 1, 0, none⟩) 2 [⟨al, ah⟩, ⟨bl, bh⟩]) := Lib.hid ⟨rfl, by
    have := Has.lit (((w.alloc (.cells #[.string al, .string ah] 25)).alloc (.cells #[.string bl, .string bh] 25)).alloc (.cells #[.string ⟨#[]⟩, .string ⟨#[]⟩] 25)) #[.string al, .string ah, .string bl, .string bh] 25
    simp only [World.size_alloc] at this
    exact this⟩
  have HWl : Hid (Below (w.heap.size + 1 + 1 + 1) (((w.alloc (.cells #[.string al, .string ah] 25)).alloc (.cells #[.string bl, .string bh] 25)).alloc (.cells #[.string ⟨#[]⟩, .string ⟨#[]⟩] 25)) ((((w.alloc (.cells #[.string al, .string ah] 25)).alloc (.cells #[.string bl, .string bh] 25)).alloc (.cells #[.string ⟨#[]⟩, .string ⟨#[]⟩] 25)).alloc (.cells #[.string al, .string ah, .string bl, .string bh] 25))) := Lib.hid ((Below.refl _ _).alloc (by simp only [World.size_alloc]; omega) _)
  clear hbx hby hbz
  go_enter Try.func38, Try.ntmps38
  go_wp2_with fail
  refine (Hpl.out _ _ _ _ Hlit.out (by simp only [World.size_alloc]; omega)).mono ?_
  rintro e w3 ⟨v3, rfl, o3, b3⟩
  obtain ⟨A3, c3, rfl, -, -, x3⟩ := o3.slice
  rw [HN.out] at x3 ⊢
  have Hat := Lib.hid x3
  have Hb3 : Hid (Below (w.heap.size + 1 + 1 + 1) (((w.alloc (.cells #[.string al, .string ah] 25)).alloc (.cells #[.string bl, .string bh] 25)).alloc (.cells #[.string ⟨#[]⟩, .string ⟨#[]⟩] 25)) w3) := Lib.hid (HWl.out.trans (b3.mono (by simp only [World.size_alloc]; omega)))
  clear o3 x3 b3
  have hsz3 := (HBx.out w3 Hb3.out).2.2.2
  go_wp2
  go_loopw [7, 8] (fun o iv wr => ∃ k : Nat, k ≤ N ∧ iv = .int .i64 (k : Int) ∧ OwnBo wr w3.heap.size o (isL (fun s => hasR ⟨al, ah⟩ s ∧ hasR ⟨bl, bh⟩ s) (at_.take k)) ∧ Below w3.heap.size w3 wr) (fun _ iv _ => N - (intOf iv).toNat)
  case atStart => exact ⟨0, by omega, rfl, OwnBo.nil _ _, Below.refl _ _⟩
  case round =>
    obtain ⟨k, hk, rfl, ho, hb⟩ := hrel
    have Hb := Lib.hid hb
    have hsz := hb.size
    have Hlk : Hid ((isL (fun s => hasR ⟨al, ah⟩ s ∧ hasR ⟨bl, bh⟩ s) (at_.take k)).length = k) := Lib.hid (by rw [isL_len, List.length_take]; have := HN.out; omega)
    obtain ⟨Ao, co, rfl, -, -, -⟩ := ho.slice
    unfold OwnBo at ho
    rw [Hlk.out] at ho ⊢
    by_cases hlt : k < N
    · obtain ⟨a, y, rfl, hab, hy, c0⟩ := (Hat.out.belowOf hb (Nat.le_refl _)).at_ hlt
      have Hs := Lib.hid (isL_succ (P := fun s => hasR ⟨al, ah⟩ s ∧ hasR ⟨bl, bh⟩ s) hy)
      have Hha := Lib.hid (fun wx => Hr1.out y wx)
      have Hhb := Lib.hid (fun wx => Hr2.out y wx)
      obtain ⟨d, hd⟩ : ∃ d, decide (hasR ⟨al, ah⟩ y.data.toList) = d := ⟨_, rfl⟩
      obtain ⟨d3, hd2⟩ : ∃ d2, decide (hasR ⟨bl, bh⟩ y.data.toList) = d2 := ⟨_, rfl⟩
      have Hdd : Hid (decide (hasR ⟨al, ah⟩ y.data.toList ∧ hasR ⟨bl, bh⟩ y.data.toList) = (d && d3)) := Lib.hid (by rw [← hd, ← hd2]; simp)
      simp only [hd] at Hha
      simp only [hd2] at Hhb
      rw [Hdd.out] at Hs
      have hk0 : (0 : Int) ≤ (k : Int) := by omega
      have hk1 : (k : Int) < (N : Int) := by omega
      have Ho := Lib.hid ho
      have HK : Hid (∀ wx, Below w3.heap.size w3 wx → (wx.cell? (a.add k) = some (.string y) ∧ (wx.cell? ⟨w.heap.size, 0, none⟩ = some (.string al) ∧ wx.cell? ⟨w.heap.size, 1, none⟩ = some (.string ah)) ∧ wx.cell? ⟨w.heap.size + 1, 0, none⟩ = some (.string bl) ∧ wx.cell? ⟨w.heap.size + 1, 1, none⟩ = some (.string bh)) ∧ Below w3.heap.size w3 wx) := Lib.hid fun wx hx => by
        obtain ⟨a', y', e, hab', hy', c0'⟩ := (Hat.out.belowOf hx (Nat.le_refl _)).at_ hlt
        injection e with e
        subst e
        rw [hy] at hy'
        injection hy' with hy'
        subst hy'
        exact ⟨⟨c0', (HBx.out _ (Hb3.out.trans (hx.mono hsz3))).1⟩, hx⟩
      clear hd hd2 ho hb hy c0
      cases d with
      | true =>
        rw [Bool.true_and] at Hs
        go_wp2
        go_region_held3 (fun wx => (wx.cell? (a.add k) = some (.string y) ∧ (wx.cell? ⟨w.heap.size, 0, none⟩ = some (.string al) ∧ wx.cell? ⟨w.heap.size, 1, none⟩ = some (.string ah)) ∧ wx.cell? ⟨w.heap.size + 1, 0, none⟩ = some (.string bl) ∧ wx.cell? ⟨w.heap.size + 1, 1, none⟩ = some (.string bh)) ∧ Below w3.heap.size w3 wx)
          (first | exact HK.out _ Hb.out.drew | exact HK.out _ (keep_call (And.right (by assumption)) b4) | exact HK.out _ (keep_call (And.right (by assumption)) b5) | exact HK.out _ (keep_alloc (And.right (by assumption)) _) | exact HK.out _ hbA)
          (first
            | (go_at_call_of 42 (Value.agg #[.string al, .string ah]); refine (Hha.out _).mono ?_; rintro e w4 ⟨rfl, b4⟩)
            | (go_at_call_of 42 (Value.agg #[.string bl, .string bh]); refine (Hhb.out _).mono ?_; rintro e w5 ⟨rfl, b5⟩; have k5 := keep_call (keep_call (Below.refl wr.heap.size wr).drew b4) b5; have hs5 : w3.heap.size ≤ (w5.alloc (Obj.cells #[.bool d3] 4)).heap.size := Nat.le_trans hsz (keep_alloc k5 _).size; have Ho5 := own_belowN Ho.out (keep_alloc k5 (Obj.cells #[.bool d3] 4)))
            | (refine step_append_hasN (by rfl) _ _ _ (by rfl) 4 bo_elemN (by omega) Try.underlying23 (by rfl) Ho5 (by rfl) (lit_bo w5 d3) (one_bool _) (by simp only [maxLen]; omega) (by omega) hs5 ?_; intro vA wA oA gA zA; have hbA := keep_grown (Hb.out.trans ((keep_alloc k5 (Obj.cells #[.bool d3] 4)).mono hsz)) Ho5 hs5 gA))
        all_goals
          have HoE : Hid (OwnBo wA w3.heap.size vA (isL (fun s => hasR ⟨al, ah⟩ s ∧ hasR ⟨bl, bh⟩ s) (at_.take (k + 1)))) := Lib.hid (by unfold OwnBo; rw [Hs.out, List.length_append, boCells_app, Hlk.out]; exact oA)
          have HbE : Hid (Below w3.heap.size w3 wA) := Lib.hid hbA
          clear b4 b5 k5 hs5 Ho5 oA gA zA hbA
          go_wp2
          go_roundw
          case rel => exact ⟨k + 1, by omega, by go_num, HoE.out, HbE.out⟩
          case measure => simp [intOf]; omega
      | false =>
        rw [Bool.false_and] at Hs
        go_wp2
        have hS0 : (fun wx => (wx.cell? (a.add k) = some (.string y) ∧ (wx.cell? ⟨w.heap.size, 0, none⟩ = some (.string al) ∧ wx.cell? ⟨w.heap.size, 1, none⟩ = some (.string ah)) ∧ wx.cell? ⟨w.heap.size + 1, 0, none⟩ = some (.string bl) ∧ wx.cell? ⟨w.heap.size + 1, 1, none⟩ = some (.string bh)) ∧ Below w3.heap.size w3 wx) wr.drew := HK.out _ Hb.out.drew
        refine wp_region_held_drew (S := fun wx => (wx.cell? (a.add k) = some (.string y) ∧ (wx.cell? ⟨w.heap.size, 0, none⟩ = some (.string al) ∧ wx.cell? ⟨w.heap.size, 1, none⟩ = some (.string ah)) ∧ wx.cell? ⟨w.heap.size + 1, 0, none⟩ = some (.string bl) ∧ wx.cell? ⟨w.heap.size + 1, 1, none⟩ = some (.string bh)) ∧ Below w3.heap.size w3 wx) (by kernel_rfl) hS0 (fun hHeld => ?_)
        refine wpAnyH_take (i := 0) (oi := ⟨some 20, _, _, _, _, _⟩) (v := .slice Ao k co) rfl (by kernel_rfl) (by kernel_rfl) (by kernel_rfl) (fun _ _ _ h => h) (Or.inl ⟨by rfl, ?_⟩) (by assumption) ?_
        · intro w hSw; (try dsimp only at hSw); go_simp
        simp only [Act.put, List.setIfInBounds_toArray, List.set_cons_zero, List.set_cons_succ]
        refine wpAnyH_take (i := 1) (oi := ⟨some 21, _, _, _, _, _⟩) (v := .agg #[.string al, .string ah]) rfl (by kernel_rfl) (by kernel_rfl) (by kernel_rfl) (fun _ _ _ h => h) (Or.inl ⟨by rfl, ?_⟩) (by assumption) ?_
        · intro w hSw; (try dsimp only at hSw); go_simp
        simp only [Act.put, List.setIfInBounds_toArray, List.set_cons_zero, List.set_cons_succ]
        refine wpAnyH_take (i := 2) (oi := ⟨some 22, _, _, _, _, _⟩) (v := .slice (some a) N c3) rfl (by kernel_rfl) (by kernel_rfl) (by kernel_rfl) (fun _ _ _ h => h) (Or.inl ⟨by rfl, ?_⟩) (by assumption) ?_
        · intro w hSw; (try dsimp only at hSw); go_simp
        simp only [Act.put, List.setIfInBounds_toArray, List.set_cons_zero, List.set_cons_succ]
        refine wpAnyH_take (i := 3) (oi := ⟨some 23, _, _, _, _, _⟩) (v := .int .i64 (k : Int)) rfl (by kernel_rfl) (by kernel_rfl) (by kernel_rfl) (fun _ _ _ h => h) (Or.inl ⟨by rfl, ?_⟩) (by assumption) ?_
        · intro w hSw; (try dsimp only at hSw); go_simp
        simp only [Act.put, List.setIfInBounds_toArray, List.set_cons_zero, List.set_cons_succ]
        refine wpAnyH_take (i := 4) (oi := ⟨some 24, _, _, _, _, _⟩) (v := .pointer (some (a.add k))) rfl (by kernel_rfl) (by kernel_rfl) (by kernel_rfl) (fun _ _ _ h => h) (Or.inl ⟨by rfl, ?_⟩) (by assumption) ?_
        · intro w hSw; (try dsimp only at hSw); go_simp
        simp only [Act.put, List.setIfInBounds_toArray, List.set_cons_zero, List.set_cons_succ]
        refine wpAnyH_take (i := 5) (oi := ⟨some 25, _, _, _, _, _⟩) (v := .string y) rfl (by kernel_rfl) (by kernel_rfl) (by kernel_rfl) (fun _ _ _ h => h) (Or.inl ⟨by rfl, ?_⟩) (by assumption) ?_
        · intro w hSw; (try dsimp only at hSw); go_simp
        simp only [Act.put, List.setIfInBounds_toArray, List.set_cons_zero, List.set_cons_succ]
        refine wpAnyH_ready (rs := [6]) (by kernel_rfl) (by simp) (AllReadyH.cons (o := ⟨some 26, _, _, _, _, _⟩) rfl (fun K hK => ?_) AllReadyH.nil)
        go_simp
        refine (Hha.out _).mono ?_; rintro e w4 ⟨rfl, b4⟩
        have k4 := keep_call (Below.refl wr.heap.size wr).drew b4
        have hS4 : (fun wx => (wx.cell? (a.add k) = some (.string y) ∧ (wx.cell? ⟨w.heap.size, 0, none⟩ = some (.string al) ∧ wx.cell? ⟨w.heap.size, 1, none⟩ = some (.string ah)) ∧ wx.cell? ⟨w.heap.size + 1, 0, none⟩ = some (.string bl) ∧ wx.cell? ⟨w.heap.size + 1, 1, none⟩ = some (.string bh)) ∧ Below w3.heap.size w3 wx) w4 := HK.out _ (Hb.out.trans (k4.mono hsz))
        refine hK.out _ _ hS4 (fun _ => ?_)
        clear hK K
        refine wpAnyH_take (i := 7) (oi := ⟨some 27, _, _, _, _, _⟩) (v := .bool false) rfl (by kernel_rfl) (by kernel_rfl) (by kernel_rfl) (fun _ _ _ h => h) (Or.inl ⟨by rfl, ?_⟩) (by assumption) ?_
        · intro w hSw; (try dsimp only at hSw); go_simp
        simp only [Act.put, List.setIfInBounds_toArray, List.set_cons_zero, List.set_cons_succ]
        refine wpAnyH_take (i := 8) (oi := ⟨some 28, _, _, _, _, _⟩) (v := undef) rfl (by kernel_rfl) (by kernel_rfl) (by kernel_rfl) (fun _ _ _ h => h) (Or.inr ⟨by rfl, rfl⟩) (by assumption) ?_
        simp only [Act.put, List.setIfInBounds_toArray, List.set_cons_zero, List.set_cons_succ]
        refine wpAnyH_take (i := 9) (oi := ⟨some 29, _, _, _, _, _⟩) (v := undef) rfl (by kernel_rfl) (by kernel_rfl) (by kernel_rfl) (fun _ _ _ h => h) (Or.inr ⟨by rfl, rfl⟩) (by assumption) ?_
        simp only [Act.put, List.setIfInBounds_toArray, List.set_cons_zero, List.set_cons_succ]
        refine wpAnyH_take (i := 10) (oi := ⟨some 30, _, _, _, _, _⟩) (v := undef) rfl (by kernel_rfl) (by kernel_rfl) (by kernel_rfl) (fun _ _ _ h => h) (Or.inr ⟨by rfl, rfl⟩) (by assumption) ?_
        simp only [Act.put, List.setIfInBounds_toArray, List.set_cons_zero, List.set_cons_succ]
        refine wpAnyH_take (i := 11) (oi := ⟨some 31, _, _, _, _, _⟩) (v := undef) rfl (by kernel_rfl) (by kernel_rfl) (by kernel_rfl) (fun _ _ _ h => h) (Or.inr ⟨by rfl, rfl⟩) (by assumption) ?_
        simp only [Act.put, List.setIfInBounds_toArray, List.set_cons_zero, List.set_cons_succ]
        refine wpAnyH_take (i := 12) (oi := ⟨some 32, _, _, _, _, _⟩) (v := undef) rfl (by kernel_rfl) (by kernel_rfl) (by kernel_rfl) (fun _ _ _ h => h) (Or.inr ⟨by rfl, rfl⟩) (by assumption) ?_
        simp only [Act.put, List.setIfInBounds_toArray, List.set_cons_zero, List.set_cons_succ]
        refine wpAnyH_take (i := 13) (oi := ⟨some 33, _, _, _, _, _⟩) (v := undef) rfl (by kernel_rfl) (by kernel_rfl) (by kernel_rfl) (fun _ _ _ h => h) (Or.inr ⟨by rfl, rfl⟩) (by assumption) ?_
        simp only [Act.put, List.setIfInBounds_toArray, List.set_cons_zero, List.set_cons_succ]
        refine wpAnyH_take (i := 14) (oi := ⟨some 34, _, _, _, _, _⟩) (v := .bool false) rfl (by kernel_rfl) (by kernel_rfl) (by kernel_rfl) (fun _ _ _ h => h) (Or.inl ⟨by rfl, ?_⟩) (by assumption) ?_
        · intro w hSw; (try dsimp only at hSw); go_simp
        simp only [Act.put, List.setIfInBounds_toArray, List.set_cons_zero, List.set_cons_succ]
        have hs4 : w3.heap.size ≤ (w4.alloc (Obj.cells #[.bool false] 4)).heap.size := Nat.le_trans hsz (keep_alloc k4 _).size
        have Ho4 := own_belowN Ho.out (keep_alloc k4 (Obj.cells #[.bool false] 4))
        have hS5 : (fun wx => (wx.cell? (a.add k) = some (.string y) ∧ (wx.cell? ⟨w.heap.size, 0, none⟩ = some (.string al) ∧ wx.cell? ⟨w.heap.size, 1, none⟩ = some (.string ah)) ∧ wx.cell? ⟨w.heap.size + 1, 0, none⟩ = some (.string bl) ∧ wx.cell? ⟨w.heap.size + 1, 1, none⟩ = some (.string bh)) ∧ Below w3.heap.size w3 wx) (w4.alloc (Obj.cells #[.bool false] 4)) := HK.out _ ((Hb.out.trans (k4.mono hsz)).alloc (Hb.out.trans (k4.mono hsz)).size _)
        refine wpAnyH_ready (rs := [15]) (by kernel_rfl) (by simp) (AllReadyH.cons (o := ⟨some 35, _, _, _, _, _⟩) rfl (fun K hK => ?_) AllReadyH.nil)
        go_simp
        refine hK.out _ _ hS5 (fun _ => ?_)
        clear hK K
        refine wpAnyH_ready (rs := [16]) (by kernel_rfl) (by simp) (AllReadyH.cons (o := ⟨some 36, _, _, _, _, _⟩) rfl (fun K hK => ?_) AllReadyH.nil)
        refine step_append_hasN (by rfl) _ _ _ (by rfl) 4 bo_elemN (by omega) Try.underlying23 (by rfl) Ho4 (by rfl) (lit_bo w4 false) (one_bool _) (by simp only [maxLen]; omega) (by omega) hs4 ?_
        intro vA wA oA gA zA
        have hbA := keep_grown (Hb.out.trans ((keep_alloc k4 (Obj.cells #[.bool false] 4)).mono hsz)) Ho4 hs4 gA
        have hSA : (fun wx => (wx.cell? (a.add k) = some (.string y) ∧ (wx.cell? ⟨w.heap.size, 0, none⟩ = some (.string al) ∧ wx.cell? ⟨w.heap.size, 1, none⟩ = some (.string ah)) ∧ wx.cell? ⟨w.heap.size + 1, 0, none⟩ = some (.string bl) ∧ wx.cell? ⟨w.heap.size + 1, 1, none⟩ = some (.string bh)) ∧ Below w3.heap.size w3 wx) wA := HK.out _ hbA
        refine hK.out _ _ hSA (fun _ => ?_)
        clear hK K
        simp only [Act.put, List.setIfInBounds_toArray, List.set_cons_zero, List.set_cons_succ]
        refine wpAnyH_take (i := 17) (oi := ⟨some 7, _, _, _, _, _⟩) (v := vA) rfl (by kernel_rfl) (by kernel_rfl) (by kernel_rfl) (fun _ _ _ h => h) (Or.inl ⟨by rfl, ?_⟩) (by assumption) ?_
        · intro w hSw; (try dsimp only at hSw); go_simp
        simp only [Act.put, List.setIfInBounds_toArray, List.set_cons_zero, List.set_cons_succ]
        refine wpAnyH_done (by kernel_rfl) ?_ _
        have HoE : Hid (OwnBo wA w3.heap.size vA (isL (fun s => hasR ⟨al, ah⟩ s ∧ hasR ⟨bl, bh⟩ s) (at_.take (k + 1)))) := Lib.hid (by unfold OwnBo; rw [Hs.out, List.length_append, boCells_app, Hlk.out]; exact oA)
        have HbE : Hid (Below w3.heap.size w3 wA) := Lib.hid hbA
        clear b4 k4 hs4 Ho4 oA gA zA hbA hSA
        go_wp2
        go_roundw
        case rel => exact ⟨k + 1, by omega, by go_num, HoE.out, HbE.out⟩
        case measure => simp [intOf]; omega
    · obtain rfl : k = N := by omega
      have E : Hid (at_.take k = at_) := Lib.hid (List.take_of_length_le (by have := HN.out; omega))
      rw [E.out] at ho
      have hbo : HasBo wr wr.heap.size Ao k (isL (fun s => hasR ⟨al, ah⟩ s ∧ hasR ⟨bl, bh⟩ s) at_) := by
        obtain ⟨A', c', e', -, -, hx⟩ := OwnBo.slice (show OwnBo wr w3.heap.size (.slice Ao k co) (isL (fun s => hasR ⟨al, ah⟩ s ∧ hasR ⟨bl, bh⟩ s) at_) by unfold OwnBo; rw [isL_len, HN.out]; exact ho)
        rw [isL_len, HN.out] at e' hx
        injection e' with e1 _ _
        subst e1
        exact hx
      have Hfm := Lib.hid (form_any A3 Ao k c3 co wr.heap.size at_ _ wr ((Hat.out.belowOf hb (Nat.le_refl _)).more_ hsz) hbo (Nat.le_refl _) (by omega) HP.out.1 (isL_at (P := fun s => hasR ⟨al, ah⟩ s ∧ hasR ⟨bl, bh⟩ s)) (fun j a s ha hs => and_congr (place_same HP.out.1 (HP.out.2 ⟨al, ah⟩ (by simp)) ha hs) (place_same HP.out.1 (HP.out.2 ⟨bl, bh⟩ (by simp)) ha hs)))
      have Hbr : Hid (Below (w.heap.size + 1 + 1 + 1) (((w.alloc (.cells #[.string al, .string ah] 25)).alloc (.cells #[.string bl, .string bh] 25)).alloc (.cells #[.string ⟨#[]⟩, .string ⟨#[]⟩] 25)) wr) := Lib.hid (Hb3.out.trans (hb.mono hsz3))
      clear ho hb hbo
      go_wp2_with fail
      refine Hfm.out.mono ?_
      rintro e w4 ⟨m, v, rfl, om, fm, lm, bm⟩
      have Hb4 : Hid (Below (w.heap.size + 1 + 1 + 1) (((w.alloc (.cells #[.string al, .string ah] 25)).alloc (.cells #[.string bl, .string bh] 25)).alloc (.cells #[.string ⟨#[]⟩, .string ⟨#[]⟩] 25)) w4) := Lib.hid (Hbr.out.trans (bm.mono (HBx.out _ Hbr.out).2.2.2))
      obtain ⟨-, bz, bw, -⟩ := HBx.out w4 Hb4.out
      have f0 := bz.frozen 0
      have f1 := bz.frozen 1
      have p0 := bz.cell 0
      have p1 := bz.cell 1
      simp at p0 p1
      have Hbw := Lib.hid bw
      have Hbz := Lib.hid bz
      have hmm := Hm.out m fm
      obtain ⟨Am, cm, rfl, -, -, hxm⟩ := om.slice
      clear om fm lm bm bz bw
      by_cases he : emptyR ⟨ml, mh⟩
      · rw [if_pos he] at hmm
        have hz := HZ.out
        rw [if_pos he, decide_eq_true he] at hz
        have Hz := Lib.hid hz
        clear hz
        subst hmm
        have H3 := Lib.hid (two_set Hbz.out (.string ⟨#[]⟩) (.string ⟨#[]⟩))
        have Hb5 : Hid (Below w.heap.size w ((w4.setCell ⟨w.heap.size + 1 + 1, 0, none⟩ (.string ⟨#[]⟩)).setCell ⟨w.heap.size + 1 + 1, 1, none⟩ (.string ⟨#[]⟩))) := Lib.hid ((Hbw.out.setCell (by show w.heap.size ≤ w.heap.size + 1 + 1; omega) _).setCell (by show w.heap.size ≤ w.heap.size + 1 + 1; omega) _)
        rw [show ([] : List Rg).length = 0 from rfl]
        clear he hxm
        go_wp2
        obtain ⟨W5, hW5⟩ : ∃ W5, (w4.setCell ⟨w.heap.size + 1 + 1, 0, none⟩ (.string ⟨#[]⟩)).setCell ⟨w.heap.size + 1 + 1, 1, none⟩ (.string ⟨#[]⟩) = W5 := ⟨_, rfl⟩
        rw [hW5] at H3 Hb5 ⊢
        have r0 := H3.out.cell 0
        have r1 := H3.out.cell 1
        simp at r0 r1
        refine bodyPost_ret (v := .tuple #[.agg #[.string ⟨#[]⟩, .string ⟨#[]⟩], .bool false]) ?_ rfl ⟨by rw [← Hz.out]; rfl, Hb5.out⟩
        simp [results, Try.results38, go_sem, r0, r1]
      · rw [if_neg he] at hmm
        have hz := HZ.out
        rw [if_neg he, decide_eq_false he] at hz
        have Hz := Lib.hid hz
        clear hz
        subst hmm
        have hxm' : HasRgs w4 w4.heap.size Am 1 [⟨ml, mh⟩] := hxm
        obtain ⟨a, y, rfl, -, hy, q0, q1⟩ := hxm'.at_ (i := 0) (by omega)
        obtain rfl : ⟨ml, mh⟩ = y := by simpa using hy
        have e0 : a.add (0 * 2) = a := rfl
        rw [e0] at q0 q1
        have H3 := Lib.hid (two_set Hbz.out (.string ml) (.string mh))
        have Hb5 : Hid (Below w.heap.size w ((w4.setCell ⟨w.heap.size + 1 + 1, 0, none⟩ (.string ml)).setCell ⟨w.heap.size + 1 + 1, 1, none⟩ (.string mh))) := Lib.hid ((Hbw.out.setCell (by show w.heap.size ≤ w.heap.size + 1 + 1; omega) _).setCell (by show w.heap.size ≤ w.heap.size + 1 + 1; omega) _)
        rw [show ([⟨ml, mh⟩] : List Rg).length = 1 from rfl]
        clear he hxm hxm' hy e0
        go_wp2
        obtain ⟨W5, hW5⟩ : ∃ W5, (w4.setCell ⟨w.heap.size + 1 + 1, 0, none⟩ (.string ml)).setCell ⟨w.heap.size + 1 + 1, 1, none⟩ (.string mh) = W5 := ⟨_, rfl⟩
        rw [hW5] at H3 Hb5 ⊢
        have r0 := H3.out.cell 0
        have r1 := H3.out.cell 1
        simp at r0 r1
        refine bodyPost_ret (v := .tuple #[.agg #[.string ml, .string mh], .bool true]) ?_ rfl ⟨by rw [← Hz.out]; rfl, Hb5.out⟩
        simp [results, Try.results38, go_sem, r0, r1]

end Go.Proofs.Ytoifhpeohbbekaa

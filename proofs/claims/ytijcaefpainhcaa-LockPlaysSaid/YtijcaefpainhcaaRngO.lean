/- span's outside and Minus. Condition: few ranges with texts that fit, in memory. -/
import Derived.Test.YtijcaefpainhcaaRngF
import Derived.Test.YtijcaefpainhcaaRngK
namespace Go.Proofs.Ytijcaefpainhcaa
open Go.RowKit
open Go.Lib (strCells compareBytes)

theorem rg_lit_at (W : World) (g : Nat) (hg : W.heap.size = g) (c : Rg) : Has (W.alloc (.cells #[.string c.lo, .string c.hi] 23)) (g + 1) (some ⟨g, 0, none⟩) (1 * 2) (rgCells [c]) := by
  subst hg
  exact rg_lit W c
theorem out_nn : outR ⟨⟨#[]⟩, ⟨#[]⟩⟩ = [] := rfl
theorem out_ns {h : ByteArray} (hh : h ≠ ⟨#[]⟩) : outR ⟨⟨#[]⟩, h⟩ = [⟨h, ⟨#[]⟩⟩] := by
  have e : (⟨⟨#[]⟩, h⟩ : Rg).hb ≠ [] := text_ne hh
  have e2 : (⟨⟨#[]⟩, h⟩ : Rg).lb = [] := rfl
  unfold outR
  rw [if_neg e, if_pos e2]
  rfl
theorem out_sn {l : ByteArray} (hl : l ≠ ⟨#[]⟩) : outR ⟨l, ⟨#[]⟩⟩ = [⟨⟨#[]⟩, l⟩] := by
  have e : (⟨l, ⟨#[]⟩⟩ : Rg).lb ≠ [] := text_ne hl
  have e2 : (⟨l, ⟨#[]⟩⟩ : Rg).hb = [] := rfl
  unfold outR
  rw [if_neg e, if_pos e2]
  rfl
theorem out_ss {l h : ByteArray} (hl : l ≠ ⟨#[]⟩) (hh : h ≠ ⟨#[]⟩) : outR ⟨l, h⟩ = [⟨⟨#[]⟩, l⟩, ⟨h, ⟨#[]⟩⟩] := by
  have e : (⟨l, h⟩ : Rg).lb ≠ [] := text_ne hl
  have e2 : (⟨l, h⟩ : Rg).hb ≠ [] := text_ne hh
  unfold outR
  rw [if_neg e, if_neg e2]
  rfl
theorem outR_len (r : Rg) : (outR r).length ≤ 2 := by
  unfold outR
  rw [List.length_append]
  have h1 : (if r.lb = [] then [] else [(⟨⟨#[]⟩, r.lo⟩ : Rg)]).length ≤ 1 := by split <;> simp
  have h2 : (if r.hb = [] then [] else [(⟨r.hi, ⟨#[]⟩⟩ : Rg)]).length ≤ 1 := by split <;> simp
  omega
theorem outR_small {r : Rg} {K : Nat} (h : r.lo.size ≤ K ∧ r.hi.size ≤ K) : Small K (outR r) := by
  unfold outR
  intro x hx
  have h0 : (⟨#[]⟩ : ByteArray).size ≤ K := Nat.zero_le _
  rcases List.mem_append.1 hx with hx | hx
  · split at hx
    · simp at hx
    · simp at hx; subst hx; exact ⟨h0, h.1⟩
  · split at hx
    · simp at hx
    · simp at hx; subst hx; exact ⟨h.2, h0⟩
set_option maxRecDepth 100000 in
set_option maxHeartbeats 1600000 in
theorem outside_any (r : Rg) (w : World) : Calls Try.prog 55 #[ragg r] w (GivesR w.heap.size (outR r) w) := by
  obtain ⟨rl, rh⟩ := r
  unfold ragg
  have HBx : Hid (∀ wx, Below (w.heap.size + 1) (w.alloc (.cells #[.string rl, .string rh] 23)) wx → wx.cell? ⟨w.heap.size, 0, none⟩ = some (.string rl) ∧ wx.cell? ⟨w.heap.size, 1, none⟩ = some (.string rh) ∧ Below w.heap.size w wx ∧ w.heap.size + 1 ≤ wx.heap.size) := Lib.hid fun wx hx =>
    ⟨below_cell hx (Nat.lt_succ_self _) ((Box.made w _ #[.string rl, .string rh]).cell 0), below_cell hx (Nat.lt_succ_self _) ((Box.made w _ #[.string rl, .string rh]).cell 1), (below_box _).trans (hx.mono (Nat.le_succ _)), by have := hx.size; rw [World.size_alloc] at this; exact this⟩
  obtain ⟨O, hO⟩ : ∃ O, outR ⟨rl, rh⟩ = O := ⟨_, rfl⟩
  rw [hO]
  have HO := Lib.hid hO
  clear hO
  by_cases hl : rl = ⟨#[]⟩
  · by_cases hh : rh = ⟨#[]⟩
    · subst hl
      subst hh
      have E : Hid (O = []) := Lib.hid (by rw [← HO.out]; rfl)
      have Hb := Lib.hid (HBx.out _ (Below.refl _ _)).2.2.1
      go_enter Try.func55, Try.ntmps55
      go_wp2
      go_ret
      exact ⟨_, rfl, by rw [E.out]; exact OwnRgs.nil _ _, Hb.out⟩
    · subst hl
      have h1 := text_nil hh
      have E : Hid (O = [⟨rh, ⟨#[]⟩⟩]) := Lib.hid (by rw [← HO.out, out_ns hh])
      clear hh
      go_enter Try.func55, Try.ntmps55
      go_wp2_with (at_builtin; refine wpList_append_hasN rfl (.tmp 16) (.tmp 20) _ rfl 23 rg_elem (by omega) Try.underlying26 rfl (own_nilR _ (w.heap.size + 1)) rfl (rg_lit_at (w.alloc (.cells #[.string ⟨#[]⟩, .string rh] 23)) (w.heap.size + 1) (by simp only [World.size_alloc]) ⟨rh, ⟨#[]⟩⟩) (rgCells_one _) (by simp only [maxLen]; omega) (by omega) (by simp only [World.size_alloc]; omega) ?_; intro v1 w1 o1 g1 z1; obtain ⟨A1, c1, rfl, -, -, -⟩ := own_sliceN o1; have hb1 := keep_grown (((Below.refl (w.heap.size + 1) (w.alloc (.cells #[.string ⟨#[]⟩, .string rh] 23)))).alloc (by simp only [World.size_alloc]; omega) _) (own_nilR _ (w.heap.size + 1)) (by simp only [World.size_alloc]; omega) g1; obtain ⟨p0, p1, hw1, hs1⟩ := HBx.out w1 hb1; have Ho1 := Lib.hid o1; have Hb1 := Lib.hid hb1; have Hw1 := Lib.hid hw1; clear o1 g1 z1 hb1 hw1)
      go_ret
      exact ⟨_, rfl, by rw [E.out]; exact own_baseN Ho1.out (Nat.le_succ _), Hw1.out⟩
  · have h1 := text_nil hl
    by_cases hh : rh = ⟨#[]⟩
    · subst hh
      have E : Hid (O = [⟨⟨#[]⟩, rl⟩]) := Lib.hid (by rw [← HO.out, out_sn hl])
      clear hl
      go_enter Try.func55, Try.ntmps55
      go_wp2_with (at_builtin; refine wpList_append_hasN rfl (.tmp 7) (.tmp 11) _ rfl 23 rg_elem (by omega) Try.underlying26 rfl (own_nilR _ (w.heap.size + 1)) rfl (rg_lit_at (w.alloc (.cells #[.string rl, .string ⟨#[]⟩] 23)) (w.heap.size + 1) (by simp only [World.size_alloc]) ⟨⟨#[]⟩, rl⟩) (rgCells_one _) (by simp only [maxLen]; omega) (by omega) (by simp only [World.size_alloc]; omega) ?_; intro v1 w1 o1 g1 z1; obtain ⟨A1, c1, rfl, -, -, -⟩ := own_sliceN o1; have hb1 := keep_grown (((Below.refl (w.heap.size + 1) (w.alloc (.cells #[.string rl, .string ⟨#[]⟩] 23)))).alloc (by simp only [World.size_alloc]; omega) _) (own_nilR _ (w.heap.size + 1)) (by simp only [World.size_alloc]; omega) g1; obtain ⟨p0, p1, hw1, hs1⟩ := HBx.out w1 hb1; have Ho1 := Lib.hid o1; have Hb1 := Lib.hid hb1; have Hw1 := Lib.hid hw1; clear o1 g1 z1 hb1 hw1)
      go_ret
      exact ⟨_, rfl, by rw [E.out]; exact own_baseN Ho1.out (Nat.le_succ _), Hw1.out⟩
    · have h2 := text_nil hh
      have E : Hid (O = [⟨⟨#[]⟩, rl⟩, ⟨rh, ⟨#[]⟩⟩]) := Lib.hid (by rw [← HO.out, out_ss hl hh])
      clear hl hh
      go_enter Try.func55, Try.ntmps55
      go_wp2_with (first
        | (at_builtin; refine wpList_append_hasN rfl (.tmp 7) (.tmp 11) _ rfl 23 rg_elem (by omega) Try.underlying26 rfl (own_nilR _ (w.heap.size + 1)) rfl (rg_lit_at (w.alloc (.cells #[.string rl, .string rh] 23)) (w.heap.size + 1) (by simp only [World.size_alloc]) ⟨⟨#[]⟩, rl⟩) (rgCells_one _) (by simp only [maxLen]; omega) (by omega) (by simp only [World.size_alloc]; omega) ?_; intro v1 w1 o1 g1 z1; obtain ⟨A1, c1, rfl, -, -, -⟩ := own_sliceN o1; have hb1 := keep_grown (((Below.refl (w.heap.size + 1) (w.alloc (.cells #[.string rl, .string rh] 23)))).alloc (by simp only [World.size_alloc]; omega) _) (own_nilR _ (w.heap.size + 1)) (by simp only [World.size_alloc]; omega) g1; obtain ⟨p0, p1, hw1, hs1⟩ := HBx.out w1 hb1; have Ho1 := Lib.hid o1; have Hb1 := Lib.hid hb1; have Hw1 := Lib.hid hw1; clear o1 g1 z1 hb1 hw1)
        | (at_builtin; refine wpList_append_hasN rfl (.tmp 16) (.tmp 20) _ rfl 23 rg_elem (by omega) Try.underlying26 rfl (own_belowN Ho1.out (below_box _)) rfl (rg_lit w1 ⟨rh, ⟨#[]⟩⟩) (rgCells_one _) (by simp only [maxLen]; omega) (by omega) (by simp only [World.size_alloc]; omega) ?_; intro v2 w2 o2 g2 z2; have hb2 := keep_grown (Hb1.out.alloc hs1 _) (own_belowN Ho1.out (below_box _)) (by simp only [World.size_alloc]; omega) g2; have Ho2 := Lib.hid o2; have Hw2 := Lib.hid (HBx.out w2 hb2).2.2.1; clear o2 g2 z2 hb2))
      go_ret
      exact ⟨_, rfl, by rw [E.out]; exact own_baseN Ho2.out (Nat.le_succ _), Hw2.out⟩

theorem left_take {O : List Rg} {x o : Rg} {k : Nat} (h : O[k]? = some o) : (O.take (k + 1)).flatMap (fun o => meetL x o) = (O.take k).flatMap (fun o => meetL x o) ++ meetL x o := by
  rw [List.take_add_one, h, List.flatMap_append]
  simp
theorem lefts_take {l : List Rg} {r x : Rg} {k : Nat} (h : l[k]? = some x) : leftsL (l.take (k + 1)) r = leftsL (l.take k) r ++ leftR x r := by
  unfold leftsL
  rw [List.take_add_one, h, List.flatMap_append]
  simp
theorem meetL_len (a b : Rg) : (meetL a b).length ≤ 1 := by unfold meetL; split <;> simp
theorem meets_len (x : Rg) (O : List Rg) : (O.flatMap fun o => meetL x o).length ≤ O.length := by
  induction O with
  | nil => simp
  | cons o O ih => rw [List.flatMap_cons, List.length_append, List.length_cons]; have := meetL_len x o; omega
theorem leftR_len (x r : Rg) : (leftR x r).length ≤ 2 := Nat.le_trans (meets_len x _) (outR_len r)
theorem lefts_len (l : List Rg) (r : Rg) : (leftsL l r).length ≤ 2 * l.length := by
  unfold leftsL
  induction l with
  | nil => simp
  | cons x l ih => rw [List.flatMap_cons, List.length_append, List.length_cons]; have := leftR_len x r; omega
theorem meetL_small {a b : Rg} {K : Nat} (ha : a.lo.size ≤ K ∧ a.hi.size ≤ K) (hb : b.lo.size ≤ K ∧ b.hi.size ≤ K) : Small K (meetL a b) := by
  unfold meetL
  intro x hx
  split at hx
  · simp at hx
  · simp at hx; subst hx; exact meet_size ha hb
theorem lefts_small {l : List Rg} {r : Rg} {K : Nat} (hl : Small K l) (hr : r.lo.size ≤ K ∧ r.hi.size ≤ K) : Small K (leftsL l r) := by
  intro x hx
  obtain ⟨y, hy, hx⟩ := List.mem_flatMap.1 hx
  obtain ⟨o, ho, hx⟩ := List.mem_flatMap.1 hx
  exact meetL_small (hl y hy) (outR_small hr o ho) x hx

theorem minus_app {W w1 w7 : World} {v v7 : Value} {T G : Nat} {L F : List Rg} {z : Rg} {t : TypeId} {yl yh : Value} (o7 : w7.ownsRow w1.heap.size 23 2 v7 (T + 1) (rgCells (L ++ F) ++ rgCells [z])) (hT : (L ++ F).length = T) (hne : v.ownBlock ≠ some G)
    (g7 : (W.alloc (.cells #[.string z.lo, .string z.hi] t)).grownBy w7 v.ownBlock) (z7 : v7.ownBlock = v.ownBlock ∨ v7.ownBlock = some (W.alloc (.cells #[.string z.lo, .string z.hi] t)).heap.size)
    (hb : Below w1.heap.size w1 W) (c0 : W.cell? ⟨G, 0, none⟩ = some yl) (c1 : W.cell? ⟨G, 1, none⟩ = some yh) (hG : G < W.heap.size) (hs : w1.heap.size ≤ W.heap.size) {m : Nat} {xs : List Value} (ho : W.ownsRow w1.heap.size 23 2 v m xs) :
    (OwnRgs w7 w1.heap.size v7 (L ++ (F ++ [z])) ∧ v7.ownBlock ≠ some G) ∧ Below w1.heap.size w1 w7 ∧ w7.cell? ⟨G, 0, none⟩ = some yl ∧ w7.cell? ⟨G, 1, none⟩ = some yh ∧ G < w7.heap.size := by
  have hkeep : ∀ i u, W.cell? ⟨G, i, none⟩ = some u → w7.cell? ⟨G, i, none⟩ = some u := fun i u hu => by
    have h1 : (W.alloc (.cells #[.string z.lo, .string z.hi] t)).cell? ⟨G, i, none⟩ = some u := (World.cell?_alloc_lt W _ ⟨G, i, none⟩ hG).trans hu
    exact (World.cell?_of_block (g7.block G (by simp only [World.size_alloc]; omega) (fun e => hne e.symm))).trans h1
  refine ⟨⟨?_, fun e => ?_⟩, (hb.alloc hs _).grown g7 (by simp only [World.size_alloc]; omega) fun q hq => (ho.lt q hq).1, hkeep 0 _ c0, hkeep 1 _ c1, by have := g7.size; simp only [World.size_alloc] at this; omega⟩
  · unfold OwnRgs
    rw [← List.append_assoc, List.length_append, hT, rgCells_app]
    exact o7
  · rcases z7 with h | h
    · exact hne (h.symm.trans e)
    · rw [h] at e
      injection e with e
      simp only [World.size_alloc] at e
      omega
set_option maxRecDepth 100000 in
set_option maxHeartbeats 6400000 in
theorem minus_any (A : Option Addr) (n c C K : Nat) (l : List Rg) (r : Rg) (w : World) (h : HasRgs w C A n l) (hC : C ≤ w.heap.size) (hn : n ≤ 40000) (hK : Small K l) (hK2 : K ≤ 140737488355328) (hr : r.lo.size ≤ K ∧ r.hi.size ≤ K) :
    Calls Try.prog 21 #[.slice A n c, ragg r] w (LeastPost K (2 * n) (fun s => inS l s ∧ ¬ hasR r s) w) := by
  have H := Lib.hid h
  have Hl := Lib.hid h.1
  have HC := Lib.hid hC
  have Hou := Lib.hid (fun wx => outside_any r wx)
  have Hme := Lib.hid (fun x o wx (hx : x.lo.size ≤ K ∧ x.hi.size ≤ K) (ho : o.lo.size ≤ K ∧ o.hi.size ≤ K) => meet_any x o wx ⟨Nat.le_trans hx.1 hK2, Nat.le_trans hx.2 hK2⟩ ⟨Nat.le_trans ho.1 hK2, Nat.le_trans ho.2 hK2⟩)
  have HK := Lib.hid (And.intro hK (outR_small hr))
  have Hle := Lib.hid (fun A' N' c' wx (hx : HasRgs wx wx.heap.size A' N' (leftsL l r)) (hN : N' ≤ 100000) => least_any A' N' c' wx.heap.size K (leftsL l r) wx hx (Nat.le_refl _) hN (lefts_small hK hr) hK2)
  have HO := Lib.hid (outR_len r)
  have Hset := Lib.hid (fun s => lefts_has l r s)
  have Hlen := Lib.hid (lefts_len l r)
  unfold MeetPost at Hme
  have Hlr : Hid (∀ x, leftR x r = (outR r).flatMap fun o => meetL x o) := Lib.hid fun _ => rfl
  obtain ⟨O, hO⟩ : ∃ O, outR r = O := ⟨_, rfl⟩
  rw [hO] at Hou HK HO Hlr
  obtain ⟨rl, rh⟩ := r
  unfold ragg at *
  clear h hC hK hr hO
  go_enter Try.func21, Try.ntmps21
  go_wp2_with fail
  refine (Hou.out _).mono ?_
  rintro e w1 ⟨v1, rfl, o1, b1⟩
  have Hb1 : Hid (Below w.heap.size w w1) := Lib.hid ((below_box _).trans (b1.mono (by simp)))
  obtain ⟨A1, c1, rfl, -, -, x1⟩ := o1.slice
  obtain ⟨M, hM⟩ : ∃ M, O.length = M := ⟨_, rfl⟩
  rw [hM] at x1 HO ⊢
  have HOr := Lib.hid x1
  have HM := Lib.hid hM
  have hsz1 := Hb1.out.size
  have hMb : M ≤ 2 := HO.out
  clear o1 b1 x1 hM
  go_wp2
  go_loopw [6, 8, 10, 11, 12, 17, 21, 22, 23] (fun o _ _ _ _ iv _ _ _ wr => ∃ k : Nat, k ≤ n ∧ iv = .int .i64 (k : Int) ∧ OwnRgs wr w1.heap.size o (leftsL (l.take k) ⟨rl, rh⟩) ∧ Below w1.heap.size w1 wr) (fun _ _ _ _ _ iv _ _ _ _ => n - (intOf iv).toNat)
  case atStart => exact ⟨0, by omega, rfl, OwnRgs.nil _ _, Below.refl _ _⟩
  case round =>
    obtain ⟨k, hk, rfl, ho, hb⟩ := hrel
    have Hb := Lib.hid hb
    have hsz := hb.size
    by_cases hlt : k < n
    · obtain ⟨a, y, rfl, hab, hy, c0, c1'⟩ := (H.out.belowOf (Hb1.out.trans (hb.mono hsz1)) HC.out).at_ hlt
      have Hts := Lib.hid (lefts_take (r := ⟨rl, rh⟩) hy)
      have hk0 : (0 : Int) ≤ (k : Int) := by omega
      have hk1 : (k : Int) < (n : Int) := by omega
      have Hyr := Lib.hid (Hlr.out y)
      have Hys := Lib.hid (HK.out.1 y (List.mem_of_getElem? hy))
      have Hln : Hid ((leftsL (l.take k) ⟨rl, rh⟩).length ≤ 2 * n) := Lib.hid (Nat.le_trans (lefts_len _ _) (by rw [List.length_take]; have := Hl.out; omega))
      obtain ⟨L, hL⟩ : ∃ L, leftsL (l.take k) ⟨rl, rh⟩ = L := ⟨_, rfl⟩
      rw [hL] at ho Hts Hln
      rw [Hyr.out] at Hts
      have HI : Hid (∀ v, OwnRgs wr w1.heap.size v L → OwnRgs (wr.alloc (.cells #[.string y.lo, .string y.hi] 23)) w1.heap.size v (L ++ (O.take 0).flatMap fun o => meetL y o) ∧ v.ownBlock ≠ some wr.heap.size) := Lib.hid fun v hv => ⟨by
        rw [List.take_zero, List.flatMap_nil, List.append_nil]
        exact hv.below (below_box _), fun e => by have := (hv.lt _ e).2; omega⟩
      have HI2 := Lib.hid (HI.out _ ho)
      have Hbk : Hid (Below w1.heap.size w1 (wr.alloc (.cells #[.string y.lo, .string y.hi] 23)) ∧ (wr.alloc (.cells #[.string y.lo, .string y.hi] 23)).cell? ⟨wr.heap.size, 0, none⟩ = some (.string y.lo) ∧ (wr.alloc (.cells #[.string y.lo, .string y.hi] 23)).cell? ⟨wr.heap.size, 1, none⟩ = some (.string y.hi) ∧ wr.heap.size < (wr.alloc (.cells #[.string y.lo, .string y.hi] 23)).heap.size) := Lib.hid
        ⟨hb.alloc hsz _, (Box.made wr _ #[.string y.lo, .string y.hi]).cell 0, (Box.made wr _ #[.string y.lo, .string y.hi]).cell 1, by simp only [World.size_alloc]; omega⟩
      obtain ⟨yl, yh⟩ := y
      simp only at c0 c1' HI2 Hbk Hys
      clear hy hL ho hb HI
      generalize hG : wr.heap.size = G at *
      generalize wr = wo at *
      go_wp2
      go_loopw [6, 10, 11, 12, 23] (fun o _ _ _ iv wq => ∃ j : Nat, j ≤ M ∧ iv = .int .i64 (j : Int) ∧ (OwnRgs wq w1.heap.size o (L ++ (O.take j).flatMap fun o => meetL ⟨yl, yh⟩ o) ∧ o.ownBlock ≠ some G) ∧ Below w1.heap.size w1 wq ∧ wq.cell? ⟨G, 0, none⟩ = some (.string yl) ∧ wq.cell? ⟨G, 1, none⟩ = some (.string yh) ∧ G < wq.heap.size) (fun _ _ _ _ iv _ => M - (intOf iv).toNat)
      case atStart => exact ⟨0, by omega, rfl, HI2.out, Hbk.out⟩
      case round =>
        obtain ⟨j, hj, rfl, ⟨ho, hne⟩, hb, q0, q1, hGs⟩ := hrel
        have Hbq := Lib.hid hb
        have hszq := hb.size
        by_cases hlt2 : j < M
        · obtain ⟨a2, o, rfl, hab2, hoj, d0, d1⟩ := (HOr.out.belowOf hb (Nat.le_refl _)).at_ hlt2
          have Htk := Lib.hid (left_take (x := ⟨yl, yh⟩) hoj)
          have Hos := Lib.hid (HK.out.2 o (List.mem_of_getElem? hoj))
          have Hmm := Lib.hid (fun wx => Hme.out ⟨yl, yh⟩ o wx Hys.out Hos.out)
          have hj0 : (0 : Int) ≤ (j : Int) := by omega
          have hj1 : (j : Int) < (M : Int) := by omega
          have Hfl : Hid (((O.take j).flatMap fun o => meetL ⟨yl, yh⟩ o).length ≤ 2) := Lib.hid (Nat.le_trans (meets_len _ _) (by rw [List.length_take]; have := HM.out; omega))
          obtain ⟨F, hF⟩ : ∃ F, ((O.take j).flatMap fun o => meetL ⟨yl, yh⟩ o) = F := ⟨_, rfl⟩
          rw [hF] at ho Htk Hfl
          rw [show meetL ⟨yl, yh⟩ o = if emptyR (meetR ⟨yl, yh⟩ o) then [] else [meetR ⟨yl, yh⟩ o] from rfl] at Htk
          obtain ⟨Z, hZ⟩ : ∃ Z, meetR ⟨yl, yh⟩ o = Z := ⟨_, rfl⟩
          rw [hZ] at Htk
          simp only [hZ] at Hmm
          obtain ⟨zl, zh⟩ := Z
          obtain ⟨ol, oh⟩ := o
          simp only at d0 d1 Hmm
          obtain ⟨T, hT⟩ : ∃ T, (L ++ F).length = T := ⟨_, rfl⟩
          have HT : Hid (T ≤ 2 * n + 2 ∧ (L ++ F).length = T) := Lib.hid ⟨by rw [← hT, List.length_append]; have := Hln.out; have := Hfl.out; omega, hT⟩
          obtain ⟨Ao, co, rfl, -, -, -⟩ := ho.slice
          unfold OwnRgs at ho
          rw [hT] at ho hne ⊢
          have Ho := Lib.hid ho
          have Hne := Lib.hid hne
          have hTb : T ≤ 80002 := by have := HT.out.1; omega
          clear hoj hF hZ hT ho hne hb
          by_cases he : emptyR ⟨zl, zh⟩
          · simp only [if_pos he, decide_eq_true he] at Hmm
            rw [if_pos he, List.append_nil] at Htk
            clear he
            go_wp2_with fail
            refine (Hmm.out _).mono ?_
            rintro e w5 ⟨rfl, b5⟩
            have hb5 : Below wr.heap.size wr w5 := (below_box _).trans (b5.mono (by simp))
            have Hc5 : Hid (OwnRgs (w5.alloc (.cells #[.string ⟨#[]⟩, .string ⟨#[]⟩] 23)) w1.heap.size (.slice Ao T co) (L ++ F) ∧ Below w1.heap.size w1 (w5.alloc (.cells #[.string ⟨#[]⟩, .string ⟨#[]⟩] 23)) ∧ (w5.alloc (.cells #[.string ⟨#[]⟩, .string ⟨#[]⟩] 23)).cell? ⟨G, 0, none⟩ = some (.string yl) ∧ (w5.alloc (.cells #[.string ⟨#[]⟩, .string ⟨#[]⟩] 23)).cell? ⟨G, 1, none⟩ = some (.string yh) ∧ G < (w5.alloc (.cells #[.string ⟨#[]⟩, .string ⟨#[]⟩] 23)).heap.size) := Lib.hid (by
              have h6 := keep_alloc hb5 (.cells #[.string ⟨#[]⟩, .string ⟨#[]⟩] 23)
              exact ⟨by unfold OwnRgs; rw [HT.out.2]; exact own_belowN Ho.out h6, Hbq.out.trans (h6.mono hszq), below_cell h6 hGs q0, below_cell h6 hGs q1, Nat.lt_of_lt_of_le hGs h6.size⟩)
            clear b5 hb5 q0 q1
            go_wp2
            go_roundw
            case rel => exact ⟨j + 1, by omega, by go_num, ⟨by rw [Htk.out]; exact Hc5.out.1, Hne.out⟩, Hc5.out.2⟩
            case measure => simp [intOf]; omega
          · simp only [if_neg he, decide_eq_false he] at Hmm
            rw [if_neg he] at Htk
            clear he
            go_wp2_with fail
            refine (Hmm.out _).mono ?_
            rintro e w5 ⟨rfl, b5⟩
            have hb5 : Below wr.heap.size wr w5 := (below_box _).trans (b5.mono (by simp))
            have h6 := keep_alloc hb5 (.cells #[.string zl, .string zh] 23)
            have Ho6 := Lib.hid (own_belowN Ho.out h6)
            have Hc6 : Hid (Below w1.heap.size w1 (w5.alloc (.cells #[.string zl, .string zh] 23)) ∧ (w5.alloc (.cells #[.string zl, .string zh] 23)).cell? ⟨G, 0, none⟩ = some (.string yl) ∧ (w5.alloc (.cells #[.string zl, .string zh] 23)).cell? ⟨G, 1, none⟩ = some (.string yh) ∧ G < (w5.alloc (.cells #[.string zl, .string zh] 23)).heap.size ∧ w1.heap.size ≤ (w5.alloc (.cells #[.string zl, .string zh] 23)).heap.size) := Lib.hid
              ⟨Hbq.out.trans (h6.mono hszq), below_cell h6 hGs q0, below_cell h6 hGs q1, Nat.lt_of_lt_of_le hGs h6.size, Nat.le_trans hszq h6.size⟩
            clear b5 hb5 q0 q1 h6
            go_wp2_with (at_builtin; refine wpList_append_hasN rfl (.tmp 34) (.tmp 36) _ rfl 23 rg_elem (by omega) Try.underlying26 rfl (own_belowN Ho6.out (below_box _)) rfl (rg_lit_at (w5.alloc (.cells #[.string zl, .string zh] 23)) (w5.heap.size + 1) (by simp only [World.size_alloc]) ⟨zl, zh⟩) (rgCells_one _) (by simp only [maxLen]; omega) (by omega) (le_alloc Hc6.out.2.2.2.2 _) ?_; intro v7 w7 o7 g7 z7; have HE7 : Hid ((OwnRgs w7 w1.heap.size v7 (L ++ (F ++ [⟨zl, zh⟩])) ∧ v7.ownBlock ≠ some G) ∧ Below w1.heap.size w1 w7 ∧ w7.cell? ⟨G, 0, none⟩ = some (.string yl) ∧ w7.cell? ⟨G, 1, none⟩ = some (.string yh) ∧ G < w7.heap.size) := Lib.hid (minus_app o7 HT.out.2 Hne.out g7 z7 Hc6.out.1 Hc6.out.2.1 Hc6.out.2.2.1 Hc6.out.2.2.2.1 Hc6.out.2.2.2.2 Ho6.out); clear o7 g7 z7)
            go_roundw
            case rel => exact ⟨j + 1, by omega, by go_num, ⟨by rw [Htk.out]; exact HE7.out.1.1, HE7.out.1.2⟩, HE7.out.2⟩
            case measure => simp [intOf]; omega
        · obtain rfl : j = M := by omega
          have E : Hid (O.take j = O) := Lib.hid (List.take_of_length_le (by have := HM.out; omega))
          rw [E.out, ← Hts.out] at ho
          have Ho := Lib.hid ho
          clear ho hne hb q0 q1
          go_wp2
          go_roundw
          case rel => exact ⟨k + 1, by omega, by go_num, Ho.out, Hbq.out⟩
          case measure => simp [intOf]; omega
    · obtain rfl : k = n := by omega
      have E : Hid (l.take k = l) := Lib.hid (List.take_of_length_le (by have := Hl.out; omega))
      rw [E.out] at ho
      obtain ⟨Ao, co, rfl, -, -, hxo⟩ := ho.slice
      have hbw : Below w.heap.size w wr := Hb1.out.trans (hb.mono hsz1)
      have Hle1 := Lib.hid (Hle.out Ao _ co wr hxo (by have := Hlen.out; have := Hl.out; omega))
      have Hbw := Lib.hid hbw
      clear ho hb hbw hxo
      go_wp2_with fail
      refine Hle1.out.mono ?_
      rintro e w4 ⟨m, v, rfl, om, fm, lm, sm, bm⟩
      have HE : Hid (OwnRgs w4 w.heap.size v m ∧ IsForm m (fun s => inS l s ∧ ¬ hasR ⟨rl, rh⟩ s) ∧ m.length ≤ 2 * k ∧ Small K m ∧ Below w.heap.size w w4) := Lib.hid ⟨own_baseN om Hbw.out.size, fm.congr Hset.out, by have := Hlen.out; have := Hl.out; omega, sm, Hbw.out.trans (bm.mono Hbw.out.size)⟩
      clear om fm lm sm bm
      go_wp2
      go_ret
      exact ⟨m, v, rfl, HE.out.1, HE.out.2.1, HE.out.2.2.1, HE.out.2.2.2.1, HE.out.2.2.2.2⟩

end Go.Proofs.Ytijcaefpainhcaa

/- insertionSort over a piece of a row of changes of the call's own: the piece comes to be sorted, equal keys in their order. Condition: the row is in memory. -/
import Derived.Test.YtfmjjjfeooaeeaaMSrtA
namespace Go.Proofs.Ytfmjjjfeooaeeaa
open Go.RowKit
open Go.Lib (strCells compareBytes)

set_option maxRecDepth 100000 in
set_option maxHeartbeats 6400000 in
theorem sym_last (v : Value) (B a m b N : Nat) (P X Q : List Chg) (y : Chg) (w : World) (h : OwnChs w B v (P ++ (X ++ ([y] ++ Q)))) (hN : (P ++ (X ++ ([y] ++ Q))).length = N) (hP : P.length = a) (hX : a + X.length = m) (hY : m + 1 = b) (hX2 : 2 ≤ X.length) (hsX : Sle X) (hNs : N ≤ 1000000) :
    Calls Try.prog 99 #[v, .int .i64 (a : Int), .int .i64 (m : Int), .int .i64 (b : Int), .func (.func 48) #[] #[]] w fun e w' => e = .returned (.tuple #[]) ∧ (∃ Z, Mrg X [y] Z ∧ OwnChs w' B v (P ++ (Z ++ Q))) ∧ Below B w w' := by
  have Hw := Lib.hid (And.intro h (Below.refl B w))
  have HN := Lib.hid hN
  have hbN : b ≤ N := by rw [← hN]; simp only [List.length_append, List.length_cons, List.length_nil]; omega
  have Hmv : Hid (∀ t, (mv P y X Q t).length = N) := Lib.hid fun t => by rw [mv_len, ← hN]; simp only [List.length_append, List.length_cons, List.length_nil]; omega
  have HL0 : Hid (P ++ (X ++ ([y] ++ Q)) = mv P y X Q X.length) := Lib.hid (by simp [mv])
  have Hgm : Hid (gl (P ++ (X ++ ([y] ++ Q))) m = y) := Lib.hid (by rw [← hX, ← hP]; simp [gl])
  have Hgx : Hid (∀ t, t < X.length → gl (P ++ (X ++ ([y] ++ Q))) (a + t) = gl X t) := Lib.hid (fun t ht => by rw [← hP]; exact gl_at P X _ ht)
  obtain ⟨L, hL⟩ : ∃ L, P ++ (X ++ ([y] ++ Q)) = L := ⟨_, rfl⟩
  rw [hL] at Hw HN HL0 Hgm Hgx
  have HsX := Lib.hid hsX
  have HP := Lib.hid hP
  have HX := Lib.hid hX
  have hma : ((m : Int) - (a : Int) == 1) = false := by
    have : ¬ ((m : Int) - (a : Int) = 1) := by omega
    simpa using this
  have hbm : (b : Int) - (m : Int) = 1 := by omega
  have ham : a ≤ m := by omega
  have hmb : m < b := by omega
  clear h hN hsX hP hY hX hX2 hL
  go_enter Try.func99, Try.ntmps99
  go_wp2
  go_loopw [14, 15, 16] (fun iv jv _ wr => ∃ i j : Nat, a ≤ i ∧ i ≤ j ∧ j ≤ m ∧ iv = .int .i64 (i : Int) ∧ jv = .int .i64 (j : Int) ∧ Hid ((i = a ∨ ¬ (gl L m).kb < (gl L (i - 1)).kb) ∧ (j = m ∨ ¬ ¬ (gl L m).kb < (gl L j).kb)) ∧ OwnChs wr B v L ∧ Below B w wr) (fun iv jv _ _ => (intOf jv - intOf iv).toNat)
  case atStart => exact ⟨_, _, Nat.le_refl _, ham, Nat.le_refl _, rfl, rfl, Lib.hid ⟨.inl rfl, .inl rfl⟩, Hw.out.1, Hw.out.2⟩
  case round =>
    obtain ⟨i, j, hi0, hij, hj0, rfl, rfl, Hp, ho, hbl⟩ := hrel
    have Ho := Lib.hid ho
    have Hb := Lib.hid hbl
    clear ho hbl Hw
    by_cases hlt : i < j
    · obtain ⟨h, hh⟩ : ∃ h, (i + j) / 2 = h := ⟨_, rfl⟩
      have hmi := half_int i j h hh
      have hih : i ≤ h ∧ h < j := by omega
      clear hh
      obtain ⟨g, c, rfl, hBg, hNm⟩ := own_atC Ho.out HN.out (by omega)
      have hwr := own_ge Ho.out HN.out (by omega)
      obtain ⟨⟨xk, xv, xg⟩, hx⟩ : ∃ x, gl L m = x := ⟨_, rfl⟩
      obtain ⟨⟨yk, yv, yg⟩, hy⟩ : ∃ x, gl L h = x := ⟨_, rfl⟩
      have Hk := Lib.hid (two_at Ho.out HN.out (by omega) (by omega) hx hy)
      have Hz := Lib.hid (cmpK_neg (a := gl L m) (b := gl L h))
      have Hcall := Lib.hid (fun wx => byKey_any ⟨xk, xv, xg⟩ ⟨yk, yv, yg⟩ wx)
      unfold cagg at Hcall
      rw [hx, hy] at Hz
      obtain ⟨z, hz⟩ : ∃ z, cmpK ⟨xk, xv, xg⟩ ⟨yk, yv, yg⟩ = z := ⟨_, rfl⟩
      rw [hz] at Hcall Hz
      rw [← hx, ← hy] at Hz
      simp only at Hcall
      have hn0 : (0 : Int) ≤ ((m : Nat) : Int) := by omega
      have hn1 : ((m : Nat) : Int) < (N : Int) := by omega
      have hn2 : (0 : Int) ≤ ((h : Nat) : Int) := by omega
      have hn3 : ((h : Nat) : Int) < (N : Int) := by omega
      clear hx hy hz hNm
      by_cases hz : z < 0
      · go_wp2
        go_region_held3 (fun wx => (wx.cell? ⟨g, m * 3, none⟩ = some (.string xk) ∧ wx.cell? ⟨g, m * 3 + 1, none⟩ = some (.string xv) ∧ wx.cell? ⟨g, m * 3 + 2, none⟩ = some (.bool xg) ∧ wx.cell? ⟨g, h * 3, none⟩ = some (.string yk) ∧ wx.cell? ⟨g, h * 3 + 1, none⟩ = some (.string yv) ∧ wx.cell? ⟨g, h * 3 + 2, none⟩ = some (.bool yg)) ∧ Below wr.heap.size wr wx)
          (first | exact Hk.out _ (Below.refl _ _).drew | exact Hk.out _ (below_thn (And.right (by assumption)) hb2))
          (first | (go_at_call 48; refine (Hcall.out _).mono ?_; rintro e w2 ⟨rfl, hb2⟩))
        all_goals
          have hbz := And.right ‹(_ ∧ _) ∧ Below wr.heap.size wr w2›
          have Hend := Lib.hid (And.intro (Ho.out.below hbz) (Hb.out.trans (hbz.mono hwr)))
          clear hb2 hbz
          go_wp2
          try any_goals (exfalso; omega)
          go_roundw
          case rel => exact ⟨i, h, by omega, by omega, by omega, rfl, rfl, Lib.hid ⟨Hp.out.1, .inr (fun hq => hq (Hz.out.1 hz))⟩, Hend.out.1, Hend.out.2⟩
          case measure => simp [intOf]; omega
      · have hz0 : 0 ≤ z := by omega
        have hzb : decide (z < 0) = false := decide_eq_false (by omega)
        go_wp2
        go_region_held3 (fun wx => (wx.cell? ⟨g, m * 3, none⟩ = some (.string xk) ∧ wx.cell? ⟨g, m * 3 + 1, none⟩ = some (.string xv) ∧ wx.cell? ⟨g, m * 3 + 2, none⟩ = some (.bool xg) ∧ wx.cell? ⟨g, h * 3, none⟩ = some (.string yk) ∧ wx.cell? ⟨g, h * 3 + 1, none⟩ = some (.string yv) ∧ wx.cell? ⟨g, h * 3 + 2, none⟩ = some (.bool yg)) ∧ Below wr.heap.size wr wx)
          (first | exact Hk.out _ (Below.refl _ _).drew | exact Hk.out _ (below_thn (And.right (by assumption)) hb2))
          (first | (go_at_call 48; refine (Hcall.out _).mono ?_; rintro e w2 ⟨rfl, hb2⟩))
        all_goals
          have hbz := And.right ‹(_ ∧ _) ∧ Below wr.heap.size wr w2›
          have Hend := Lib.hid (And.intro (Ho.out.below hbz) (Hb.out.trans (hbz.mono hwr)))
          clear hb2 hbz
          go_wp2
          try any_goals (exfalso; omega)
          go_roundw
          case rel => exact ⟨h + 1, j, by omega, by omega, by omega, by go_num, rfl, Lib.hid ⟨.inr (by rw [Nat.add_sub_cancel]; exact fun hq => by have := Hz.out.2 hq; omega), Hp.out.2⟩, Hend.out.1, Hend.out.2⟩
          case measure => simp [intOf]; omega
    · obtain rfl : i = j := by omega
      clear hlt
      have HM : Hid (∀ e, a + e = i → Mrg X [y] ((X.take e ++ [y]) ++ X.drop e)) := Lib.hid (fun e he => by
        have hl := HX.out
        have hsy : Sle [y] := List.pairwise_singleton _ _
        have h1 : (1 : Nat) = 0 ∨ e = X.length ∨ (gl [y] (1 - 1)).kb < (gl X e).kb := by
          rcases Hp.out.2 with h2 | h2
          · exact .inr (.inl (by omega))
          · by_cases e0 : e = X.length
            · exact .inr (.inl e0)
            · have h3 := Hgx.out e (by omega)
              rw [he] at h3
              rw [h3, Hgm.out] at h2
              exact .inr (.inr (by simpa [gl] using Classical.not_not.1 h2))
        have h2 : e = 0 ∨ (0 : Nat) = [y].length ∨ ¬ (gl [y] 0).kb < (gl X (e - 1)).kb := by
          rcases Hp.out.1 with h1 | h1
          · exact .inl (by omega)
          · by_cases e0 : e = 0
            · exact .inl e0
            · have h2 := Hgx.out (e - 1) (by omega)
              rw [show a + (e - 1) = i - 1 from by omega] at h2
              rw [h2, Hgm.out] at h1
              exact .inr (.inr (by simpa [gl] using h1))
        refine mrg_of (s := e) (e := 1) HsX.out hsy (by simp) (by omega) h1 (.inr (.inl rfl)) ?_ (mrg_nilR (HsX.out.drop e))
        refine mrg_app (HsX.out.take e) hsy fun z hz y' hy => ?_
        exact (cut_of (s := e) (e := 0) HsX.out hsy (by omega) (by omega) (.inl rfl) h2).2 z hz y' (by simpa using hy))
      clear Hp Hgm Hgx HsX
      rw [HL0.out] at Ho
      have Hlen : Hid (X.length + a = m) := Lib.hid (by have := HX.out; omega)
      obtain ⟨tn, htn⟩ : ∃ t, X.length = t := ⟨_, rfl⟩
      rw [htn] at Ho Hlen
      have htl : tn ≤ X.length := by omega
      clear HX htn
      go_wp2
      go_loopw [17] (fun kv wr => ∃ k t : Nat, k = a + t ∧ i ≤ k ∧ t ≤ tn ∧ kv = .int .i64 (k : Int) ∧ OwnChs wr B v (mv P y X Q t) ∧ Below B w wr) (fun kv _ => (intOf kv).toNat)
      case atStart => exact ⟨m, tn, by have := Hlen.out; omega, by omega, by omega, rfl, Ho.out, Hb.out⟩
      case round =>
        obtain ⟨k, t, hkt, hki, htt, rfl, ho, hbl⟩ := hrel
        have Ho2 := Lib.hid ho
        have Hb2 := Lib.hid hbl
        clear ho hbl Ho Hb
        by_cases hlt : i < k
        · obtain ⟨k, rfl⟩ : ∃ k', k = k' + 1 := ⟨k - 1, by omega⟩
          obtain ⟨t, rfl⟩ : ∃ t', t = t' + 1 := ⟨t - 1, by omega⟩
          have htX : t < X.length := by omega
          have hkt' : k = a + t := by omega
          have hkN : k + 1 < N := by have := Hlen.out; omega
          have hlN := Hmv.out (t + 1)
          obtain ⟨g, c, rfl, hBg, hNm⟩ := own_atC Ho2.out hlN (by omega)
          obtain ⟨⟨xk, xv, xg⟩, hx⟩ : ∃ x', gl (mv P y X Q (t + 1)) (k + 1) = x' := ⟨_, rfl⟩
          obtain ⟨⟨yk, yv, yg⟩, hy⟩ : ∃ x', gl (mv P y X Q (t + 1)) k = x' := ⟨_, rfl⟩
          obtain ⟨⟨p0, p1, p2⟩, ⟨q0, q1, q2⟩, ⟨f0, f1, f2⟩, ⟨⟨u0, e0⟩, ⟨u1, e1⟩, ⟨u2, e2⟩⟩, ⟨d0, d1, d2⟩, hown, hbel⟩ := swap_row Ho2.out hlN hkN (by omega) hx hy
          rw [mv_down P y X Q htX (by rw [HP.out]; exact hkt')] at hown
          have Hend := Lib.hid (And.intro hown (Hb2.out.trans hbel))
          have ha0 : (0 : Int) ≤ (k : Int) := by omega
          have ha1 : (k : Int) < (N : Int) := by omega
          have hb0 : (0 : Int) ≤ ((k + 1 : Nat) : Int) := by omega
          have hb1 : ((k + 1 : Nat) : Int) < (N : Int) := by omega
          have Hkt := Lib.hid (And.intro hkt' htt)
          clear hown hbel hx hy Ho2 hNm hlN hkt hkt' htt
          go_wp2
          go_region
          go_wp2
          go_roundw
          case rel => exact ⟨k, t, Hkt.out.1, by omega, by have := Hkt.out.2; omega, by go_num, Hend.out.1, Hend.out.2⟩
          case measure => first | (simp [intOf]; omega) | simp [intOf]
        · have Hz := Lib.hid (HM.out t (by omega))
          have HE : Hid (mv P y X Q t = P ++ (((X.take t ++ [y]) ++ X.drop t) ++ Q)) := Lib.hid (by simp [mv])
          rw [HE.out] at Ho2
          have hge : ¬ ((i : Int) < (k : Int)) := by omega
          clear hkt hlt htt hki
          go_wp2
          refine bodyPost_ret (results_none rfl _ _ _) rfl ?_
          exact ⟨rfl, ⟨_, Hz.out, Ho2.out⟩, Hb2.out⟩

end Go.Proofs.Ytfmjjjfeooaeeaa

namespace Go.Proofs.Ytfmjjjfeooaeeaa
open Go.RowKit
open Go.Lib (strCells compareBytes)

theorem ins_mrg {X : List Chg} {x : Chg} {u : Nat} (hX : Sle X) (hu : u ≤ X.length) (h1 : u = X.length ∨ x.kb < (gl X u).kb) (h2 : u = 0 ∨ ¬ x.kb < (gl X (u - 1)).kb) : Mrg X [x] ((X.take u ++ [x]) ++ X.drop u) := by
  have hsy : Sle [x] := List.pairwise_singleton _ _
  have h1' : (1 : Nat) = 0 ∨ u = X.length ∨ (gl [x] (1 - 1)).kb < (gl X u).kb := .inr (h1.imp id fun h => by simpa [gl] using h)
  have h2' : u = 0 ∨ (0 : Nat) = [x].length ∨ ¬ (gl [x] 0).kb < (gl X (u - 1)).kb := h2.imp id fun h => .inr (by simpa [gl] using h)
  refine mrg_of (s := u) (e := 1) hX hsy (by simp) hu h1' (.inr (.inl rfl)) ?_ (mrg_nilR (hX.drop u))
  refine mrg_app (hX.take u) hsy fun z hz y' hy => ?_
  exact (cut_of (s := u) (e := 0) hX hsy (by omega) hu (.inl rfl) h2').2 z hz y' (by simpa using hy)
theorem mv_at {P X Q : List Chg} {x : Chg} {k u : Nat} (hk : k = P.length + u) (hu : u ≤ X.length) : gl (mv P x X Q u) k = x := by
  subst hk
  unfold gl mv
  rw [List.getElem?_append_right (by omega), Nat.add_sub_cancel_left, List.getElem?_append_right (by rw [List.length_take]; omega), List.length_take, Nat.min_eq_left hu, Nat.sub_self]
  rfl
theorem mv_lo {P X Q : List Chg} {x : Chg} {q t u : Nat} (hq : q = P.length + t) (ht : t < u) (hu : u ≤ X.length) : gl (mv P x X Q u) q = gl X t := by
  subst hq
  unfold gl mv
  rw [List.getElem?_append_right (by omega), Nat.add_sub_cancel_left, List.getElem?_append_left (by rw [List.length_take]; omega), List.getElem?_take_of_lt ht]
theorem mv_down2 (P : List Chg) (x : Chg) (Y Q : List Chg) {t k q : Nat} (h : t < Y.length) (hq : q = P.length + t) (hk : k = q + 1) : sw (mv P x Y Q (t + 1)) k q = mv P x Y Q t := by
  subst hk
  exact mv_down P x Y Q h hq
theorem mv_start (P : List Chg) (x : Chg) (X Q : List Chg) : P ++ (X ++ (x :: Q)) = mv P x X Q X.length := by simp [mv]
theorem mv_end (P : List Chg) (x : Chg) (X Q : List Chg) (u : Nat) : mv P x X Q u = P ++ (((X.take u ++ [x]) ++ X.drop u) ++ Q) := by simp [mv]

set_option maxRecDepth 100000 in
set_option maxHeartbeats 6400000 in
theorem ins_any (v : Value) (B a b N : Nat) (P D Q : List Chg) (w : World) (h : OwnChs w B v (P ++ (D ++ Q))) (hN : (P ++ (D ++ Q)).length = N) (hP : P.length = a) (hD : a + D.length = b) (hNs : N ≤ 1000000) :
    Calls Try.prog 98 #[v, .int .i64 (a : Int), .int .i64 (b : Int), .func (.func 48) #[] #[]] w fun e w' => e = .returned (.tuple #[]) ∧ (∃ Z, Sle Z ∧ SameF Z D ∧ OwnChs w' B v (P ++ (Z ++ Q))) ∧ Below B w w' := by
  have hbN : b ≤ N := by rw [← hN]; simp only [List.length_append]; omega
  have haN : a ≤ N := by omega
  have HN : Hid (P.length + (D.length + Q.length) = N) := Lib.hid (by rw [← hN]; simp only [List.length_append])
  have HP := Lib.hid hP
  have HD := Lib.hid hD
  have Hst : Hid (SameF (D.take 1) (D.take 1) ∧ Sle (D.take 1) ∧ OwnChs w B v (P ++ (D.take 1 ++ (D.drop 1 ++ Q))) ∧ Below B w w) := Lib.hid ⟨SameF.refl _, by
    cases D with
    | nil => exact sle_nil
    | cons d D => exact List.pairwise_singleton _ _, by rwa [← List.append_assoc (D.take 1), List.take_append_drop], Below.refl _ _⟩
  clear h hN hP hD
  go_enter Try.func98, Try.ntmps98
  go_wp2
  go_loopw [8, 9] (fun iv _ wr => ∃ (i t : Nat) (X : List Chg), iv = .int .i64 (i : Int) ∧ Hid (i = a + t ∧ 1 ≤ t ∧ (t ≤ D.length ∨ t = 1) ∧ Sle X ∧ SameF X (D.take t)) ∧ OwnChs wr B v (P ++ (X ++ (D.drop t ++ Q))) ∧ Below B w wr) (fun iv _ _ => b + 1 - (intOf iv).toNat)
  case atStart => exact ⟨a + 1, 1, D.take 1, by go_num, Lib.hid ⟨rfl, Nat.le_refl _, .inr rfl, Hst.out.2.1, Hst.out.1⟩, Hst.out.2.2.1, Hst.out.2.2.2⟩
  case round =>
    obtain ⟨i, t, X, rfl, Hp, ho, hbl⟩ := hrel
    have Ho := Lib.hid ho
    have Hb := Lib.hid hbl
    clear ho hbl Hst
    by_cases hlt : i < b
    · have htD : t < D.length := by have h1 := Hp.out.1; have h2 := HD.out; omega
      have hXl : X.length = t := by rw [Hp.out.2.2.2.2.1, List.length_take]; omega
      obtain ⟨x, hx⟩ : ∃ x, D[t]? = some x := ⟨_, List.getElem?_eq_getElem htD⟩
      obtain ⟨R, hR⟩ : ∃ R, D.drop (t + 1) ++ Q = R := ⟨_, rfl⟩
      have HR := Lib.hid hR
      have hcut : D.drop t ++ Q = x :: R := by
        rw [List.drop_eq_getElem_cons htD, ← hR]
        rw [List.getElem?_eq_getElem htD] at hx
        injection hx with hx
        rw [hx]
        rfl
      rw [hcut, mv_start, hXl] at Ho
      have Hmv : Hid (∀ u, (mv P x X R u).length = N) := Lib.hid fun u => by rw [mv_len, hXl, ← hR, List.length_append, List.length_drop]; have := HN.out; omega
      have Hnext : Hid (∀ u, u ≤ X.length → (u = X.length ∨ x.kb < (gl X u).kb) → (u = 0 ∨ ¬ x.kb < (gl X (u - 1)).kb) → Sle ((X.take u ++ [x]) ++ X.drop u) ∧ SameF ((X.take u ++ [x]) ++ X.drop u) (D.take (t + 1))) := Lib.hid (fun u hu h1 h2 => by
        have hm := ins_mrg Hp.out.2.2.2.1 hu h1 h2
        exact ⟨hm.1, ins_same hx Hp.out.2.2.2.2 hm⟩)
      have Hi : Hid (i = a + t ∧ t < D.length ∧ X.length = t) := Lib.hid ⟨Hp.out.1, htD, hXl⟩
      have hiN : i < N := by omega
      clear hx hcut hXl htD hR Hp
      generalize wr = wa at *
      go_wp2
      go_loopw [9] (fun jv wr => ∃ k u : Nat, jv = .int .i64 (k : Int) ∧ k ≤ i ∧ Hid (k = a + u ∧ u ≤ X.length ∧ (u = X.length ∨ x.kb < (gl X u).kb)) ∧ OwnChs wr B v (mv P x X R u) ∧ Below B w wr) (fun jv _ => (intOf jv).toNat)
      case atStart => exact ⟨i, t, rfl, Nat.le_refl _, Lib.hid ⟨Hi.out.1, by have := Hi.out.2.2; omega, .inl Hi.out.2.2.symm⟩, Ho.out, Hb.out⟩
      case round =>
        obtain ⟨k, u, rfl, hki, Hk, ho, hbl⟩ := hrel
        have Ho2 := Lib.hid ho
        have Hb2 := Lib.hid hbl
        clear ho hbl Ho Hb
        by_cases hja : a < k
        · obtain ⟨q, hq⟩ : ∃ q, q + 1 = k := ⟨k - 1, by omega⟩
          obtain ⟨y, hy1⟩ : ∃ y, u = y + 1 := ⟨u - 1, by have := Hk.out.1; omega⟩
          subst hy1
          have hqi : (k : Int) - 1 = (q : Int) := by omega
          have hwq : IntKind.i64.wrap ((k : Int) - 1) = (q : Int) := by rw [hqi, IntKind.wrap_i64]; omega
          have hwq2 : IntKind.i64.wrap (q : Int) = (q : Int) := by rw [IntKind.wrap_i64]; omega
          have hguard : decide ((a : Int) < (k : Int)) = true := decide_eq_true (by omega)
          have hgu : (a : Int) < (k : Int) := by omega
          have hlN := Hmv.out (y + 1)
          have hqa : q = P.length + y := by have h1 := Hk.out.1; have h2 := HP.out; omega
          have hka : k = P.length + (y + 1) := by omega
          have hgk := mv_at (P := P) (X := X) (Q := R) (x := x) hka Hk.out.2.1
          have hgq := mv_lo (P := P) (X := X) (Q := R) (x := x) (t := y) hqa (Nat.lt_succ_self _) Hk.out.2.1
          have Hdown := Lib.hid (mv_down2 P x X R (t := y) (k := k) (q := q) (by have := Hk.out.2.1; omega) hqa hq.symm)
          have Hq := Lib.hid (And.intro hq hqa)
          have hqN : q < N ∧ k < N := by omega
          obtain ⟨g, c, rfl, hBg, hNm⟩ := own_atC Ho2.out hlN (by omega)
          have hwr := own_ge Ho2.out hlN (by omega)
          obtain ⟨⟨xk, xv, xg⟩, hx⟩ : ∃ x', gl (mv P x X R (y + 1)) k = x' := ⟨_, rfl⟩
          obtain ⟨⟨yk, yv, yg⟩, hy⟩ : ∃ x', gl (mv P x X R (y + 1)) q = x' := ⟨_, rfl⟩
          have Hkk := Lib.hid (two_at Ho2.out hlN hqN.2 hqN.1 hx hy)
          have Hx := Lib.hid hx
          have Hy := Lib.hid hy
          have Hz := Lib.hid (cmpK_neg (a := ⟨xk, xv, xg⟩) (b := ⟨yk, yv, yg⟩))
          have Hcall := Lib.hid (fun wx => byKey_any ⟨xk, xv, xg⟩ ⟨yk, yv, yg⟩ wx)
          unfold cagg at Hcall
          obtain ⟨z, hz⟩ : ∃ z, cmpK ⟨xk, xv, xg⟩ ⟨yk, yv, yg⟩ = z := ⟨_, rfl⟩
          rw [hz] at Hcall Hz
          rw [← hx, ← hy, hgk, hgq] at Hz
          simp only at Hcall
          have hn0 : (0 : Int) ≤ (k : Int) := by omega
          have hn1 : (k : Int) < (N : Int) := by omega
          have hn2 : (0 : Int) ≤ (q : Int) := by omega
          have hn3 : (q : Int) < (N : Int) := by omega
          clear hx hy hz hgk hgq hqa hka hq hlN hNm
          by_cases hz : z < 0
          · have hzb : decide (z < 0) = true := decide_eq_true hz
            go_wp2
            go_region_held3 (fun wx => (wx.cell? ⟨g, k * 3, none⟩ = some (.string xk) ∧ wx.cell? ⟨g, k * 3 + 1, none⟩ = some (.string xv) ∧ wx.cell? ⟨g, k * 3 + 2, none⟩ = some (.bool xg) ∧ wx.cell? ⟨g, q * 3, none⟩ = some (.string yk) ∧ wx.cell? ⟨g, q * 3 + 1, none⟩ = some (.string yv) ∧ wx.cell? ⟨g, q * 3 + 2, none⟩ = some (.bool yg)) ∧ Below wr.heap.size wr wx)
              (first | exact Hkk.out _ (Below.refl _ _).drew | exact Hkk.out _ (below_thn (And.right (by assumption)) hb2))
              (first | (go_at_call 48; refine (Hcall.out _).mono ?_; rintro e w2 ⟨rfl, hb2⟩))
            all_goals
              have hbz := And.right ‹(_ ∧ _) ∧ Below wr.heap.size wr w2›
              have Ho3 := Lib.hid (Ho2.out.below hbz)
              have Hb3 := Lib.hid (Hb2.out.trans (hbz.mono hwr))
              clear hb2 hbz
              obtain ⟨⟨p0, p1, p2⟩, ⟨q0, q1, q2⟩, ⟨f0, f1, f2⟩, ⟨⟨u0, e0⟩, ⟨u1, e1⟩, ⟨u2, e2⟩⟩, ⟨d0, d1, d2⟩, hown, hbel⟩ := swap_row Ho3.out (Hmv.out (y + 1)) hqN.2 hqN.1 Hx.out Hy.out
              rw [Hdown.out] at hown
              have Hend := Lib.hid (And.intro hown (Hb3.out.trans hbel))
              clear hown hbel
              go_wp2
              try any_goals (exfalso; omega)
              go_region
              go_wp2
              go_roundw
              case rel => exact ⟨q, y, by go_num, by omega, Lib.hid ⟨by have := Hq.out; have := HP.out; omega, by have := Hk.out.2.1; omega, .inr (Hz.out.1 hz)⟩, Hend.out.1, Hend.out.2⟩
              case measure => simp [intOf]; have := Hq.out; omega
          · have hz0 : 0 ≤ z := by omega
            have hzb : decide (z < 0) = false := decide_eq_false (by omega)
            go_wp2
            go_region_held3 (fun wx => (wx.cell? ⟨g, k * 3, none⟩ = some (.string xk) ∧ wx.cell? ⟨g, k * 3 + 1, none⟩ = some (.string xv) ∧ wx.cell? ⟨g, k * 3 + 2, none⟩ = some (.bool xg) ∧ wx.cell? ⟨g, q * 3, none⟩ = some (.string yk) ∧ wx.cell? ⟨g, q * 3 + 1, none⟩ = some (.string yv) ∧ wx.cell? ⟨g, q * 3 + 2, none⟩ = some (.bool yg)) ∧ Below wr.heap.size wr wx)
              (first | exact Hkk.out _ (Below.refl _ _).drew | exact Hkk.out _ (below_thn (And.right (by assumption)) hb2))
              (first | (go_at_call 48; refine (Hcall.out _).mono ?_; rintro e w2 ⟨rfl, hb2⟩))
            all_goals
              have hbz := And.right ‹(_ ∧ _) ∧ Below wr.heap.size wr w2›
              have Hn := Lib.hid (Hnext.out (y + 1) Hk.out.2.1 Hk.out.2.2 (.inr (by rw [Nat.add_sub_cancel]; exact fun hq => by have := Hz.out.2 hq; omega)))
              have Hend := Lib.hid (And.intro (Ho2.out.below hbz) (Hb2.out.trans (hbz.mono hwr)))
              rw [mv_end, ← HR.out] at Hend
              clear hb2 hbz
              go_wp2
              try any_goals (exfalso; omega)
              go_roundw
              case rel => exact ⟨i + 1, t + 1, _, by go_num, Lib.hid ⟨by have := Hi.out.1; omega, by omega, .inl (by have := Hi.out.2.1; omega), Hn.out.1, Hn.out.2⟩, Hend.out.1, Hend.out.2⟩
              case measure => simp [intOf]; omega
        · have hguard : decide ((a : Int) < (k : Int)) = false := decide_eq_false (by omega)
          have hgu : ¬ ((a : Int) < (k : Int)) := by omega
          have hu0 : u = 0 := by have := Hk.out.1; omega
          subst hu0
          have Hn := Lib.hid (Hnext.out 0 Hk.out.2.1 Hk.out.2.2 (.inl rfl))
          have Hend := Lib.hid (And.intro (below_dr (Below.refl _ _) 1) (And.intro Ho2.out Hb2.out) : Below wr.heap.size wr (wr.drewN 1) ∧ _)
          rw [mv_end, ← HR.out] at Hend
          go_wp2
          go_quiet (fail)
          go_wp2
          go_roundw
          case rel => exact ⟨i + 1, t + 1, _, by go_num, Lib.hid ⟨by have := Hi.out.1; omega, by omega, .inl (by have := Hi.out.2.1; omega), Hn.out.1, Hn.out.2⟩, OwnChs.below Hend.out.2.1 (below_dr (Below.refl _ _) _), below_dr Hend.out.2.2 _⟩
          case measure => simp [intOf]; omega
    · have HE : Hid (D.drop t = [] ∧ D.take t = D) := Lib.hid (by
        have h1 := Hp.out.1
        have h2 := HD.out
        exact ⟨List.drop_of_length_le (by omega), List.take_of_length_le (by omega)⟩)
      rw [HE.out.1, List.nil_append] at Ho
      rw [HE.out.2] at Hp
      go_wp2
      go_end0
      exact ⟨rfl, ⟨X, Hp.out.2.2.2.1, Hp.out.2.2.2.2, Ho.out⟩, Hb.out⟩
end Go.Proofs.Ytfmjjjfeooaeeaa

/- Two neighbouring sorted pieces of a row of the call's own become one in their place: all of symMerge. Condition: the row is in memory. -/
import Derived.Test.YtfmjjjfeooaeeaaMSrtA
namespace Go.Proofs.Ytfmjjjfeooaeeaa
open Go.RowKit
open Go.Lib (strCells compareBytes)

theorem sym_cut {L X Y : List Chg} {a m b mid n p s en lo0 up0 : Nat} (hgx : ∀ t, t < X.length → gl L (a + t) = gl X t) (hgy : ∀ t, t < Y.length → gl L (m + t) = gl Y t) (hX : a + X.length = m) (hY : m + Y.length = b) (hmid : (a + b) / 2 = mid) (hn : mid + m = n) (hp : n - 1 = p) (hm : 0 < m)
    (hb : (mid < m ∧ lo0 = n - b ∧ up0 = mid) ∨ (m ≤ mid ∧ lo0 = a ∧ up0 = m)) (h1 : lo0 ≤ s) (h2 : s ≤ up0) (he : n - s = en)
    (hp1 : s = lo0 ∨ ¬ (gl L (p - (s - 1))).kb < (gl L (s - 1)).kb) (hp2 : s = up0 ∨ ¬ ¬ (gl L (p - s)).kb < (gl L s).kb) :
    (a ≤ s ∧ s ≤ m ∧ m ≤ en ∧ en ≤ b ∧ (s - a) + (en - m) = mid - a ∧ a ≤ mid) ∧ (en - m = 0 ∨ s - a = X.length ∨ (gl Y (en - m - 1)).kb < (gl X (s - a)).kb) ∧ (s - a = 0 ∨ en - m = Y.length ∨ ¬ (gl Y (en - m)).kb < (gl X (s - a - 1)).kb) := by
  have h0 : a ≤ s ∧ s ≤ m ∧ m ≤ en ∧ en ≤ b ∧ (s - a) + (en - m) = mid - a ∧ a ≤ mid := by omega
  refine ⟨h0, ?_, ?_⟩
  · rcases hp2 with h3 | h3
    · omega
    · by_cases e1 : en - m = 0
      · exact .inl e1
      · by_cases e2 : s - a = X.length
        · exact .inr (.inl e2)
        · have g1 := hgx (s - a) (by omega)
          have g2 := hgy (en - m - 1) (by omega)
          rw [show a + (s - a) = s from by omega] at g1
          rw [show m + (en - m - 1) = p - s from by omega] at g2
          rw [g1, g2] at h3
          exact .inr (.inr (Classical.not_not.1 h3))
  · rcases hp1 with h3 | h3
    · omega
    · by_cases e1 : s - a = 0
      · exact .inl e1
      · by_cases e2 : en - m = Y.length
        · exact .inr (.inl e2)
        · have g1 := hgx (s - a - 1) (by omega)
          have g2 := hgy (en - m) (by omega)
          rw [show a + (s - a - 1) = s - 1 from by omega] at g1
          rw [show m + (en - m) = p - (s - 1) from by omega] at g2
          rw [g1, g2] at h3
          exact .inr (.inr h3)
theorem mrg_one {X Y : List Chg} (hX : Sle X) (hY : Sle Y) (h : X.length = 0 ∨ Y.length = 0) : Mrg X Y (X ++ Y) := by
  refine mrg_app hX hY fun x hx y hy => ?_
  rcases h with h | h
  · rw [List.length_eq_zero_iff] at h; subst h; simp at hx
  · rw [List.length_eq_zero_iff] at h; subst h; simp at hy
set_option maxRecDepth 100000 in
set_option maxHeartbeats 12800000 in
theorem sym_main (v : Value) (B a m b N : Nat) (P X Y Q : List Chg) (w : World) (h : OwnChs w B v (P ++ (X ++ (Y ++ Q)))) (hN : (P ++ (X ++ (Y ++ Q))).length = N) (hP : P.length = a) (hX : a + X.length = m) (hY : m + Y.length = b) (hX2 : 2 ≤ X.length) (hY2 : 2 ≤ Y.length) (hsX : Sle X) (hsY : Sle Y) (hNs : N ≤ 1000000)
    (IH : ∀ (a' m' b' : Nat) (P' X' Y' Q' : List Chg) (w' : World), b' - a' < b - a → OwnChs w' B v (P' ++ (X' ++ (Y' ++ Q'))) → (P' ++ (X' ++ (Y' ++ Q'))).length = N → P'.length = a' → a' + X'.length = m' → m' + Y'.length = b' → 0 < X'.length → 0 < Y'.length → Sle X' → Sle Y' → Calls Try.prog 99 #[v, .int .i64 (a' : Int), .int .i64 (m' : Int), .int .i64 (b' : Int), .func (.func 48) #[] #[]] w' fun e w2 => e = .returned (.tuple #[]) ∧ (∃ Z, Mrg X' Y' Z ∧ OwnChs w2 B v (P' ++ (Z ++ Q'))) ∧ Below B w' w2) :
    Calls Try.prog 99 #[v, .int .i64 (a : Int), .int .i64 (m : Int), .int .i64 (b : Int), .func (.func 48) #[] #[]] w fun e w' => e = .returned (.tuple #[]) ∧ (∃ Z, Mrg X Y Z ∧ OwnChs w' B v (P ++ (Z ++ Q))) ∧ Below B w w' := by
  have IH := Lib.hid IH
  have Hw := Lib.hid (And.intro h (Below.refl B w))
  have HN := Lib.hid hN
  have hbN : b ≤ N := by rw [← hN]; simp only [List.length_append]; omega
  have HNc : Hid (∀ s e, P.length + ((X.take s).length + ((Y.take e).length + ((X.drop s).length + ((Y.drop e).length + Q.length)))) = N) := Lib.hid (fun s e => by rw [← hN]; simp only [List.length_append, List.length_take, List.length_drop]; omega)
  have Hgx : Hid (∀ t, t < X.length → gl (P ++ (X ++ (Y ++ Q))) (a + t) = gl X t) := Lib.hid (fun t ht => by rw [← hP]; exact gl_at P X _ ht)
  have Hgy : Hid (∀ t, t < Y.length → gl (P ++ (X ++ (Y ++ Q))) (m + t) = gl Y t) := Lib.hid (fun t ht => by rw [← hX, ← hP]; exact gl_at2 P X Y Q ht)
  obtain ⟨mid, hmid⟩ : ∃ mid, (a + b) / 2 = mid := ⟨_, rfl⟩
  have hmidi := half_int a b mid hmid
  obtain ⟨n, hn⟩ : ∃ n, mid + m = n := ⟨_, rfl⟩
  have hni : (mid : Int) + (m : Int) = (n : Int) := by omega
  obtain ⟨p, hp⟩ : ∃ p, n - 1 = p := ⟨_, rfl⟩
  have hpi : (n : Int) - 1 = (p : Int) := by omega
  have hm0 : 0 < m := by omega
  have Hcut := Lib.hid (fun s en lo0 up0 => sym_cut (s := s) (en := en) (lo0 := lo0) (up0 := up0) Hgx.out Hgy.out hX hY hmid hn hp hm0)
  have HEq : Hid (∀ s e, P ++ (X ++ (Y ++ Q)) = (P ++ X.take s) ++ (X.drop s ++ (Y.take e ++ (Y.drop e ++ Q)))) := Lib.hid (fun s e => by
    have e1 : X ++ (Y ++ Q) = X.take s ++ (X.drop s ++ (Y.take e ++ (Y.drop e ++ Q))) := by
      rw [← List.append_assoc (X.take s), List.take_append_drop, ← List.append_assoc (Y.take e), List.take_append_drop]
    rw [e1, List.append_assoc])
  obtain ⟨L, hL⟩ : ∃ L, P ++ (X ++ (Y ++ Q)) = L := ⟨_, rfl⟩
  rw [hL] at Hw HN Hcut HEq
  have HsX := Lib.hid hsX
  have HsY := Lib.hid hsY
  have HP := Lib.hid hP
  have HX := Lib.hid hX
  have HY := Lib.hid hY
  have hma : ((m : Int) - (a : Int) == 1) = false := by
    have : ¬ ((m : Int) - (a : Int) = 1) := by omega
    simpa using this
  have hbm : ((b : Int) - (m : Int) == 1) = false := by
    have : ¬ ((b : Int) - (m : Int) = 1) := by omega
    simpa using this
  have hmids : a < mid ∧ mid < b ∧ mid + m = n ∧ a + b < mid + mid + 2 ∧ mid + mid ≤ a + b := by omega
  have hpn : p + 1 = n := by omega
  have hamb : a < m ∧ m < b := by omega
  clear h hN hsX hsY hP hX hY hX2 hY2 hL hmid hn hp Hgx Hgy
  go_enter Try.func99, Try.ntmps99
  by_cases hbr : mid < m
  · obtain ⟨lo, hlo⟩ : ∃ lo, n - b = lo := ⟨_, rfl⟩
    have hloi : (n : Int) - (b : Int) = (lo : Int) := by omega
    have hlob : lo + b = n := by omega
    clear hlo
    go_wp2
    go_loopw [20, 21, 23] (fun iv jv _ wr => ∃ i j : Nat, lo ≤ i ∧ i ≤ j ∧ j ≤ mid ∧ iv = .int .i64 (i : Int) ∧ jv = .int .i64 (j : Int) ∧ Hid ((i = lo ∨ ¬ (gl L (p - (i - 1))).kb < (gl L (i - 1)).kb) ∧ (j = mid ∨ ¬ ¬ (gl L (p - j)).kb < (gl L j).kb)) ∧ OwnChs wr B v L ∧ Below B w wr) (fun iv jv _ _ => (intOf jv - intOf iv).toNat)
    case atStart => exact ⟨_, _, Nat.le_refl _, by omega, Nat.le_refl _, rfl, rfl, Lib.hid ⟨.inl rfl, .inl rfl⟩, Hw.out.1, Hw.out.2⟩
    case round =>
      obtain ⟨i, j, hi0, hij, hj0, rfl, rfl, Hp, ho, hbl⟩ := hrel
      have Ho := Lib.hid ho
      have Hb := Lib.hid hbl
      clear ho hbl Hw
      by_cases hlt : i < j
      · obtain ⟨h, hh⟩ : ∃ h, (i + j) / 2 = h := ⟨_, rfl⟩
        have hmi := half_int i j h hh
        have hih : i ≤ h ∧ h < j := by omega
        clear hh
        obtain ⟨q, hq⟩ : ∃ q, p - h = q := ⟨_, rfl⟩
        have hqi : (p : Int) - (h : Int) = (q : Int) := by omega
        have hqN : q < N ∧ h < N := by omega
        have hwq : IntKind.i64.wrap ((p : Int) - (h : Int)) = (q : Int) := by rw [hqi, IntKind.wrap_i64]; omega
        have hwq2 : IntKind.i64.wrap (q : Int) = (q : Int) := by rw [IntKind.wrap_i64]; omega
        have Hq := Lib.hid hq
        clear hq
        obtain ⟨g, c, rfl, hBg, hNm⟩ := own_atC Ho.out HN.out (by omega)
        have hwr := own_ge Ho.out HN.out (by omega)
        obtain ⟨⟨xk, xv, xg⟩, hx⟩ : ∃ x, gl L q = x := ⟨_, rfl⟩
        obtain ⟨⟨yk, yv, yg⟩, hy⟩ : ∃ x, gl L h = x := ⟨_, rfl⟩
        have Hk := Lib.hid (two_at Ho.out HN.out (by omega) (by omega) hx hy)
        have Hz := Lib.hid (cmpK_neg (a := gl L q) (b := gl L h))
        have Hcall := Lib.hid (fun wx => byKey_any ⟨xk, xv, xg⟩ ⟨yk, yv, yg⟩ wx)
        unfold cagg at Hcall
        rw [hx, hy] at Hz
        obtain ⟨z, hz⟩ : ∃ z, cmpK ⟨xk, xv, xg⟩ ⟨yk, yv, yg⟩ = z := ⟨_, rfl⟩
        rw [hz] at Hcall Hz
        rw [← hx, ← hy] at Hz
        simp only at Hcall
        have hn0 : (0 : Int) ≤ ((q : Nat) : Int) := by omega
        have hn1 : ((q : Nat) : Int) < (N : Int) := by omega
        have hn2 : (0 : Int) ≤ ((h : Nat) : Int) := by omega
        have hn3 : ((h : Nat) : Int) < (N : Int) := by omega
        clear hx hy hz hNm
        by_cases hz : z < 0
        · go_wp2
          go_region_held3 (fun wx => (wx.cell? ⟨g, q * 3, none⟩ = some (.string xk) ∧ wx.cell? ⟨g, q * 3 + 1, none⟩ = some (.string xv) ∧ wx.cell? ⟨g, q * 3 + 2, none⟩ = some (.bool xg) ∧ wx.cell? ⟨g, h * 3, none⟩ = some (.string yk) ∧ wx.cell? ⟨g, h * 3 + 1, none⟩ = some (.string yv) ∧ wx.cell? ⟨g, h * 3 + 2, none⟩ = some (.bool yg)) ∧ Below wr.heap.size wr wx)
            (first | exact Hk.out _ (Below.refl _ _).drew | exact Hk.out _ (below_thn (And.right (by assumption)) hb2))
            (first | (go_at_call 48; refine (Hcall.out _).mono ?_; rintro e w2 ⟨rfl, hb2⟩))
          all_goals
            have hbz := And.right ‹(_ ∧ _) ∧ Below wr.heap.size wr w2›
            have Hend := Lib.hid (And.intro (Ho.out.below hbz) (Hb.out.trans (hbz.mono hwr)))
            clear hb2 hbz
            go_wp2
            try any_goals (exfalso; omega)
            go_roundw
            case rel => exact ⟨i, h, by omega, by omega, by omega, rfl, rfl, Lib.hid ⟨Hp.out.1, .inr (by rw [Hq.out]; exact fun hq => hq (Hz.out.1 hz))⟩, Hend.out.1, Hend.out.2⟩
            case measure => simp [intOf]; omega
        · have hz0 : 0 ≤ z := by omega
          have hzb : decide (z < 0) = false := decide_eq_false (by omega)
          go_wp2
          go_region_held3 (fun wx => (wx.cell? ⟨g, q * 3, none⟩ = some (.string xk) ∧ wx.cell? ⟨g, q * 3 + 1, none⟩ = some (.string xv) ∧ wx.cell? ⟨g, q * 3 + 2, none⟩ = some (.bool xg) ∧ wx.cell? ⟨g, h * 3, none⟩ = some (.string yk) ∧ wx.cell? ⟨g, h * 3 + 1, none⟩ = some (.string yv) ∧ wx.cell? ⟨g, h * 3 + 2, none⟩ = some (.bool yg)) ∧ Below wr.heap.size wr wx)
            (first | exact Hk.out _ (Below.refl _ _).drew | exact Hk.out _ (below_thn (And.right (by assumption)) hb2))
            (first | (go_at_call 48; refine (Hcall.out _).mono ?_; rintro e w2 ⟨rfl, hb2⟩))
          all_goals
            have hbz := And.right ‹(_ ∧ _) ∧ Below wr.heap.size wr w2›
            have Hend := Lib.hid (And.intro (Ho.out.below hbz) (Hb.out.trans (hbz.mono hwr)))
            clear hb2 hbz
            go_wp2
            try any_goals (exfalso; omega)
            go_roundw
            case rel => exact ⟨h + 1, j, by omega, by omega, by omega, by go_num, rfl, Lib.hid ⟨.inr (by rw [Nat.add_sub_cancel, Hq.out]; exact fun hq => by have := Hz.out.2 hq; omega), Hp.out.2⟩, Hend.out.1, Hend.out.2⟩
            case measure => simp [intOf]; omega
      · obtain rfl : i = j := by omega
        clear hlt
        obtain ⟨en, hen⟩ : ∃ en, n - i = en := ⟨_, rfl⟩
        have heni : (n : Int) - (i : Int) = (en : Int) := by omega
        obtain ⟨⟨z1, z2, z3, z4, z5, z6⟩, hc1, hc2⟩ := Hcut.out i en _ _ (.inl ⟨hbr, by omega, rfl⟩) hi0 hj0 hen Hp.out.1 Hp.out.2
        obtain ⟨s', hs'⟩ : ∃ s', i - a = s' := ⟨_, rfl⟩
        obtain ⟨e', he'⟩ : ∃ e', en - m = e' := ⟨_, rfl⟩
        rw [hs', he'] at hc1 hc2 z5
        have HM := Lib.hid (fun Z1 Z2 (m1 : Mrg (X.take s') (Y.take e') Z1) (m2 : Mrg (X.drop s') (Y.drop e') Z2) => mrg_of HsX.out HsY.out (by have := HY.out; omega) (by have := HX.out; omega) hc1 hc2 m1 m2)
        have hl1 : (X.take s').length = s' := by rw [List.length_take]; have := HX.out; omega
        have hl2 : (Y.take e').length = e' := by rw [List.length_take]; have := HY.out; omega
        have hl3 : (X.drop s').length = m - i := by rw [List.length_drop]; have := HX.out; omega
        have hl4 : (Y.drop e').length = b - en := by rw [List.length_drop]; have := HY.out; omega
        have HNn := Lib.hid (HNc.out s' e')
        rw [hl1, hl2, hl3, hl4] at HNn
        have hs1 := Lib.hid (HsX.out.take s')
        have hs2 := Lib.hid (HsX.out.drop s')
        have hs3 := Lib.hid (HsY.out.take e')
        have hs4 := Lib.hid (HsY.out.drop e')
        have HE := Lib.hid (HEq.out s' e')
        have Hse := Lib.hid (And.intro hs' he')
        have Hz5 := Lib.hid z5
        obtain ⟨X1, hX1⟩ : ∃ X1, X.take s' = X1 := ⟨_, rfl⟩
        obtain ⟨X2, hX2⟩ : ∃ X2, X.drop s' = X2 := ⟨_, rfl⟩
        obtain ⟨Y1, hY1⟩ : ∃ Y1, Y.take e' = Y1 := ⟨_, rfl⟩
        obtain ⟨Y2, hY2⟩ : ∃ Y2, Y.drop e' = Y2 := ⟨_, rfl⟩
        rw [hX1, hX2, hY1, hY2] at HM HE
        rw [hX1] at hl1 hs1
        rw [hX2] at hl3 hs2
        rw [hY1] at hl2 hs3
        rw [hY2] at hl4 hs4
        have hL1 : P.length + X1.length = i := by have := HP.out; omega
        clear Hp hc1 hc2 hs' he' z5 HsX HsY HEq Hcut HNc hen hX1 hX2 hY1 hY2
        rw [HE.out] at Ho
        have Hrot := Lib.hid (fun wx cmp (hx : OwnChs wx B v ((P ++ X1) ++ (X2 ++ (Y1 ++ (Y2 ++ Q))))) h1 h2 => rotate_any v cmp B i m en (P ++ X1) X2 Y1 (Y2 ++ Q) wx hx (by rw [List.length_append]; exact hL1) (by omega) (by have := Hse.out; omega) h1 h2)
        have Hleft := Lib.hid (fun wx (hx : OwnChs wx B v (P ++ (X1 ++ (Y1 ++ (X2 ++ (Y2 ++ Q)))))) h1 h2 => IH.out a i mid P X1 Y1 (X2 ++ (Y2 ++ Q)) wx (by omega) hx (by have := HNn.out; simp only [List.length_append, hl1, hl2, hl3, hl4]; omega) HP.out (by have := HP.out; omega) (by have := Hse.out; have := Hz5.out; omega) h1 h2 hs1.out hs3.out)
        have Hright := Lib.hid (fun wx Z1 (hz : Z1.length = X1.length + Y1.length) (hx : OwnChs wx B v ((P ++ Z1) ++ (X2 ++ (Y2 ++ Q)))) h1 h2 => IH.out mid en b (P ++ Z1) X2 Y2 Q wx (by omega) hx (by have := HNn.out; simp only [List.length_append, hz, hl1, hl2, hl3, hl4]; omega) (by have := HP.out; have := Hse.out; have := Hz5.out; rw [List.length_append, hz]; omega) (by have := Hse.out; have := Hz5.out; omega) (by omega) h1 h2 hs2.out hs4.out)
        by_cases hr : i < m ∧ m < en
        · obtain ⟨hr1, hr2⟩ := hr
          go_wp2_with fail
          refine (Hrot.out _ _ Ho.out (by omega) (by have := Hse.out; omega)).mono ?_
          rintro e w7 ⟨rfl, ho7, hb7⟩
          have Ho7 : Hid (OwnChs w7 B v (P ++ (X1 ++ (Y1 ++ (X2 ++ (Y2 ++ Q)))))) := Lib.hid (by rw [List.append_assoc] at ho7; exact ho7)
          have Hb7 := Lib.hid (Hb.out.trans hb7)
          clear ho7 hb7 Ho
          by_cases hL : a < i ∧ i < mid
          · obtain ⟨hL2, hL3⟩ := hL
            have Hlf := Lib.hid (Hleft.out w7 Ho7.out (by have := Hse.out; omega) (by have := Hse.out; have := Hz5.out; omega))
            go_wp2_with fail
            refine Hlf.out.mono ?_
            rintro e w8 ⟨rfl, ⟨Z1, hm1, ho8⟩, hb8⟩
            have Hm1 := Lib.hid hm1
            have Ho8 : Hid (OwnChs w8 B v ((P ++ Z1) ++ (X2 ++ (Y2 ++ Q)))) := Lib.hid (by rw [List.append_assoc]; exact ho8)
            have Hb8 := Lib.hid (Hb7.out.trans hb8)
            clear ho8 hb8 hm1 Hlf
            by_cases hR : mid < en ∧ en < b
            · obtain ⟨hR1, hR2⟩ := hR
              have Hrt := Lib.hid (Hright.out w8 _ Hm1.out.2.1 Ho8.out (by omega) (by omega))
              go_wp2_with fail
              refine Hrt.out.mono ?_
              rintro e w9 ⟨rfl, ⟨Z2, hm2, ho9⟩, hb9⟩
              have HEnd : Hid ((∃ Z, Mrg X Y Z ∧ OwnChs w9 B v (P ++ (Z ++ Q))) ∧ Below B w w9) := Lib.hid ⟨⟨_, HM.out _ _ Hm1.out hm2, by rw [List.append_assoc] at ho9; simpa using ho9⟩, Hb8.out.trans hb9⟩
              clear ho9 hb9 hm2 Hrt
              go_wp2
              go_end0
              exact ⟨rfl, HEnd.out.1, HEnd.out.2⟩
            · have HEnd : Hid ((∃ Z, Mrg X Y Z ∧ OwnChs w8 B v (P ++ (Z ++ Q))) ∧ Below B w w8) := Lib.hid ⟨⟨_, HM.out _ _ Hm1.out (mrg_one hs2.out hs4.out (by omega)), by have h9 := Ho8.out; rw [List.append_assoc] at h9; simpa using h9⟩, Hb8.out⟩
              by_cases hR1 : mid < en
              · have hR2 : ¬ en < b := fun q => hR ⟨hR1, q⟩
                clear hR
                go_wp2
                go_end0
                exact ⟨rfl, HEnd.out.1, HEnd.out.2⟩
              · clear hR
                go_wp2
                go_end0
                exact ⟨rfl, HEnd.out.1, HEnd.out.2⟩
          · have Hm1 := Lib.hid (mrg_one hs1.out hs3.out (by have := Hse.out; have := Hz5.out; omega))
            have Ho8 : Hid (OwnChs w7 B v ((P ++ (X1 ++ Y1)) ++ (X2 ++ (Y2 ++ Q)))) := Lib.hid (by have h9 := Ho7.out; simpa using h9)
            by_cases hL2 : a < i
            · have hL3 : ¬ i < mid := fun q => hL ⟨hL2, q⟩
              clear hL
              by_cases hR : mid < en ∧ en < b
              · obtain ⟨hR1, hR2⟩ := hR
                have Hrt := Lib.hid (Hright.out w7 _ Hm1.out.2.1 Ho8.out (by omega) (by omega))
                go_wp2_with fail
                refine Hrt.out.mono ?_
                rintro e w9 ⟨rfl, ⟨Z2, hm2, ho9⟩, hb9⟩
                have HEnd : Hid ((∃ Z, Mrg X Y Z ∧ OwnChs w9 B v (P ++ (Z ++ Q))) ∧ Below B w w9) := Lib.hid ⟨⟨_, HM.out _ _ Hm1.out hm2, by rw [List.append_assoc] at ho9; simpa using ho9⟩, Hb7.out.trans hb9⟩
                clear ho9 hb9 hm2 Hrt
                go_wp2
                go_end0
                exact ⟨rfl, HEnd.out.1, HEnd.out.2⟩
              · have HEnd : Hid ((∃ Z, Mrg X Y Z ∧ OwnChs w7 B v (P ++ (Z ++ Q))) ∧ Below B w w7) := Lib.hid ⟨⟨_, HM.out _ _ Hm1.out (mrg_one hs2.out hs4.out (by omega)), by have h9 := Ho8.out; rw [List.append_assoc] at h9; simpa using h9⟩, Hb7.out⟩
                by_cases hR1 : mid < en
                · have hR2 : ¬ en < b := fun q => hR ⟨hR1, q⟩
                  clear hR
                  go_wp2
                  go_end0
                  exact ⟨rfl, HEnd.out.1, HEnd.out.2⟩
                · clear hR
                  go_wp2
                  go_end0
                  exact ⟨rfl, HEnd.out.1, HEnd.out.2⟩
            · clear hL
              by_cases hR : mid < en ∧ en < b
              · obtain ⟨hR1, hR2⟩ := hR
                have Hrt := Lib.hid (Hright.out w7 _ Hm1.out.2.1 Ho8.out (by omega) (by omega))
                go_wp2_with fail
                refine Hrt.out.mono ?_
                rintro e w9 ⟨rfl, ⟨Z2, hm2, ho9⟩, hb9⟩
                have HEnd : Hid ((∃ Z, Mrg X Y Z ∧ OwnChs w9 B v (P ++ (Z ++ Q))) ∧ Below B w w9) := Lib.hid ⟨⟨_, HM.out _ _ Hm1.out hm2, by rw [List.append_assoc] at ho9; simpa using ho9⟩, Hb7.out.trans hb9⟩
                clear ho9 hb9 hm2 Hrt
                go_wp2
                go_end0
                exact ⟨rfl, HEnd.out.1, HEnd.out.2⟩
              · have HEnd : Hid ((∃ Z, Mrg X Y Z ∧ OwnChs w7 B v (P ++ (Z ++ Q))) ∧ Below B w w7) := Lib.hid ⟨⟨_, HM.out _ _ Hm1.out (mrg_one hs2.out hs4.out (by omega)), by have h9 := Ho8.out; rw [List.append_assoc] at h9; simpa using h9⟩, Hb7.out⟩
                by_cases hR1 : mid < en
                · have hR2 : ¬ en < b := fun q => hR ⟨hR1, q⟩
                  clear hR
                  go_wp2
                  go_end0
                  exact ⟨rfl, HEnd.out.1, HEnd.out.2⟩
                · clear hR
                  go_wp2
                  go_end0
                  exact ⟨rfl, HEnd.out.1, HEnd.out.2⟩
        · have Ho7 : Hid (OwnChs wr B v (P ++ (X1 ++ (Y1 ++ (X2 ++ (Y2 ++ Q)))))) := Lib.hid (by
            have h9 := Ho.out
            rcases (show X2.length = 0 ∨ Y1.length = 0 by have := Hse.out; omega) with h0 | h0
            · rw [List.length_eq_zero_iff] at h0; subst h0; simpa using h9
            · rw [List.length_eq_zero_iff] at h0; subst h0; simpa using h9)
          by_cases hr1 : i < m
          · have hr2 : ¬ m < en := fun q => hr ⟨hr1, q⟩
            clear hr Ho
            by_cases hL : a < i ∧ i < mid
            · obtain ⟨hL2, hL3⟩ := hL
              have Hlf := Lib.hid (Hleft.out wr Ho7.out (by have := Hse.out; omega) (by have := Hse.out; have := Hz5.out; omega))
              go_wp2_with fail
              refine Hlf.out.mono ?_
              rintro e w8 ⟨rfl, ⟨Z1, hm1, ho8⟩, hb8⟩
              have Hm1 := Lib.hid hm1
              have Ho8 : Hid (OwnChs w8 B v ((P ++ Z1) ++ (X2 ++ (Y2 ++ Q)))) := Lib.hid (by rw [List.append_assoc]; exact ho8)
              have Hb8 := Lib.hid (Hb.out.trans hb8)
              clear ho8 hb8 hm1 Hlf
              by_cases hR : mid < en ∧ en < b
              · obtain ⟨hR1, hR2⟩ := hR
                have Hrt := Lib.hid (Hright.out w8 _ Hm1.out.2.1 Ho8.out (by omega) (by omega))
                go_wp2_with fail
                refine Hrt.out.mono ?_
                rintro e w9 ⟨rfl, ⟨Z2, hm2, ho9⟩, hb9⟩
                have HEnd : Hid ((∃ Z, Mrg X Y Z ∧ OwnChs w9 B v (P ++ (Z ++ Q))) ∧ Below B w w9) := Lib.hid ⟨⟨_, HM.out _ _ Hm1.out hm2, by rw [List.append_assoc] at ho9; simpa using ho9⟩, Hb8.out.trans hb9⟩
                clear ho9 hb9 hm2 Hrt
                go_wp2
                go_end0
                exact ⟨rfl, HEnd.out.1, HEnd.out.2⟩
              · have HEnd : Hid ((∃ Z, Mrg X Y Z ∧ OwnChs w8 B v (P ++ (Z ++ Q))) ∧ Below B w w8) := Lib.hid ⟨⟨_, HM.out _ _ Hm1.out (mrg_one hs2.out hs4.out (by omega)), by have h9 := Ho8.out; rw [List.append_assoc] at h9; simpa using h9⟩, Hb8.out⟩
                by_cases hR1 : mid < en
                · have hR2 : ¬ en < b := fun q => hR ⟨hR1, q⟩
                  clear hR
                  go_wp2
                  go_end0
                  exact ⟨rfl, HEnd.out.1, HEnd.out.2⟩
                · clear hR
                  go_wp2
                  go_end0
                  exact ⟨rfl, HEnd.out.1, HEnd.out.2⟩
            · have Hm1 := Lib.hid (mrg_one hs1.out hs3.out (by have := Hse.out; have := Hz5.out; omega))
              have Ho8 : Hid (OwnChs wr B v ((P ++ (X1 ++ Y1)) ++ (X2 ++ (Y2 ++ Q)))) := Lib.hid (by have h9 := Ho7.out; simpa using h9)
              by_cases hL2 : a < i
              · have hL3 : ¬ i < mid := fun q => hL ⟨hL2, q⟩
                clear hL
                by_cases hR : mid < en ∧ en < b
                · obtain ⟨hR1, hR2⟩ := hR
                  have Hrt := Lib.hid (Hright.out wr _ Hm1.out.2.1 Ho8.out (by omega) (by omega))
                  go_wp2_with fail
                  refine Hrt.out.mono ?_
                  rintro e w9 ⟨rfl, ⟨Z2, hm2, ho9⟩, hb9⟩
                  have HEnd : Hid ((∃ Z, Mrg X Y Z ∧ OwnChs w9 B v (P ++ (Z ++ Q))) ∧ Below B w w9) := Lib.hid ⟨⟨_, HM.out _ _ Hm1.out hm2, by rw [List.append_assoc] at ho9; simpa using ho9⟩, Hb.out.trans hb9⟩
                  clear ho9 hb9 hm2 Hrt
                  go_wp2
                  go_end0
                  exact ⟨rfl, HEnd.out.1, HEnd.out.2⟩
                · have HEnd : Hid ((∃ Z, Mrg X Y Z ∧ OwnChs wr B v (P ++ (Z ++ Q))) ∧ Below B w wr) := Lib.hid ⟨⟨_, HM.out _ _ Hm1.out (mrg_one hs2.out hs4.out (by omega)), by have h9 := Ho8.out; rw [List.append_assoc] at h9; simpa using h9⟩, Hb.out⟩
                  by_cases hR1 : mid < en
                  · have hR2 : ¬ en < b := fun q => hR ⟨hR1, q⟩
                    clear hR
                    go_wp2
                    go_end0
                    exact ⟨rfl, HEnd.out.1, HEnd.out.2⟩
                  · clear hR
                    go_wp2
                    go_end0
                    exact ⟨rfl, HEnd.out.1, HEnd.out.2⟩
              · clear hL
                by_cases hR : mid < en ∧ en < b
                · obtain ⟨hR1, hR2⟩ := hR
                  have Hrt := Lib.hid (Hright.out wr _ Hm1.out.2.1 Ho8.out (by omega) (by omega))
                  go_wp2_with fail
                  refine Hrt.out.mono ?_
                  rintro e w9 ⟨rfl, ⟨Z2, hm2, ho9⟩, hb9⟩
                  have HEnd : Hid ((∃ Z, Mrg X Y Z ∧ OwnChs w9 B v (P ++ (Z ++ Q))) ∧ Below B w w9) := Lib.hid ⟨⟨_, HM.out _ _ Hm1.out hm2, by rw [List.append_assoc] at ho9; simpa using ho9⟩, Hb.out.trans hb9⟩
                  clear ho9 hb9 hm2 Hrt
                  go_wp2
                  go_end0
                  exact ⟨rfl, HEnd.out.1, HEnd.out.2⟩
                · have HEnd : Hid ((∃ Z, Mrg X Y Z ∧ OwnChs wr B v (P ++ (Z ++ Q))) ∧ Below B w wr) := Lib.hid ⟨⟨_, HM.out _ _ Hm1.out (mrg_one hs2.out hs4.out (by omega)), by have h9 := Ho8.out; rw [List.append_assoc] at h9; simpa using h9⟩, Hb.out⟩
                  by_cases hR1 : mid < en
                  · have hR2 : ¬ en < b := fun q => hR ⟨hR1, q⟩
                    clear hR
                    go_wp2
                    go_end0
                    exact ⟨rfl, HEnd.out.1, HEnd.out.2⟩
                  · clear hR
                    go_wp2
                    go_end0
                    exact ⟨rfl, HEnd.out.1, HEnd.out.2⟩
          · clear hr Ho
            by_cases hL : a < i ∧ i < mid
            · obtain ⟨hL2, hL3⟩ := hL
              have Hlf := Lib.hid (Hleft.out wr Ho7.out (by have := Hse.out; omega) (by have := Hse.out; have := Hz5.out; omega))
              go_wp2_with fail
              refine Hlf.out.mono ?_
              rintro e w8 ⟨rfl, ⟨Z1, hm1, ho8⟩, hb8⟩
              have Hm1 := Lib.hid hm1
              have Ho8 : Hid (OwnChs w8 B v ((P ++ Z1) ++ (X2 ++ (Y2 ++ Q)))) := Lib.hid (by rw [List.append_assoc]; exact ho8)
              have Hb8 := Lib.hid (Hb.out.trans hb8)
              clear ho8 hb8 hm1 Hlf
              by_cases hR : mid < en ∧ en < b
              · obtain ⟨hR1, hR2⟩ := hR
                have Hrt := Lib.hid (Hright.out w8 _ Hm1.out.2.1 Ho8.out (by omega) (by omega))
                go_wp2_with fail
                refine Hrt.out.mono ?_
                rintro e w9 ⟨rfl, ⟨Z2, hm2, ho9⟩, hb9⟩
                have HEnd : Hid ((∃ Z, Mrg X Y Z ∧ OwnChs w9 B v (P ++ (Z ++ Q))) ∧ Below B w w9) := Lib.hid ⟨⟨_, HM.out _ _ Hm1.out hm2, by rw [List.append_assoc] at ho9; simpa using ho9⟩, Hb8.out.trans hb9⟩
                clear ho9 hb9 hm2 Hrt
                go_wp2
                go_end0
                exact ⟨rfl, HEnd.out.1, HEnd.out.2⟩
              · have HEnd : Hid ((∃ Z, Mrg X Y Z ∧ OwnChs w8 B v (P ++ (Z ++ Q))) ∧ Below B w w8) := Lib.hid ⟨⟨_, HM.out _ _ Hm1.out (mrg_one hs2.out hs4.out (by omega)), by have h9 := Ho8.out; rw [List.append_assoc] at h9; simpa using h9⟩, Hb8.out⟩
                by_cases hR1 : mid < en
                · have hR2 : ¬ en < b := fun q => hR ⟨hR1, q⟩
                  clear hR
                  go_wp2
                  go_end0
                  exact ⟨rfl, HEnd.out.1, HEnd.out.2⟩
                · clear hR
                  go_wp2
                  go_end0
                  exact ⟨rfl, HEnd.out.1, HEnd.out.2⟩
            · have Hm1 := Lib.hid (mrg_one hs1.out hs3.out (by have := Hse.out; have := Hz5.out; omega))
              have Ho8 : Hid (OwnChs wr B v ((P ++ (X1 ++ Y1)) ++ (X2 ++ (Y2 ++ Q)))) := Lib.hid (by have h9 := Ho7.out; simpa using h9)
              by_cases hL2 : a < i
              · have hL3 : ¬ i < mid := fun q => hL ⟨hL2, q⟩
                clear hL
                by_cases hR : mid < en ∧ en < b
                · obtain ⟨hR1, hR2⟩ := hR
                  have Hrt := Lib.hid (Hright.out wr _ Hm1.out.2.1 Ho8.out (by omega) (by omega))
                  go_wp2_with fail
                  refine Hrt.out.mono ?_
                  rintro e w9 ⟨rfl, ⟨Z2, hm2, ho9⟩, hb9⟩
                  have HEnd : Hid ((∃ Z, Mrg X Y Z ∧ OwnChs w9 B v (P ++ (Z ++ Q))) ∧ Below B w w9) := Lib.hid ⟨⟨_, HM.out _ _ Hm1.out hm2, by rw [List.append_assoc] at ho9; simpa using ho9⟩, Hb.out.trans hb9⟩
                  clear ho9 hb9 hm2 Hrt
                  go_wp2
                  go_end0
                  exact ⟨rfl, HEnd.out.1, HEnd.out.2⟩
                · have HEnd : Hid ((∃ Z, Mrg X Y Z ∧ OwnChs wr B v (P ++ (Z ++ Q))) ∧ Below B w wr) := Lib.hid ⟨⟨_, HM.out _ _ Hm1.out (mrg_one hs2.out hs4.out (by omega)), by have h9 := Ho8.out; rw [List.append_assoc] at h9; simpa using h9⟩, Hb.out⟩
                  by_cases hR1 : mid < en
                  · have hR2 : ¬ en < b := fun q => hR ⟨hR1, q⟩
                    clear hR
                    go_wp2
                    go_end0
                    exact ⟨rfl, HEnd.out.1, HEnd.out.2⟩
                  · clear hR
                    go_wp2
                    go_end0
                    exact ⟨rfl, HEnd.out.1, HEnd.out.2⟩
              · clear hL
                by_cases hR : mid < en ∧ en < b
                · obtain ⟨hR1, hR2⟩ := hR
                  have Hrt := Lib.hid (Hright.out wr _ Hm1.out.2.1 Ho8.out (by omega) (by omega))
                  go_wp2_with fail
                  refine Hrt.out.mono ?_
                  rintro e w9 ⟨rfl, ⟨Z2, hm2, ho9⟩, hb9⟩
                  have HEnd : Hid ((∃ Z, Mrg X Y Z ∧ OwnChs w9 B v (P ++ (Z ++ Q))) ∧ Below B w w9) := Lib.hid ⟨⟨_, HM.out _ _ Hm1.out hm2, by rw [List.append_assoc] at ho9; simpa using ho9⟩, Hb.out.trans hb9⟩
                  clear ho9 hb9 hm2 Hrt
                  go_wp2
                  go_end0
                  exact ⟨rfl, HEnd.out.1, HEnd.out.2⟩
                · have HEnd : Hid ((∃ Z, Mrg X Y Z ∧ OwnChs wr B v (P ++ (Z ++ Q))) ∧ Below B w wr) := Lib.hid ⟨⟨_, HM.out _ _ Hm1.out (mrg_one hs2.out hs4.out (by omega)), by have h9 := Ho8.out; rw [List.append_assoc] at h9; simpa using h9⟩, Hb.out⟩
                  by_cases hR1 : mid < en
                  · have hR2 : ¬ en < b := fun q => hR ⟨hR1, q⟩
                    clear hR
                    go_wp2
                    go_end0
                    exact ⟨rfl, HEnd.out.1, HEnd.out.2⟩
                  · clear hR
                    go_wp2
                    go_end0
                    exact ⟨rfl, HEnd.out.1, HEnd.out.2⟩

  · go_wp2
    go_loopw [20, 21, 23] (fun iv jv _ wr => ∃ i j : Nat, a ≤ i ∧ i ≤ j ∧ j ≤ m ∧ iv = .int .i64 (i : Int) ∧ jv = .int .i64 (j : Int) ∧ Hid ((i = a ∨ ¬ (gl L (p - (i - 1))).kb < (gl L (i - 1)).kb) ∧ (j = m ∨ ¬ ¬ (gl L (p - j)).kb < (gl L j).kb)) ∧ OwnChs wr B v L ∧ Below B w wr) (fun iv jv _ _ => (intOf jv - intOf iv).toNat)
    case atStart => exact ⟨_, _, Nat.le_refl _, by omega, Nat.le_refl _, rfl, rfl, Lib.hid ⟨.inl rfl, .inl rfl⟩, Hw.out.1, Hw.out.2⟩
    case round =>
      obtain ⟨i, j, hi0, hij, hj0, rfl, rfl, Hp, ho, hbl⟩ := hrel
      have Ho := Lib.hid ho
      have Hb := Lib.hid hbl
      clear ho hbl Hw
      by_cases hlt : i < j
      · obtain ⟨h, hh⟩ : ∃ h, (i + j) / 2 = h := ⟨_, rfl⟩
        have hmi := half_int i j h hh
        have hih : i ≤ h ∧ h < j := by omega
        clear hh
        obtain ⟨q, hq⟩ : ∃ q, p - h = q := ⟨_, rfl⟩
        have hqi : (p : Int) - (h : Int) = (q : Int) := by omega
        have hqN : q < N ∧ h < N := by omega
        have hwq : IntKind.i64.wrap ((p : Int) - (h : Int)) = (q : Int) := by rw [hqi, IntKind.wrap_i64]; omega
        have hwq2 : IntKind.i64.wrap (q : Int) = (q : Int) := by rw [IntKind.wrap_i64]; omega
        have Hq := Lib.hid hq
        clear hq
        obtain ⟨g, c, rfl, hBg, hNm⟩ := own_atC Ho.out HN.out (by omega)
        have hwr := own_ge Ho.out HN.out (by omega)
        obtain ⟨⟨xk, xv, xg⟩, hx⟩ : ∃ x, gl L q = x := ⟨_, rfl⟩
        obtain ⟨⟨yk, yv, yg⟩, hy⟩ : ∃ x, gl L h = x := ⟨_, rfl⟩
        have Hk := Lib.hid (two_at Ho.out HN.out (by omega) (by omega) hx hy)
        have Hz := Lib.hid (cmpK_neg (a := gl L q) (b := gl L h))
        have Hcall := Lib.hid (fun wx => byKey_any ⟨xk, xv, xg⟩ ⟨yk, yv, yg⟩ wx)
        unfold cagg at Hcall
        rw [hx, hy] at Hz
        obtain ⟨z, hz⟩ : ∃ z, cmpK ⟨xk, xv, xg⟩ ⟨yk, yv, yg⟩ = z := ⟨_, rfl⟩
        rw [hz] at Hcall Hz
        rw [← hx, ← hy] at Hz
        simp only at Hcall
        have hn0 : (0 : Int) ≤ ((q : Nat) : Int) := by omega
        have hn1 : ((q : Nat) : Int) < (N : Int) := by omega
        have hn2 : (0 : Int) ≤ ((h : Nat) : Int) := by omega
        have hn3 : ((h : Nat) : Int) < (N : Int) := by omega
        clear hx hy hz hNm
        by_cases hz : z < 0
        · go_wp2
          go_region_held3 (fun wx => (wx.cell? ⟨g, q * 3, none⟩ = some (.string xk) ∧ wx.cell? ⟨g, q * 3 + 1, none⟩ = some (.string xv) ∧ wx.cell? ⟨g, q * 3 + 2, none⟩ = some (.bool xg) ∧ wx.cell? ⟨g, h * 3, none⟩ = some (.string yk) ∧ wx.cell? ⟨g, h * 3 + 1, none⟩ = some (.string yv) ∧ wx.cell? ⟨g, h * 3 + 2, none⟩ = some (.bool yg)) ∧ Below wr.heap.size wr wx)
            (first | exact Hk.out _ (Below.refl _ _).drew | exact Hk.out _ (below_thn (And.right (by assumption)) hb2))
            (first | (go_at_call 48; refine (Hcall.out _).mono ?_; rintro e w2 ⟨rfl, hb2⟩))
          all_goals
            have hbz := And.right ‹(_ ∧ _) ∧ Below wr.heap.size wr w2›
            have Hend := Lib.hid (And.intro (Ho.out.below hbz) (Hb.out.trans (hbz.mono hwr)))
            clear hb2 hbz
            go_wp2
            try any_goals (exfalso; omega)
            go_roundw
            case rel => exact ⟨i, h, by omega, by omega, by omega, rfl, rfl, Lib.hid ⟨Hp.out.1, .inr (by rw [Hq.out]; exact fun hq => hq (Hz.out.1 hz))⟩, Hend.out.1, Hend.out.2⟩
            case measure => simp [intOf]; omega
        · have hz0 : 0 ≤ z := by omega
          have hzb : decide (z < 0) = false := decide_eq_false (by omega)
          go_wp2
          go_region_held3 (fun wx => (wx.cell? ⟨g, q * 3, none⟩ = some (.string xk) ∧ wx.cell? ⟨g, q * 3 + 1, none⟩ = some (.string xv) ∧ wx.cell? ⟨g, q * 3 + 2, none⟩ = some (.bool xg) ∧ wx.cell? ⟨g, h * 3, none⟩ = some (.string yk) ∧ wx.cell? ⟨g, h * 3 + 1, none⟩ = some (.string yv) ∧ wx.cell? ⟨g, h * 3 + 2, none⟩ = some (.bool yg)) ∧ Below wr.heap.size wr wx)
            (first | exact Hk.out _ (Below.refl _ _).drew | exact Hk.out _ (below_thn (And.right (by assumption)) hb2))
            (first | (go_at_call 48; refine (Hcall.out _).mono ?_; rintro e w2 ⟨rfl, hb2⟩))
          all_goals
            have hbz := And.right ‹(_ ∧ _) ∧ Below wr.heap.size wr w2›
            have Hend := Lib.hid (And.intro (Ho.out.below hbz) (Hb.out.trans (hbz.mono hwr)))
            clear hb2 hbz
            go_wp2
            try any_goals (exfalso; omega)
            go_roundw
            case rel => exact ⟨h + 1, j, by omega, by omega, by omega, by go_num, rfl, Lib.hid ⟨.inr (by rw [Nat.add_sub_cancel, Hq.out]; exact fun hq => by have := Hz.out.2 hq; omega), Hp.out.2⟩, Hend.out.1, Hend.out.2⟩
            case measure => simp [intOf]; omega
      · obtain rfl : i = j := by omega
        clear hlt
        obtain ⟨en, hen⟩ : ∃ en, n - i = en := ⟨_, rfl⟩
        have heni : (n : Int) - (i : Int) = (en : Int) := by omega
        obtain ⟨⟨z1, z2, z3, z4, z5, z6⟩, hc1, hc2⟩ := Hcut.out i en _ _ (.inr ⟨by omega, rfl, rfl⟩) hi0 hj0 hen Hp.out.1 Hp.out.2
        obtain ⟨s', hs'⟩ : ∃ s', i - a = s' := ⟨_, rfl⟩
        obtain ⟨e', he'⟩ : ∃ e', en - m = e' := ⟨_, rfl⟩
        rw [hs', he'] at hc1 hc2 z5
        have HM := Lib.hid (fun Z1 Z2 (m1 : Mrg (X.take s') (Y.take e') Z1) (m2 : Mrg (X.drop s') (Y.drop e') Z2) => mrg_of HsX.out HsY.out (by have := HY.out; omega) (by have := HX.out; omega) hc1 hc2 m1 m2)
        have hl1 : (X.take s').length = s' := by rw [List.length_take]; have := HX.out; omega
        have hl2 : (Y.take e').length = e' := by rw [List.length_take]; have := HY.out; omega
        have hl3 : (X.drop s').length = m - i := by rw [List.length_drop]; have := HX.out; omega
        have hl4 : (Y.drop e').length = b - en := by rw [List.length_drop]; have := HY.out; omega
        have HNn := Lib.hid (HNc.out s' e')
        rw [hl1, hl2, hl3, hl4] at HNn
        have hs1 := Lib.hid (HsX.out.take s')
        have hs2 := Lib.hid (HsX.out.drop s')
        have hs3 := Lib.hid (HsY.out.take e')
        have hs4 := Lib.hid (HsY.out.drop e')
        have HE := Lib.hid (HEq.out s' e')
        have Hse := Lib.hid (And.intro hs' he')
        have Hz5 := Lib.hid z5
        obtain ⟨X1, hX1⟩ : ∃ X1, X.take s' = X1 := ⟨_, rfl⟩
        obtain ⟨X2, hX2⟩ : ∃ X2, X.drop s' = X2 := ⟨_, rfl⟩
        obtain ⟨Y1, hY1⟩ : ∃ Y1, Y.take e' = Y1 := ⟨_, rfl⟩
        obtain ⟨Y2, hY2⟩ : ∃ Y2, Y.drop e' = Y2 := ⟨_, rfl⟩
        rw [hX1, hX2, hY1, hY2] at HM HE
        rw [hX1] at hl1 hs1
        rw [hX2] at hl3 hs2
        rw [hY1] at hl2 hs3
        rw [hY2] at hl4 hs4
        have hL1 : P.length + X1.length = i := by have := HP.out; omega
        clear Hp hc1 hc2 hs' he' z5 HsX HsY HEq Hcut HNc hen hX1 hX2 hY1 hY2
        rw [HE.out] at Ho
        have Hrot := Lib.hid (fun wx cmp (hx : OwnChs wx B v ((P ++ X1) ++ (X2 ++ (Y1 ++ (Y2 ++ Q))))) h1 h2 => rotate_any v cmp B i m en (P ++ X1) X2 Y1 (Y2 ++ Q) wx hx (by rw [List.length_append]; exact hL1) (by omega) (by have := Hse.out; omega) h1 h2)
        have Hleft := Lib.hid (fun wx (hx : OwnChs wx B v (P ++ (X1 ++ (Y1 ++ (X2 ++ (Y2 ++ Q)))))) h1 h2 => IH.out a i mid P X1 Y1 (X2 ++ (Y2 ++ Q)) wx (by omega) hx (by have := HNn.out; simp only [List.length_append, hl1, hl2, hl3, hl4]; omega) HP.out (by have := HP.out; omega) (by have := Hse.out; have := Hz5.out; omega) h1 h2 hs1.out hs3.out)
        have Hright := Lib.hid (fun wx Z1 (hz : Z1.length = X1.length + Y1.length) (hx : OwnChs wx B v ((P ++ Z1) ++ (X2 ++ (Y2 ++ Q)))) h1 h2 => IH.out mid en b (P ++ Z1) X2 Y2 Q wx (by omega) hx (by have := HNn.out; simp only [List.length_append, hz, hl1, hl2, hl3, hl4]; omega) (by have := HP.out; have := Hse.out; have := Hz5.out; rw [List.length_append, hz]; omega) (by have := Hse.out; have := Hz5.out; omega) (by omega) h1 h2 hs2.out hs4.out)
        by_cases hr : i < m ∧ m < en
        · obtain ⟨hr1, hr2⟩ := hr
          go_wp2_with fail
          refine (Hrot.out _ _ Ho.out (by omega) (by have := Hse.out; omega)).mono ?_
          rintro e w7 ⟨rfl, ho7, hb7⟩
          have Ho7 : Hid (OwnChs w7 B v (P ++ (X1 ++ (Y1 ++ (X2 ++ (Y2 ++ Q)))))) := Lib.hid (by rw [List.append_assoc] at ho7; exact ho7)
          have Hb7 := Lib.hid (Hb.out.trans hb7)
          clear ho7 hb7 Ho
          by_cases hL : a < i ∧ i < mid
          · obtain ⟨hL2, hL3⟩ := hL
            have Hlf := Lib.hid (Hleft.out w7 Ho7.out (by have := Hse.out; omega) (by have := Hse.out; have := Hz5.out; omega))
            go_wp2_with fail
            refine Hlf.out.mono ?_
            rintro e w8 ⟨rfl, ⟨Z1, hm1, ho8⟩, hb8⟩
            have Hm1 := Lib.hid hm1
            have Ho8 : Hid (OwnChs w8 B v ((P ++ Z1) ++ (X2 ++ (Y2 ++ Q)))) := Lib.hid (by rw [List.append_assoc]; exact ho8)
            have Hb8 := Lib.hid (Hb7.out.trans hb8)
            clear ho8 hb8 hm1 Hlf
            by_cases hR : mid < en ∧ en < b
            · obtain ⟨hR1, hR2⟩ := hR
              have Hrt := Lib.hid (Hright.out w8 _ Hm1.out.2.1 Ho8.out (by omega) (by omega))
              go_wp2_with fail
              refine Hrt.out.mono ?_
              rintro e w9 ⟨rfl, ⟨Z2, hm2, ho9⟩, hb9⟩
              have HEnd : Hid ((∃ Z, Mrg X Y Z ∧ OwnChs w9 B v (P ++ (Z ++ Q))) ∧ Below B w w9) := Lib.hid ⟨⟨_, HM.out _ _ Hm1.out hm2, by rw [List.append_assoc] at ho9; simpa using ho9⟩, Hb8.out.trans hb9⟩
              clear ho9 hb9 hm2 Hrt
              go_wp2
              go_end0
              exact ⟨rfl, HEnd.out.1, HEnd.out.2⟩
            · have HEnd : Hid ((∃ Z, Mrg X Y Z ∧ OwnChs w8 B v (P ++ (Z ++ Q))) ∧ Below B w w8) := Lib.hid ⟨⟨_, HM.out _ _ Hm1.out (mrg_one hs2.out hs4.out (by omega)), by have h9 := Ho8.out; rw [List.append_assoc] at h9; simpa using h9⟩, Hb8.out⟩
              by_cases hR1 : mid < en
              · have hR2 : ¬ en < b := fun q => hR ⟨hR1, q⟩
                clear hR
                go_wp2
                go_end0
                exact ⟨rfl, HEnd.out.1, HEnd.out.2⟩
              · clear hR
                go_wp2
                go_end0
                exact ⟨rfl, HEnd.out.1, HEnd.out.2⟩
          · have Hm1 := Lib.hid (mrg_one hs1.out hs3.out (by have := Hse.out; have := Hz5.out; omega))
            have Ho8 : Hid (OwnChs w7 B v ((P ++ (X1 ++ Y1)) ++ (X2 ++ (Y2 ++ Q)))) := Lib.hid (by have h9 := Ho7.out; simpa using h9)
            by_cases hL2 : a < i
            · have hL3 : ¬ i < mid := fun q => hL ⟨hL2, q⟩
              clear hL
              by_cases hR : mid < en ∧ en < b
              · obtain ⟨hR1, hR2⟩ := hR
                have Hrt := Lib.hid (Hright.out w7 _ Hm1.out.2.1 Ho8.out (by omega) (by omega))
                go_wp2_with fail
                refine Hrt.out.mono ?_
                rintro e w9 ⟨rfl, ⟨Z2, hm2, ho9⟩, hb9⟩
                have HEnd : Hid ((∃ Z, Mrg X Y Z ∧ OwnChs w9 B v (P ++ (Z ++ Q))) ∧ Below B w w9) := Lib.hid ⟨⟨_, HM.out _ _ Hm1.out hm2, by rw [List.append_assoc] at ho9; simpa using ho9⟩, Hb7.out.trans hb9⟩
                clear ho9 hb9 hm2 Hrt
                go_wp2
                go_end0
                exact ⟨rfl, HEnd.out.1, HEnd.out.2⟩
              · have HEnd : Hid ((∃ Z, Mrg X Y Z ∧ OwnChs w7 B v (P ++ (Z ++ Q))) ∧ Below B w w7) := Lib.hid ⟨⟨_, HM.out _ _ Hm1.out (mrg_one hs2.out hs4.out (by omega)), by have h9 := Ho8.out; rw [List.append_assoc] at h9; simpa using h9⟩, Hb7.out⟩
                by_cases hR1 : mid < en
                · have hR2 : ¬ en < b := fun q => hR ⟨hR1, q⟩
                  clear hR
                  go_wp2
                  go_end0
                  exact ⟨rfl, HEnd.out.1, HEnd.out.2⟩
                · clear hR
                  go_wp2
                  go_end0
                  exact ⟨rfl, HEnd.out.1, HEnd.out.2⟩
            · clear hL
              by_cases hR : mid < en ∧ en < b
              · obtain ⟨hR1, hR2⟩ := hR
                have Hrt := Lib.hid (Hright.out w7 _ Hm1.out.2.1 Ho8.out (by omega) (by omega))
                go_wp2_with fail
                refine Hrt.out.mono ?_
                rintro e w9 ⟨rfl, ⟨Z2, hm2, ho9⟩, hb9⟩
                have HEnd : Hid ((∃ Z, Mrg X Y Z ∧ OwnChs w9 B v (P ++ (Z ++ Q))) ∧ Below B w w9) := Lib.hid ⟨⟨_, HM.out _ _ Hm1.out hm2, by rw [List.append_assoc] at ho9; simpa using ho9⟩, Hb7.out.trans hb9⟩
                clear ho9 hb9 hm2 Hrt
                go_wp2
                go_end0
                exact ⟨rfl, HEnd.out.1, HEnd.out.2⟩
              · have HEnd : Hid ((∃ Z, Mrg X Y Z ∧ OwnChs w7 B v (P ++ (Z ++ Q))) ∧ Below B w w7) := Lib.hid ⟨⟨_, HM.out _ _ Hm1.out (mrg_one hs2.out hs4.out (by omega)), by have h9 := Ho8.out; rw [List.append_assoc] at h9; simpa using h9⟩, Hb7.out⟩
                by_cases hR1 : mid < en
                · have hR2 : ¬ en < b := fun q => hR ⟨hR1, q⟩
                  clear hR
                  go_wp2
                  go_end0
                  exact ⟨rfl, HEnd.out.1, HEnd.out.2⟩
                · clear hR
                  go_wp2
                  go_end0
                  exact ⟨rfl, HEnd.out.1, HEnd.out.2⟩
        · have Ho7 : Hid (OwnChs wr B v (P ++ (X1 ++ (Y1 ++ (X2 ++ (Y2 ++ Q)))))) := Lib.hid (by
            have h9 := Ho.out
            rcases (show X2.length = 0 ∨ Y1.length = 0 by have := Hse.out; omega) with h0 | h0
            · rw [List.length_eq_zero_iff] at h0; subst h0; simpa using h9
            · rw [List.length_eq_zero_iff] at h0; subst h0; simpa using h9)
          by_cases hr1 : i < m
          · have hr2 : ¬ m < en := fun q => hr ⟨hr1, q⟩
            clear hr Ho
            by_cases hL : a < i ∧ i < mid
            · obtain ⟨hL2, hL3⟩ := hL
              have Hlf := Lib.hid (Hleft.out wr Ho7.out (by have := Hse.out; omega) (by have := Hse.out; have := Hz5.out; omega))
              go_wp2_with fail
              refine Hlf.out.mono ?_
              rintro e w8 ⟨rfl, ⟨Z1, hm1, ho8⟩, hb8⟩
              have Hm1 := Lib.hid hm1
              have Ho8 : Hid (OwnChs w8 B v ((P ++ Z1) ++ (X2 ++ (Y2 ++ Q)))) := Lib.hid (by rw [List.append_assoc]; exact ho8)
              have Hb8 := Lib.hid (Hb.out.trans hb8)
              clear ho8 hb8 hm1 Hlf
              by_cases hR : mid < en ∧ en < b
              · obtain ⟨hR1, hR2⟩ := hR
                have Hrt := Lib.hid (Hright.out w8 _ Hm1.out.2.1 Ho8.out (by omega) (by omega))
                go_wp2_with fail
                refine Hrt.out.mono ?_
                rintro e w9 ⟨rfl, ⟨Z2, hm2, ho9⟩, hb9⟩
                have HEnd : Hid ((∃ Z, Mrg X Y Z ∧ OwnChs w9 B v (P ++ (Z ++ Q))) ∧ Below B w w9) := Lib.hid ⟨⟨_, HM.out _ _ Hm1.out hm2, by rw [List.append_assoc] at ho9; simpa using ho9⟩, Hb8.out.trans hb9⟩
                clear ho9 hb9 hm2 Hrt
                go_wp2
                go_end0
                exact ⟨rfl, HEnd.out.1, HEnd.out.2⟩
              · have HEnd : Hid ((∃ Z, Mrg X Y Z ∧ OwnChs w8 B v (P ++ (Z ++ Q))) ∧ Below B w w8) := Lib.hid ⟨⟨_, HM.out _ _ Hm1.out (mrg_one hs2.out hs4.out (by omega)), by have h9 := Ho8.out; rw [List.append_assoc] at h9; simpa using h9⟩, Hb8.out⟩
                by_cases hR1 : mid < en
                · have hR2 : ¬ en < b := fun q => hR ⟨hR1, q⟩
                  clear hR
                  go_wp2
                  go_end0
                  exact ⟨rfl, HEnd.out.1, HEnd.out.2⟩
                · clear hR
                  go_wp2
                  go_end0
                  exact ⟨rfl, HEnd.out.1, HEnd.out.2⟩
            · have Hm1 := Lib.hid (mrg_one hs1.out hs3.out (by have := Hse.out; have := Hz5.out; omega))
              have Ho8 : Hid (OwnChs wr B v ((P ++ (X1 ++ Y1)) ++ (X2 ++ (Y2 ++ Q)))) := Lib.hid (by have h9 := Ho7.out; simpa using h9)
              by_cases hL2 : a < i
              · have hL3 : ¬ i < mid := fun q => hL ⟨hL2, q⟩
                clear hL
                by_cases hR : mid < en ∧ en < b
                · obtain ⟨hR1, hR2⟩ := hR
                  have Hrt := Lib.hid (Hright.out wr _ Hm1.out.2.1 Ho8.out (by omega) (by omega))
                  go_wp2_with fail
                  refine Hrt.out.mono ?_
                  rintro e w9 ⟨rfl, ⟨Z2, hm2, ho9⟩, hb9⟩
                  have HEnd : Hid ((∃ Z, Mrg X Y Z ∧ OwnChs w9 B v (P ++ (Z ++ Q))) ∧ Below B w w9) := Lib.hid ⟨⟨_, HM.out _ _ Hm1.out hm2, by rw [List.append_assoc] at ho9; simpa using ho9⟩, Hb.out.trans hb9⟩
                  clear ho9 hb9 hm2 Hrt
                  go_wp2
                  go_end0
                  exact ⟨rfl, HEnd.out.1, HEnd.out.2⟩
                · have HEnd : Hid ((∃ Z, Mrg X Y Z ∧ OwnChs wr B v (P ++ (Z ++ Q))) ∧ Below B w wr) := Lib.hid ⟨⟨_, HM.out _ _ Hm1.out (mrg_one hs2.out hs4.out (by omega)), by have h9 := Ho8.out; rw [List.append_assoc] at h9; simpa using h9⟩, Hb.out⟩
                  by_cases hR1 : mid < en
                  · have hR2 : ¬ en < b := fun q => hR ⟨hR1, q⟩
                    clear hR
                    go_wp2
                    go_end0
                    exact ⟨rfl, HEnd.out.1, HEnd.out.2⟩
                  · clear hR
                    go_wp2
                    go_end0
                    exact ⟨rfl, HEnd.out.1, HEnd.out.2⟩
              · clear hL
                by_cases hR : mid < en ∧ en < b
                · obtain ⟨hR1, hR2⟩ := hR
                  have Hrt := Lib.hid (Hright.out wr _ Hm1.out.2.1 Ho8.out (by omega) (by omega))
                  go_wp2_with fail
                  refine Hrt.out.mono ?_
                  rintro e w9 ⟨rfl, ⟨Z2, hm2, ho9⟩, hb9⟩
                  have HEnd : Hid ((∃ Z, Mrg X Y Z ∧ OwnChs w9 B v (P ++ (Z ++ Q))) ∧ Below B w w9) := Lib.hid ⟨⟨_, HM.out _ _ Hm1.out hm2, by rw [List.append_assoc] at ho9; simpa using ho9⟩, Hb.out.trans hb9⟩
                  clear ho9 hb9 hm2 Hrt
                  go_wp2
                  go_end0
                  exact ⟨rfl, HEnd.out.1, HEnd.out.2⟩
                · have HEnd : Hid ((∃ Z, Mrg X Y Z ∧ OwnChs wr B v (P ++ (Z ++ Q))) ∧ Below B w wr) := Lib.hid ⟨⟨_, HM.out _ _ Hm1.out (mrg_one hs2.out hs4.out (by omega)), by have h9 := Ho8.out; rw [List.append_assoc] at h9; simpa using h9⟩, Hb.out⟩
                  by_cases hR1 : mid < en
                  · have hR2 : ¬ en < b := fun q => hR ⟨hR1, q⟩
                    clear hR
                    go_wp2
                    go_end0
                    exact ⟨rfl, HEnd.out.1, HEnd.out.2⟩
                  · clear hR
                    go_wp2
                    go_end0
                    exact ⟨rfl, HEnd.out.1, HEnd.out.2⟩
          · clear hr Ho
            by_cases hL : a < i ∧ i < mid
            · obtain ⟨hL2, hL3⟩ := hL
              have Hlf := Lib.hid (Hleft.out wr Ho7.out (by have := Hse.out; omega) (by have := Hse.out; have := Hz5.out; omega))
              go_wp2_with fail
              refine Hlf.out.mono ?_
              rintro e w8 ⟨rfl, ⟨Z1, hm1, ho8⟩, hb8⟩
              have Hm1 := Lib.hid hm1
              have Ho8 : Hid (OwnChs w8 B v ((P ++ Z1) ++ (X2 ++ (Y2 ++ Q)))) := Lib.hid (by rw [List.append_assoc]; exact ho8)
              have Hb8 := Lib.hid (Hb.out.trans hb8)
              clear ho8 hb8 hm1 Hlf
              by_cases hR : mid < en ∧ en < b
              · obtain ⟨hR1, hR2⟩ := hR
                have Hrt := Lib.hid (Hright.out w8 _ Hm1.out.2.1 Ho8.out (by omega) (by omega))
                go_wp2_with fail
                refine Hrt.out.mono ?_
                rintro e w9 ⟨rfl, ⟨Z2, hm2, ho9⟩, hb9⟩
                have HEnd : Hid ((∃ Z, Mrg X Y Z ∧ OwnChs w9 B v (P ++ (Z ++ Q))) ∧ Below B w w9) := Lib.hid ⟨⟨_, HM.out _ _ Hm1.out hm2, by rw [List.append_assoc] at ho9; simpa using ho9⟩, Hb8.out.trans hb9⟩
                clear ho9 hb9 hm2 Hrt
                go_wp2
                go_end0
                exact ⟨rfl, HEnd.out.1, HEnd.out.2⟩
              · have HEnd : Hid ((∃ Z, Mrg X Y Z ∧ OwnChs w8 B v (P ++ (Z ++ Q))) ∧ Below B w w8) := Lib.hid ⟨⟨_, HM.out _ _ Hm1.out (mrg_one hs2.out hs4.out (by omega)), by have h9 := Ho8.out; rw [List.append_assoc] at h9; simpa using h9⟩, Hb8.out⟩
                by_cases hR1 : mid < en
                · have hR2 : ¬ en < b := fun q => hR ⟨hR1, q⟩
                  clear hR
                  go_wp2
                  go_end0
                  exact ⟨rfl, HEnd.out.1, HEnd.out.2⟩
                · clear hR
                  go_wp2
                  go_end0
                  exact ⟨rfl, HEnd.out.1, HEnd.out.2⟩
            · have Hm1 := Lib.hid (mrg_one hs1.out hs3.out (by have := Hse.out; have := Hz5.out; omega))
              have Ho8 : Hid (OwnChs wr B v ((P ++ (X1 ++ Y1)) ++ (X2 ++ (Y2 ++ Q)))) := Lib.hid (by have h9 := Ho7.out; simpa using h9)
              by_cases hL2 : a < i
              · have hL3 : ¬ i < mid := fun q => hL ⟨hL2, q⟩
                clear hL
                by_cases hR : mid < en ∧ en < b
                · obtain ⟨hR1, hR2⟩ := hR
                  have Hrt := Lib.hid (Hright.out wr _ Hm1.out.2.1 Ho8.out (by omega) (by omega))
                  go_wp2_with fail
                  refine Hrt.out.mono ?_
                  rintro e w9 ⟨rfl, ⟨Z2, hm2, ho9⟩, hb9⟩
                  have HEnd : Hid ((∃ Z, Mrg X Y Z ∧ OwnChs w9 B v (P ++ (Z ++ Q))) ∧ Below B w w9) := Lib.hid ⟨⟨_, HM.out _ _ Hm1.out hm2, by rw [List.append_assoc] at ho9; simpa using ho9⟩, Hb.out.trans hb9⟩
                  clear ho9 hb9 hm2 Hrt
                  go_wp2
                  go_end0
                  exact ⟨rfl, HEnd.out.1, HEnd.out.2⟩
                · have HEnd : Hid ((∃ Z, Mrg X Y Z ∧ OwnChs wr B v (P ++ (Z ++ Q))) ∧ Below B w wr) := Lib.hid ⟨⟨_, HM.out _ _ Hm1.out (mrg_one hs2.out hs4.out (by omega)), by have h9 := Ho8.out; rw [List.append_assoc] at h9; simpa using h9⟩, Hb.out⟩
                  by_cases hR1 : mid < en
                  · have hR2 : ¬ en < b := fun q => hR ⟨hR1, q⟩
                    clear hR
                    go_wp2
                    go_end0
                    exact ⟨rfl, HEnd.out.1, HEnd.out.2⟩
                  · clear hR
                    go_wp2
                    go_end0
                    exact ⟨rfl, HEnd.out.1, HEnd.out.2⟩
              · clear hL
                by_cases hR : mid < en ∧ en < b
                · obtain ⟨hR1, hR2⟩ := hR
                  have Hrt := Lib.hid (Hright.out wr _ Hm1.out.2.1 Ho8.out (by omega) (by omega))
                  go_wp2_with fail
                  refine Hrt.out.mono ?_
                  rintro e w9 ⟨rfl, ⟨Z2, hm2, ho9⟩, hb9⟩
                  have HEnd : Hid ((∃ Z, Mrg X Y Z ∧ OwnChs w9 B v (P ++ (Z ++ Q))) ∧ Below B w w9) := Lib.hid ⟨⟨_, HM.out _ _ Hm1.out hm2, by rw [List.append_assoc] at ho9; simpa using ho9⟩, Hb.out.trans hb9⟩
                  clear ho9 hb9 hm2 Hrt
                  go_wp2
                  go_end0
                  exact ⟨rfl, HEnd.out.1, HEnd.out.2⟩
                · have HEnd : Hid ((∃ Z, Mrg X Y Z ∧ OwnChs wr B v (P ++ (Z ++ Q))) ∧ Below B w wr) := Lib.hid ⟨⟨_, HM.out _ _ Hm1.out (mrg_one hs2.out hs4.out (by omega)), by have h9 := Ho8.out; rw [List.append_assoc] at h9; simpa using h9⟩, Hb.out⟩
                  by_cases hR1 : mid < en
                  · have hR2 : ¬ en < b := fun q => hR ⟨hR1, q⟩
                    clear hR
                    go_wp2
                    go_end0
                    exact ⟨rfl, HEnd.out.1, HEnd.out.2⟩
                  · clear hR
                    go_wp2
                    go_end0
                    exact ⟨rfl, HEnd.out.1, HEnd.out.2⟩

end Go.Proofs.Ytfmjjjfeooaeeaa

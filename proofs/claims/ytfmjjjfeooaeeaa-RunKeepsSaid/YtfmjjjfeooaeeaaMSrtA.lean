/- slices.Clone of a row of changes. Condition: the row is in memory. -/
import Derived.Test.YtfmjjjfeooaeeaaHpB
import Derived.Test.YtfmjjjfeooaeeaaSpecRun
import Derived.Test.YtfmjjjfeooaeeaaSpecHeap
import Derived.Test.YtfmjjjfeooaeeaaRunA
import Derived.Test.YtfmjjjfeooaeeaaChgD
namespace Go.Proofs.Ytfmjjjfeooaeeaa
open Go.RowKit
open Go.Lib (strCells compareBytes)

theorem chgCells_set : ∀ (l : List Chg) (i : Nat) (x : Chg), chgCells (l.set i x) = (((chgCells l).set (i * 3) (.string x.k)).set (i * 3 + 1) (.string x.v)).set (i * 3 + 2) (.bool x.g)
  | [], i, v => by simp [chgCells]
  | w :: l, 0, v => by simp [chgCells, ccells]
  | w :: l, i + 1, v => by
    rw [show (i + 1) * 3 = i * 3 + 1 + 1 + 1 from by omega]
    simp [chgCells, ccells, chgCells_set l i v]
theorem chg_cells {w : World} {B N c g k : Nat} {L : List Chg} (h : w.ownsRow B 38 3 (.slice (some ⟨g, 0, none⟩) N c) N (chgCells L)) (hk : k < L.length) :
    w.cell? ⟨g, k * 3, none⟩ = some (.string (gl L k).k) ∧ w.cell? ⟨g, k * 3 + 1, none⟩ = some (.string (gl L k).v) ∧ w.cell? ⟨g, k * 3 + 2, none⟩ = some (.bool (gl L k).g) := by
  have hy := h.1
  have hl := chgCells_len L
  obtain ⟨c0, c1, c2⟩ := chgCells_at L k _ (gl_get hk)
  rw [h.cellAt _ (by omega), h.cellAt _ (by omega), h.cellAt _ (by omega)]
  exact ⟨c0, c1, c2⟩
theorem swap_row {w : World} {B N c g i j : Nat} {L : List Chg} {xk xv yk yv : ByteArray} {xg yg : Bool} (h : OwnChs w B (.slice (some ⟨g, 0, none⟩) N c) L) (hN : L.length = N) (hi : i < N) (hj : j < N) (hx : gl L i = ⟨xk, xv, xg⟩) (hy : gl L j = ⟨yk, yv, yg⟩) :
    (w.cell? ⟨g, i * 3, none⟩ = some (.string xk) ∧ w.cell? ⟨g, i * 3 + 1, none⟩ = some (.string xv) ∧ w.cell? ⟨g, i * 3 + 2, none⟩ = some (.bool xg)) ∧
    (w.cell? ⟨g, j * 3, none⟩ = some (.string yk) ∧ w.cell? ⟨g, j * 3 + 1, none⟩ = some (.string yv) ∧ w.cell? ⟨g, j * 3 + 2, none⟩ = some (.bool yg)) ∧
    (w.frozen? ⟨g, i * 3, none⟩ = false ∧ w.frozen? ⟨g, i * 3 + 1, none⟩ = false ∧ w.frozen? ⟨g, i * 3 + 2, none⟩ = false) ∧
    ((∃ u, (((w.setCell ⟨g, i * 3, none⟩ (.string yk)).setCell ⟨g, i * 3 + 1, none⟩ (.string yv)).setCell ⟨g, i * 3 + 2, none⟩ (.bool yg)).cell? ⟨g, j * 3, none⟩ = some u) ∧
      (∃ u, ((((w.setCell ⟨g, i * 3, none⟩ (.string yk)).setCell ⟨g, i * 3 + 1, none⟩ (.string yv)).setCell ⟨g, i * 3 + 2, none⟩ (.bool yg)).setCell ⟨g, j * 3, none⟩ (.string xk)).cell? ⟨g, j * 3 + 1, none⟩ = some u) ∧
      (∃ u, (((((w.setCell ⟨g, i * 3, none⟩ (.string yk)).setCell ⟨g, i * 3 + 1, none⟩ (.string yv)).setCell ⟨g, i * 3 + 2, none⟩ (.bool yg)).setCell ⟨g, j * 3, none⟩ (.string xk)).setCell ⟨g, j * 3 + 1, none⟩ (.string xv)).cell? ⟨g, j * 3 + 2, none⟩ = some u)) ∧
    ((((w.setCell ⟨g, i * 3, none⟩ (.string yk)).setCell ⟨g, i * 3 + 1, none⟩ (.string yv)).setCell ⟨g, i * 3 + 2, none⟩ (.bool yg)).frozen? ⟨g, j * 3, none⟩ = false ∧
      ((((w.setCell ⟨g, i * 3, none⟩ (.string yk)).setCell ⟨g, i * 3 + 1, none⟩ (.string yv)).setCell ⟨g, i * 3 + 2, none⟩ (.bool yg)).setCell ⟨g, j * 3, none⟩ (.string xk)).frozen? ⟨g, j * 3 + 1, none⟩ = false ∧
      (((((w.setCell ⟨g, i * 3, none⟩ (.string yk)).setCell ⟨g, i * 3 + 1, none⟩ (.string yv)).setCell ⟨g, i * 3 + 2, none⟩ (.bool yg)).setCell ⟨g, j * 3, none⟩ (.string xk)).setCell ⟨g, j * 3 + 1, none⟩ (.string xv)).frozen? ⟨g, j * 3 + 2, none⟩ = false) ∧
    (OwnChs (((((((w.setCell ⟨g, i * 3, none⟩ (.string yk)).setCell ⟨g, i * 3 + 1, none⟩ (.string yv)).setCell ⟨g, i * 3 + 2, none⟩ (.bool yg)).setCell ⟨g, j * 3, none⟩ (.string xk)).setCell ⟨g, j * 3 + 1, none⟩ (.string xv)).setCell ⟨g, j * 3 + 2, none⟩ (.bool xg)).drew) B (.slice (some ⟨g, 0, none⟩) N c) (sw L i j) ∧
      Below B w (((((((w.setCell ⟨g, i * 3, none⟩ (.string yk)).setCell ⟨g, i * 3 + 1, none⟩ (.string yv)).setCell ⟨g, i * 3 + 2, none⟩ (.bool yg)).setCell ⟨g, j * 3, none⟩ (.string xk)).setCell ⟨g, j * 3 + 1, none⟩ (.string xv)).setCell ⟨g, j * 3 + 2, none⟩ (.bool xg)).drew)) := by
  unfold OwnChs at h
  rw [hN] at h
  have hlen := chgCells_len L
  have p := chg_cells h (by omega : i < L.length)
  have q := chg_cells h (by omega : j < L.length)
  rw [hx] at p
  rw [hy] at q
  have hlt := (h.lt g rfl)
  have s1 := h.stored (i * 3) (.string yk)
  have s2 := s1.1.stored (i * 3 + 1) (.string yv)
  have s3 := s2.1.stored (i * 3 + 2) (.bool yg)
  have s4 := s3.1.stored (j * 3) (.string xk)
  have s5 := s4.1.stored (j * 3 + 1) (.string xv)
  have s6 := s5.1.stored (j * 3 + 2) (.bool xg)
  refine ⟨p, q, ⟨h.frozenAt _, h.frozenAt _, h.frozenAt _⟩, ⟨⟨_, (s3.1.cellAt (j * 3) (by omega)).trans (List.getElem?_eq_getElem (by simp only [List.length_set]; omega))⟩, ⟨_, (s4.1.cellAt (j * 3 + 1) (by omega)).trans (List.getElem?_eq_getElem (by simp only [List.length_set]; omega))⟩, ⟨_, (s5.1.cellAt (j * 3 + 2) (by omega)).trans (List.getElem?_eq_getElem (by simp only [List.length_set]; omega))⟩⟩, ⟨s3.1.frozenAt _, s4.1.frozenAt _, s5.1.frozenAt _⟩, ?_, ?_⟩
  · have ho : OwnChs ((((((w.setCell ⟨g, i * 3, none⟩ (.string yk)).setCell ⟨g, i * 3 + 1, none⟩ (.string yv)).setCell ⟨g, i * 3 + 2, none⟩ (.bool yg)).setCell ⟨g, j * 3, none⟩ (.string xk)).setCell ⟨g, j * 3 + 1, none⟩ (.string xv)).setCell ⟨g, j * 3 + 2, none⟩ (.bool xg)) B (.slice (some ⟨g, 0, none⟩) N c) (sw L i j) := by
      unfold OwnChs
      rw [sw_len, hN]
      unfold sw
      rw [chgCells_set, chgCells_set, hx, hy]
      exact s6.1
    exact ho.below ((Below.refl _ _).drew)
  · exact ((((((((Below.refl B w).setCell hlt.1 _).setCell hlt.1 _).setCell hlt.1 _).setCell hlt.1 _).setCell hlt.1 _).setCell hlt.1 _).drew)
/-- so many changes from two places on change places, one after another -/
def swN (L : List Chg) (a b : Nat) : Nat → List Chg
  | 0 => L
  | i + 1 => sw (swN L a b i) (a + i) (b + i)
theorem swN_len (L : List Chg) (a b : Nat) : ∀ i, (swN L a b i).length = L.length
  | 0 => rfl
  | i + 1 => by simp [swN, sw_len, swN_len L a b i]
set_option maxRecDepth 100000 in
set_option maxHeartbeats 3200000 in
theorem swapRange_any (v cmp : Value) (B N a b n : Nat) (L : List Chg) (w : World) (h : OwnChs w B v L) (hN : L.length = N) (ha : a + n ≤ N) (hb : b + n ≤ N) :
    Calls Try.prog 113 #[v, .int .i64 (a : Int), .int .i64 (b : Int), .int .i64 (n : Int), cmp] w fun e w' => e = .returned (.tuple #[]) ∧ OwnChs w' B v (swN L a b n) ∧ Below B w w' := by
  have H := Lib.hid h
  have hmx : N ≤ maxLen := by have h1 := h.1; obtain ⟨A, c, e, h2, h3, -⟩ := h.slice; omega
  unfold maxLen at hmx
  clear h
  go_enter Try.func113, Try.ntmps113
  go_wp2
  go_loopw [10] (fun iv wr => ∃ i : Nat, i ≤ n ∧ iv = .int .i64 (i : Int) ∧ OwnChs wr B v (swN L a b i) ∧ Below B w wr) (fun iv _ => n - (intOf iv).toNat)
  case atStart => exact ⟨0, by omega, rfl, H.out, Below.refl _ _⟩
  case round =>
    obtain ⟨i, hi, rfl, ho, hbl⟩ := hrel
    have Hb := Lib.hid hbl
    have Ho := Lib.hid ho
    clear hbl ho H
    by_cases hlt : i < n
    · have hlen := swN_len L a b i
      obtain ⟨A, c, rfl, hlc, hcm, -⟩ := Ho.out.slice
      rw [hlen, hN] at Ho ⊢
      obtain ⟨g, rfl, hBg⟩ := own_head (m := N) (size := 3) (e := 38) (by have h1 := Ho.out; unfold OwnChs at h1; rw [hlen, hN] at h1; exact h1) (by omega)
      obtain ⟨⟨xk, xv, xg⟩, hx⟩ : ∃ x, gl (swN L a b i) (a + i) = x := ⟨_, rfl⟩
      obtain ⟨⟨yk, yv, yg⟩, hy⟩ : ∃ x, gl (swN L a b i) (b + i) = x := ⟨_, rfl⟩
      obtain ⟨⟨p0, p1, p2⟩, ⟨q0, q1, q2⟩, ⟨f0, f1, f2⟩, ⟨⟨u0, e0⟩, ⟨u1, e1⟩, ⟨u2, e2⟩⟩, ⟨d0, d1, d2⟩, hown, hbel⟩ := swap_row Ho.out (hlen.trans hN) (by omega) (by omega) hx hy
      have Hend := Lib.hid (And.intro hown (Hb.out.trans hbel))
      have ha0 : (0 : Int) ≤ ((a + i : Nat) : Int) := by omega
      have ha1 : ((a + i : Nat) : Int) < (N : Int) := by omega
      have hb0 : (0 : Int) ≤ ((b + i : Nat) : Int) := by omega
      have hb1 : ((b + i : Nat) : Int) < (N : Int) := by omega
      have hn63 : n < 9223372036854775808 := by omega
      clear hown hbel hx hy hlen Ho hcm hlc
      go_wp2
      go_region
      go_wp2
      go_roundw
      case rel => exact ⟨i + 1, by omega, by go_num, Hend.out.1, Hend.out.2⟩
      case measure => simp [intOf]; omega
    · obtain rfl : i = n := by omega
      go_wp2
      go_end0
      exact ⟨rfl, Ho.out, Hb.out⟩
end Go.Proofs.Ytfmjjjfeooaeeaa

namespace Go.Proofs.Ytfmjjjfeooaeeaa
open Go.RowKit
open Go.Lib (strCells compareBytes)

theorem sw_two (P : List Chg) (x : Chg) (M : List Chg) (y : Chg) (Q : List Chg) : sw (P ++ x :: (M ++ y :: Q)) P.length (P.length + 1 + M.length) = P ++ y :: (M ++ x :: Q) := by
  have h1 : gl (P ++ x :: (M ++ y :: Q)) P.length = x := by simp [gl]
  have h2 : gl (P ++ x :: (M ++ y :: Q)) (P.length + 1 + M.length) = y := by
    unfold gl
    rw [List.getElem?_append_right (by omega), show P.length + 1 + M.length - P.length = M.length + 1 from by omega]
    simp
  unfold sw
  rw [h1, h2, List.set_append_right _ _ (Nat.le_refl _), Nat.sub_self, List.set_cons_zero, List.set_append_right _ _ (by omega), show P.length + 1 + M.length - P.length = M.length + 1 from by omega, List.set_cons_succ, List.set_append_right _ _ (Nat.le_refl _), Nat.sub_self, List.set_cons_zero]
theorem swN_left (a b : Nat) : ∀ (n : Nat) (L : List Chg), swN L a b (n + 1) = swN (sw L a b) (a + 1) (b + 1) n
  | 0, L => rfl
  | n + 1, L => by
    rw [swN, swN_left a b n L]
    show _ = sw (swN (sw L a b) (a + 1) (b + 1) n) (a + 1 + n) (b + 1 + n)
    rw [show a + (n + 1) = a + 1 + n from by omega, show b + (n + 1) = b + 1 + n from by omega]
theorem swN_app : ∀ (X Y P M Q : List Chg) (a b n : Nat), X.length = n → Y.length = n → a = P.length → b = P.length + n + M.length → swN (P ++ (X ++ (M ++ (Y ++ Q)))) a b n = P ++ (Y ++ (M ++ (X ++ Q)))
  | [], [], P, M, Q, a, b, n, hX, hY, ha, hb => by
    simp at hX
    subst hX
    simp [swN]
  | x :: X, [], _, _, _, _, _, n, hX, hY, _, _ => by simp at hX hY; omega
  | [], y :: Y, _, _, _, _, _, n, hX, hY, _, _ => by simp at hX hY; omega
  | x :: X, y :: Y, P, M, Q, a, b, n, hX, hY, ha, hb => by
    subst ha
    obtain ⟨n', rfl⟩ : ∃ n', n = n' + 1 := ⟨n - 1, by simp at hX; omega⟩
    simp only [List.length_cons, Nat.add_right_cancel_iff] at hX hY
    have h1 := sw_two P x (X ++ M) y (Y ++ Q)
    have e1 : P ++ x :: ((X ++ M) ++ y :: (Y ++ Q)) = P ++ ((x :: X) ++ (M ++ ((y :: Y) ++ Q))) := by simp
    rw [e1, show P.length + 1 + (X ++ M).length = b from by rw [List.length_append]; omega] at h1
    have e2 : P ++ y :: ((X ++ M) ++ x :: (Y ++ Q)) = (P ++ [y]) ++ (X ++ ((M ++ [x]) ++ (Y ++ Q))) := by simp
    rw [swN_left, h1, e2, swN_app X Y (P ++ [y]) (M ++ [x]) Q _ _ n' hX hY (by simp) (by simp; omega)]
    simp
/-- the list is cut at two places into four: what is rotated, and what is left so far to do -/
def RotI (T L : List Chg) (m i j : Nat) : Prop := ∃ P X Y Q : List Chg, L = P ++ (X ++ (Y ++ Q)) ∧ T = P ++ (Y ++ (X ++ Q)) ∧ P.length + i = m ∧ X.length = i ∧ Y.length = j
theorem RotI.more {T L : List Chg} {m i j : Nat} (h : RotI T L m i j) (hij : j < i) : RotI T (swN L (m - i) m j) m (i - j) j := by
  obtain ⟨P, X, Y, Q, rfl, rfl, hP, hX, hY⟩ := h
  have hx : X = X.take j ++ X.drop j := (List.take_append_drop _ _).symm
  have hl : (X.take j).length = j := by rw [List.length_take]; omega
  have h1 := swN_app (X.take j) Y P (X.drop j) Q (m - i) m j hl hY (by omega) (by rw [List.length_drop]; omega)
  have e : P ++ (X ++ (Y ++ Q)) = P ++ (X.take j ++ (X.drop j ++ (Y ++ Q))) := by rw [← List.append_assoc (X.take j), List.take_append_drop]
  rw [e, h1]
  refine ⟨P ++ Y, X.drop j, X.take j, Q, by simp, ?_, by rw [List.length_append]; omega, by rw [List.length_drop]; omega, hl⟩
  rw [List.append_assoc, ← List.append_assoc (X.take j), List.take_append_drop]
theorem RotI.less {T L : List Chg} {m i j : Nat} (h : RotI T L m i j) (hij : i < j) : RotI T (swN L (m - i) (m + j - i) i) m i (j - i) := by
  obtain ⟨P, X, Y, Q, rfl, rfl, hP, hX, hY⟩ := h
  have hy : Y = Y.take (j - i) ++ Y.drop (j - i) := (List.take_append_drop _ _).symm
  have hl : (Y.drop (j - i)).length = i := by rw [List.length_drop]; omega
  have h1 := swN_app X (Y.drop (j - i)) P (Y.take (j - i)) Q (m - i) (m + j - i) i hX hl (by omega) (by rw [List.length_take]; omega)
  have e : P ++ (X ++ (Y ++ Q)) = P ++ (X ++ (Y.take (j - i) ++ (Y.drop (j - i) ++ Q))) := by rw [← List.append_assoc (Y.take (j - i)), List.take_append_drop]
  rw [e, h1]
  refine ⟨P, Y.drop (j - i), Y.take (j - i), X ++ Q, rfl, ?_, hP, hl, by rw [List.length_take]; omega⟩
  rw [← List.append_assoc (Y.take (j - i)), List.take_append_drop]
theorem RotI.done {T L : List Chg} {m i : Nat} (h : RotI T L m i i) : swN L (m - i) m i = T := by
  obtain ⟨P, X, Y, Q, rfl, rfl, hP, hX, hY⟩ := h
  exact swN_app X Y P [] Q (m - i) m i hX hY (by omega) (by simp; omega)
theorem RotI.len {T L : List Chg} {m i j : Nat} (h : RotI T L m i j) : i ≤ m ∧ m + j ≤ L.length ∧ T.length = L.length := by
  obtain ⟨P, X, Y, Q, rfl, rfl, hP, hX, hY⟩ := h
  simp only [List.length_append]
  omega
set_option maxRecDepth 100000 in
set_option maxHeartbeats 3200000 in
theorem rotate_any (v cmp : Value) (B a m b : Nat) (P X Y Q : List Chg) (w : World) (h : OwnChs w B v (P ++ (X ++ (Y ++ Q)))) (hP : P.length = a) (hX : a + X.length = m) (hY : m + Y.length = b) (hx : 0 < X.length) (hy : 0 < Y.length) :
    Calls Try.prog 109 #[v, .int .i64 (a : Int), .int .i64 (m : Int), .int .i64 (b : Int), cmp] w fun e w' => e = .returned (.tuple #[]) ∧ OwnChs w' B v (P ++ (Y ++ (X ++ Q))) ∧ Below B w w' := by
  have H := Lib.hid h
  obtain ⟨T, hT⟩ : ∃ T, P ++ (Y ++ (X ++ Q)) = T := ⟨_, rfl⟩
  obtain ⟨L, hL⟩ : ∃ L, P ++ (X ++ (Y ++ Q)) = L := ⟨_, rfl⟩
  have hR : Hid (RotI T L m (m - a) (b - m)) := Lib.hid ⟨P, X, Y, Q, hL.symm, hT.symm, by omega, by omega, by omega⟩
  rw [hL] at H
  rw [hT]
  have hmx : L.length ≤ maxLen := by obtain ⟨A, c, e, h2, h3, -⟩ := H.out.slice; omega
  unfold maxLen at hmx
  have hmb : m < b := by omega
  have ham : a < m := by omega
  have hbL : b ≤ L.length := by rw [← hL]; simp only [List.length_append]; omega
  clear h hT hP hX hY hx hy hL
  go_enter Try.func109, Try.ntmps109
  go_wp2
  go_loopw [10, 11] (fun iv jv wr => ∃ (i j : Nat) (L' : List Chg), iv = .int .i64 (i : Int) ∧ jv = .int .i64 (j : Int) ∧ 0 < i ∧ 0 < j ∧ L'.length = L.length ∧ Hid (RotI T L' m i j) ∧ OwnChs wr B v L' ∧ Below B w wr) (fun iv jv _ => (intOf iv).toNat + (intOf jv).toNat)
  case atStart => exact ⟨m - a, b - m, L, by go_num, by go_num, by omega, by omega, rfl, hR, H.out, Below.refl _ _⟩
  case round =>
    obtain ⟨i, j, L', rfl, rfl, hi, hj, hlen, hI, ho, hbl⟩ := hrel
    have Hb := Lib.hid hbl
    have Ho := Lib.hid ho
    obtain ⟨hl1, hl2, -⟩ := hI.out.len
    clear hbl ho H hR
    by_cases hij : i = j
    · subst hij
      have Hs := Lib.hid (fun wx (hx : OwnChs wx B v L') => swapRange_any v cmp B L'.length (m - i) m i L' wx hx rfl (by omega) (by omega))
      rw [hI.out.done, show ((m - i : Nat) : Int) = (m : Int) - (i : Int) from by omega] at Hs
      go_wp2_with fail
      refine (Hs.out _ Ho.out).mono ?_
      rintro e wz ⟨rfl, ho', hb'⟩
      have Hz := Lib.hid (And.intro ho' (Hb.out.trans hb'))
      clear ho' hb'
      go_wp2
      go_end0
      exact ⟨rfl, Hz.out.1, Hz.out.2⟩
    · by_cases hlt : j < i
      · have Hs := Lib.hid (fun wx (hx : OwnChs wx B v L') => swapRange_any v cmp B L'.length (m - i) m j L' wx hx rfl (by omega) (by omega))
        rw [show ((m - i : Nat) : Int) = (m : Int) - (i : Int) from by omega] at Hs
        have HI := Lib.hid (hI.out.more hlt)
        have hne : ¬ ((i : Int) = (j : Int)) := by omega
        go_wp2_with fail
        refine (Hs.out _ Ho.out).mono ?_
        rintro e wz ⟨rfl, ho', hb'⟩
        have Hz := Lib.hid (And.intro ho' (Hb.out.trans hb'))
        clear ho' hb'
        go_wp2
        go_roundw
        case rel => exact ⟨i - j, j, _, by go_num, rfl, by omega, by omega, by rw [swN_len]; omega, HI, Hz.out.1, Hz.out.2⟩
        case measure => simp [intOf]; omega
      · have Hs := Lib.hid (fun wx (hx : OwnChs wx B v L') => swapRange_any v cmp B L'.length (m - i) (m + j - i) i L' wx hx rfl (by omega) (by omega))
        rw [show ((m - i : Nat) : Int) = (m : Int) - (i : Int) from by omega, show ((m + j - i : Nat) : Int) = (m : Int) + (j : Int) - (i : Int) from by omega] at Hs
        have HI := Lib.hid (hI.out.less (by omega))
        have hne : ¬ ((i : Int) = (j : Int)) := by omega
        go_wp2_with fail
        refine (Hs.out _ Ho.out).mono ?_
        rintro e wz ⟨rfl, ho', hb'⟩
        have Hz := Lib.hid (And.intro ho' (Hb.out.trans hb'))
        clear ho' hb'
        go_wp2
        go_roundw
        case rel => exact ⟨i, j - i, _, rfl, by go_num, by omega, by omega, by rw [swN_len]; omega, HI, Hz.out.1, Hz.out.2⟩
        case measure => simp [intOf]; omega
end Go.Proofs.Ytfmjjjfeooaeeaa

namespace Go.Proofs.Ytfmjjjfeooaeeaa

theorem lt_leB {y q r : List UInt8} (h : ¬ q < y) (h2 : q < r) : y < r := by
  rcases lt_tri y q with h3 | h3 | h3
  · exact List.lt_trans h3 h2
  · exact h3 ▸ h2
  · exact absurd h3 h
theorem lt_leC {q r x : List UInt8} (h : q < r) (h2 : ¬ x < r) : q < x := by
  rcases lt_tri x r with h3 | h3 | h3
  · exact absurd h3 h2
  · exact h3 ▸ h
  · exact List.lt_trans h h3
theorem le_leB {x y z : List UInt8} (h : ¬ y < x) (h2 : ¬ z < y) : ¬ z < x := fun h3 => h2 (lt_leC h3 h)
/-- two sorted pieces, put together -/
def Mrg (X Y Z : List Chg) : Prop := Sle Z ∧ Z.length = X.length + Y.length ∧ ∀ k, Z.filter (fun c => decide (c.kb = k)) = X.filter (fun c => decide (c.kb = k)) ++ Y.filter fun c => decide (c.kb = k)
theorem Mrg.mem {X Y Z : List Chg} (h : Mrg X Y Z) {c : Chg} : c ∈ Z ↔ c ∈ X ∨ c ∈ Y := by
  have e : ∀ L : List Chg, c ∈ L ↔ c ∈ L.filter fun d => decide (d.kb = c.kb) := fun L => by simp [List.mem_filter]
  rw [e Z, h.2.2, List.mem_append, ← e, ← e]
theorem mrg_app {X Y : List Chg} (hx : Sle X) (hy : Sle Y) (h : ∀ x ∈ X, ∀ y ∈ Y, ¬ y.kb < x.kb) : Mrg X Y (X ++ Y) :=
  ⟨List.pairwise_append.2 ⟨hx, hy, h⟩, by simp, fun k => by rw [List.filter_append]⟩
theorem mrg_cut {X1 X2 Y1 Y2 Z1 Z2 : List Chg} (hX : Sle (X1 ++ X2)) (hY : Sle (Y1 ++ Y2)) (hs : ∀ y ∈ Y1, ∀ x ∈ X2, y.kb < x.kb) (hw : ∀ x ∈ X1, ∀ y ∈ Y2, ¬ y.kb < x.kb) (h1 : Mrg X1 Y1 Z1) (h2 : Mrg X2 Y2 Z2) :
    Mrg (X1 ++ X2) (Y1 ++ Y2) (Z1 ++ Z2) := by
  refine ⟨List.pairwise_append.2 ⟨h1.1, h2.1, fun a ha b hb => ?_⟩, by simp only [List.length_append, h1.2.1, h2.2.1]; omega, fun k => ?_⟩
  · rcases h1.mem.1 ha with ha | ha <;> rcases h2.mem.1 hb with hb | hb
    · exact (List.pairwise_append.1 hX).2.2 a ha b hb
    · exact hw a ha b hb
    · exact lt_asymm' (hs a ha b hb)
    · exact (List.pairwise_append.1 hY).2.2 a ha b hb
  · simp only [List.filter_append, h1.2.2, h2.2.2]
    by_cases e : Y1.filter (fun c => decide (c.kb = k)) = []
    · simp [e]
    · have e2 : X2.filter (fun c => decide (c.kb = k)) = [] := by
        obtain ⟨y, hy⟩ := List.exists_mem_of_ne_nil _ e
        obtain ⟨hy1, hy2⟩ := List.mem_filter.1 hy
        refine List.filter_eq_nil_iff.2 fun x hx hk => ?_
        have h3 := hs y hy1 x hx
        have e1 : y.kb = k := by simpa using hy2
        have e3 : x.kb = k := by simpa using hk
        rw [e1, e3] at h3
        exact lt_irr _ h3
      simp [e2]
theorem sle_gl {Y : List Chg} (h : Sle Y) {s t : Nat} (hst : s ≤ t) (ht : t < Y.length) : ¬ (gl Y t).kb < (gl Y s).kb := by
  by_cases e : s = t
  · subst e; exact lt_irr _
  · have h1 := List.pairwise_iff_getElem.1 h s t (by omega) ht (by omega)
    unfold gl
    rw [List.getElem?_eq_getElem ht, List.getElem?_eq_getElem (by omega)]
    exact h1
theorem take_gl {Y : List Chg} {e : Nat} {y : Chg} (h : y ∈ Y.take e) : ∃ t, t < e ∧ t < Y.length ∧ gl Y t = y := by
  obtain ⟨t, ht, e1⟩ := List.getElem_of_mem h
  rw [List.length_take] at ht
  refine ⟨t, by omega, by omega, ?_⟩
  rw [List.getElem_take] at e1
  simp [gl, List.getElem?_eq_getElem (show t < Y.length by omega), e1]
theorem drop_gl {Y : List Chg} {e : Nat} {y : Chg} (h : y ∈ Y.drop e) : ∃ t, e ≤ t ∧ t < Y.length ∧ gl Y t = y := by
  obtain ⟨t, ht, e1⟩ := List.getElem_of_mem h
  rw [List.length_drop] at ht
  refine ⟨e + t, by omega, by omega, ?_⟩
  rw [List.getElem_drop] at e1
  simp [gl, List.getElem?_eq_getElem (show e + t < Y.length by omega), e1]
/-- where two sorted pieces are cut: what is behind the one cut is greater than what is ahead of the other -/
theorem cut_of {X Y : List Chg} {s e : Nat} (hX : Sle X) (hY : Sle Y) (he : e ≤ Y.length) (hs : s ≤ X.length) (h1 : e = 0 ∨ s = X.length ∨ (gl Y (e - 1)).kb < (gl X s).kb) (h2 : s = 0 ∨ e = Y.length ∨ ¬ (gl Y e).kb < (gl X (s - 1)).kb) :
    (∀ y ∈ Y.take e, ∀ x ∈ X.drop s, y.kb < x.kb) ∧ ∀ x ∈ X.take s, ∀ y ∈ Y.drop e, ¬ y.kb < x.kb := by
  constructor
  · intro y hy x hx
    obtain ⟨t, ht, ht2, rfl⟩ := take_gl hy
    obtain ⟨u, hu, hu2, rfl⟩ := drop_gl hx
    rcases h1 with h1 | h1 | h1
    · omega
    · omega
    · exact lt_leB (sle_gl hY (by omega : t ≤ e - 1) (by omega)) (lt_leC h1 (sle_gl hX hu hu2))
  · intro x hx y hy
    obtain ⟨t, ht, ht2, rfl⟩ := take_gl hx
    obtain ⟨u, hu, hu2, rfl⟩ := drop_gl hy
    rcases h2 with h2 | h2 | h2
    · omega
    · omega
    · exact le_leB (sle_gl hX (by omega : t ≤ s - 1) (by omega)) (le_leB h2 (sle_gl hY hu hu2))
/-- two sorted pieces, cut so, and put together on both sides -/
theorem mrg_of {X Y Z1 Z2 : List Chg} {s e : Nat} (hX : Sle X) (hY : Sle Y) (he : e ≤ Y.length) (hs : s ≤ X.length) (h1 : e = 0 ∨ s = X.length ∨ (gl Y (e - 1)).kb < (gl X s).kb) (h2 : s = 0 ∨ e = Y.length ∨ ¬ (gl Y e).kb < (gl X (s - 1)).kb)
    (m1 : Mrg (X.take s) (Y.take e) Z1) (m2 : Mrg (X.drop s) (Y.drop e) Z2) : Mrg X Y (Z1 ++ Z2) := by
  obtain ⟨c1, c2⟩ := cut_of hX hY he hs h1 h2
  have := mrg_cut (X1 := X.take s) (X2 := X.drop s) (Y1 := Y.take e) (Y2 := Y.drop e) (by rwa [List.take_append_drop]) (by rwa [List.take_append_drop]) c1 c2 m1 m2
  rwa [List.take_append_drop, List.take_append_drop] at this
theorem Sle.take {X : List Chg} (h : Sle X) (s : Nat) : Sle (X.take s) := List.Pairwise.sublist (List.take_sublist _ _) h
theorem Sle.drop {X : List Chg} (h : Sle X) (s : Nat) : Sle (X.drop s) := List.Pairwise.sublist (List.drop_sublist _ _) h
theorem mrg_nilL {Y : List Chg} (h : Sle Y) : Mrg [] Y Y := ⟨h, by simp, fun k => by simp⟩
theorem mrg_nilR {X : List Chg} (h : Sle X) : Mrg X [] X := ⟨h, by simp, fun k => by simp⟩
theorem gl_at (P X R : List Chg) {t : Nat} (h : t < X.length) : gl (P ++ (X ++ R)) (P.length + t) = gl X t := by
  unfold gl
  rw [List.getElem?_append_right (by omega), Nat.add_sub_cancel_left, List.getElem?_append_left h]
theorem gl_at2 (P X Y R : List Chg) {t : Nat} (h : t < Y.length) : gl (P ++ (X ++ (Y ++ R))) (P.length + X.length + t) = gl Y t := by
  have := gl_at (P ++ X) Y R h
  rwa [List.length_append, List.append_assoc] at this
end Go.Proofs.Ytfmjjjfeooaeeaa

namespace Go.Proofs.Ytfmjjjfeooaeeaa
open Go.RowKit
open Go.Lib (strCells compareBytes)

theorem cmpK_of {a b : Chg} : (a.kb < b.kb ∧ cmpK a b = -1) ∨ (a.kb = b.kb ∧ cmpK a b = 0) ∨ (b.kb < a.kb ∧ cmpK a b = 1) := by
  unfold cmpK
  rcases cmpB_cases a.kb b.kb with h | h | h
  · refine .inl ⟨?_, h⟩
    have := bytesLess_cmp a.kb b.kb
    rw [bytesLess_lt, h] at this
    simpa using this
  · exact .inr (.inl ⟨cmpB_zero h, h⟩)
  · refine .inr (.inr ⟨?_, h⟩)
    have := bytesLess_cmp b.kb a.kb
    rw [bytesLess_lt, cmpB_neg, h] at this
    simpa using this
theorem take_lt {l : List Chg} {m : Nat} {y : Chg} {key : List UInt8} (hr : Run l) (hy : l[m]? = some y) (h : y.kb < key) : ∀ x ∈ l.take (m + 1), x.kb < key := by
  have hs := (hr.take (m + 1)).2
  rw [take_snocC hy] at hs ⊢
  intro x hx
  rcases List.mem_append.1 hx with hx | hx
  · exact List.lt_trans ((srt_snoc.1 hs).2 x hx) h
  · simp at hx; subst hx; exact h
theorem drop_ge {l : List Chg} {m : Nat} {y : Chg} {key : List UInt8} (hr : Run l) (hy : l[m]? = some y) (h : ¬ y.kb < key) : ∀ x ∈ l.drop m, ¬ x.kb < key := by
  have hm := (List.getElem?_eq_some_iff.1 hy).1
  have e : l.drop m = y :: l.drop (m + 1) := by
    rw [List.drop_eq_getElem_cons hm]
    rw [List.getElem?_eq_getElem hm] at hy
    injection hy with hy
    rw [hy]
  have hs := (hr.drop m).2
  rw [e] at hs ⊢
  intro x hx
  rcases List.mem_cons.1 hx with rfl | hx
  · exact h
  · exact fun h2 => h (List.lt_trans ((List.pairwise_cons.1 hs).1 x hx) h2)
theorem look_gap {l : List Chg} {i : Nat} {key : List UInt8} (hr : Run l) (h1 : ∀ x ∈ l.take i, x.kb < key) (h2 : ∀ x ∈ l.drop i, ¬ x.kb < key) (h3 : ∀ c, l[i]? = some c → c.kb ≠ key) : look key l = none := by
  refine look_none.2 fun c hc => ?_
  rw [← List.take_append_drop i l] at hc
  rcases List.mem_append.1 hc with hc | hc
  · intro e
    have := h1 c hc
    rw [e] at this
    exact lt_irr _ this
  · cases hi : l[i]? with
    | none =>
      rw [List.drop_of_length_le (by rw [List.getElem?_eq_none_iff] at hi; exact hi)] at hc
      simp at hc
    | some y =>
      have hm := (List.getElem?_eq_some_iff.1 hi).1
      have e : l.drop i = y :: l.drop (i + 1) := by
        rw [List.drop_eq_getElem_cons hm]
        rw [List.getElem?_eq_getElem hm] at hi
        injection hi with hi
        rw [hi]
      have hs := (hr.drop i).2
      rw [e] at hs hc h2
      have hy := h3 y hi
      have hylt : key < y.kb := by
        rcases lt_tri key y.kb with h | h | h
        · exact h
        · exact absurd h.symm hy
        · exact absurd h (h2 y (by simp))
      rcases List.mem_cons.1 hc with rfl | hc
      · exact hy
      · intro e2
        have := List.lt_trans hylt ((List.pairwise_cons.1 hs).1 c hc)
        rw [e2] at this
        exact lt_irr _ this
end Go.Proofs.Ytfmjjjfeooaeeaa

namespace Go.Proofs.Ytfmjjjfeooaeeaa
open Go.RowKit
open Go.Lib (strCells compareBytes)

theorem cmpK_neg {a b : Chg} : cmpK a b < 0 ↔ a.kb < b.kb := by
  rcases cmpK_of (a := a) (b := b) with ⟨h, e⟩ | ⟨h, e⟩ | ⟨h, e⟩
  · rw [e]; exact ⟨fun _ => h, fun _ => by decide⟩
  · rw [e, h]; exact ⟨fun h => absurd h (by decide), fun h => absurd h (lt_irr _)⟩
  · rw [e]; exact ⟨fun h => absurd h (by decide), fun h2 => absurd h2 (lt_asymm' h)⟩
theorem sw_two' (P : List Chg) (x : Chg) (M : List Chg) (y : Chg) (Q : List Chg) : sw (P ++ x :: (M ++ y :: Q)) (P.length + 1 + M.length) P.length = P ++ y :: (M ++ x :: Q) := by
  have h1 : gl (P ++ x :: (M ++ y :: Q)) P.length = x := by simp [gl]
  have h2 : gl (P ++ x :: (M ++ y :: Q)) (P.length + 1 + M.length) = y := by
    unfold gl
    rw [List.getElem?_append_right (by omega), show P.length + 1 + M.length - P.length = M.length + 1 from by omega]
    simp
  unfold sw
  rw [h1, h2, List.set_append_right _ _ (by omega), show P.length + 1 + M.length - P.length = M.length + 1 from by omega, List.set_cons_succ, List.set_append_right _ _ (Nat.le_refl _), Nat.sub_self, List.set_cons_zero, List.set_append_right _ _ (Nat.le_refl _), Nat.sub_self, List.set_cons_zero]
/-- a change among others: so many are ahead of it -/
def mv (P : List Chg) (x : Chg) (Y Q : List Chg) (t : Nat) : List Chg := P ++ (Y.take t ++ x :: (Y.drop t ++ Q))
theorem mv_len (P : List Chg) (x : Chg) (Y Q : List Chg) (t : Nat) : (mv P x Y Q t).length = P.length + 1 + Y.length + Q.length := by
  simp only [mv, List.length_append, List.length_cons, List.length_take, List.length_drop]
  omega
theorem drop_glC {Y : List Chg} {t : Nat} (h : t < Y.length) : Y.drop t = gl Y t :: Y.drop (t + 1) := by
  rw [List.drop_eq_getElem_cons h]
  simp [gl, List.getElem?_eq_getElem h]
theorem take_glC {Y : List Chg} {t : Nat} (h : t < Y.length) : Y.take (t + 1) = Y.take t ++ [gl Y t] := take_snocC (gl_get h)
theorem mv_up (P : List Chg) (x : Chg) (Y Q : List Chg) {t a : Nat} (h : t < Y.length) (ha : a = P.length + t) : sw (mv P x Y Q t) a (a + 1) = mv P x Y Q (t + 1) := by
  subst ha
  have h1 := sw_two (P ++ Y.take t) x [] (gl Y t) (Y.drop (t + 1) ++ Q)
  have hl : (P ++ Y.take t).length = P.length + t := by rw [List.length_append, List.length_take]; omega
  rw [hl] at h1
  unfold mv
  rw [drop_glC h, take_glC h]
  simpa using h1
theorem mv_down (P : List Chg) (x : Chg) (Y Q : List Chg) {t a : Nat} (h : t < Y.length) (ha : a = P.length + t) : sw (mv P x Y Q (t + 1)) (a + 1) a = mv P x Y Q t := by
  subst ha
  have h1 := sw_two' (P ++ Y.take t) (gl Y t) [] x (Y.drop (t + 1) ++ Q)
  have hl : (P ++ Y.take t).length = P.length + t := by rw [List.length_append, List.length_take]; omega
  rw [hl] at h1
  unfold mv
  rw [drop_glC h, take_glC h]
  simpa using h1
theorem two_at {w : World} {B N c g i j : Nat} {L : List Chg} {xk xv yk yv : ByteArray} {xg yg : Bool} (h : OwnChs w B (.slice (some ⟨g, 0, none⟩) N c) L) (hN : L.length = N) (hi : i < N) (hj : j < N) (hx : gl L i = ⟨xk, xv, xg⟩) (hy : gl L j = ⟨yk, yv, yg⟩) :
    ∀ wx, Below w.heap.size w wx → (wx.cell? ⟨g, i * 3, none⟩ = some (.string xk) ∧ wx.cell? ⟨g, i * 3 + 1, none⟩ = some (.string xv) ∧ wx.cell? ⟨g, i * 3 + 2, none⟩ = some (.bool xg) ∧ wx.cell? ⟨g, j * 3, none⟩ = some (.string yk) ∧ wx.cell? ⟨g, j * 3 + 1, none⟩ = some (.string yv) ∧ wx.cell? ⟨g, j * 3 + 2, none⟩ = some (.bool yg)) ∧ Below w.heap.size w wx := fun wx hb => by
  have h2 := h.below hb
  unfold OwnChs at h2
  rw [hN] at h2
  have p := chg_cells h2 (by omega : i < L.length)
  have q := chg_cells h2 (by omega : j < L.length)
  rw [hx] at p
  rw [hy] at q
  exact ⟨⟨p.1, p.2.1, p.2.2, q.1, q.2.1, q.2.2⟩, hb⟩
theorem own_atC {w : World} {B N : Nat} {v : Value} {L : List Chg} (h : OwnChs w B v L) (hN : L.length = N) (h0 : 0 < N) : ∃ g c, v = .slice (some ⟨g, 0, none⟩) N c ∧ B ≤ g ∧ N ≤ maxLen := by
  obtain ⟨A, c, rfl, hlc, hcm, -⟩ := h.slice
  unfold OwnChs at h
  rw [hN] at h hlc ⊢
  obtain ⟨g, rfl, hBg⟩ := own_head h h0
  exact ⟨g, c, rfl, hBg, by omega⟩
theorem half_int (i j m : Nat) (h : (i + j) / 2 = m) : ((i : Int) + (j : Int)) / 2 = (m : Int) := by omega
theorem own_ge {w : World} {B N : Nat} {v : Value} {L : List Chg} (h : OwnChs w B v L) (hN : L.length = N) (h0 : 0 < N) : B ≤ w.heap.size := by
  obtain ⟨g, c, rfl, hb, -⟩ := own_atC h hN h0
  have := h.lt g rfl
  omega

set_option maxRecDepth 100000 in
set_option maxHeartbeats 6400000 in
theorem sym_one (v : Value) (B a m b N : Nat) (P Y Q : List Chg) (x : Chg) (w : World) (h : OwnChs w B v (P ++ ([x] ++ (Y ++ Q)))) (hN : (P ++ ([x] ++ (Y ++ Q))).length = N) (hP : P.length = a) (hX : a + 1 = m) (hY : m + Y.length = b) (hsY : Sle Y) (hNs : N ≤ 1000000) :
    Calls Try.prog 99 #[v, .int .i64 (a : Int), .int .i64 (m : Int), .int .i64 (b : Int), .func (.func 48) #[] #[]] w fun e w' => e = .returned (.tuple #[]) ∧ (∃ Z, Mrg [x] Y Z ∧ OwnChs w' B v (P ++ (Z ++ Q))) ∧ Below B w w' := by
  have Hw := Lib.hid (And.intro h (Below.refl B w))
  have HN := Lib.hid hN
  have hbN : b ≤ N := by rw [← hN]; simp only [List.length_append, List.length_cons, List.length_nil]; omega
  have Hmv : Hid (∀ t, (mv P x Y Q t).length = N) := Lib.hid fun t => by rw [mv_len, ← hN]; simp only [List.length_append, List.length_cons, List.length_nil]; omega
  have HL0 : Hid (P ++ ([x] ++ (Y ++ Q)) = mv P x Y Q 0) := Lib.hid (by simp [mv])
  have Hga : Hid (gl (P ++ ([x] ++ (Y ++ Q))) a = x) := Lib.hid (by rw [← hP]; simp [gl])
  have Hgy : Hid (∀ t, t < Y.length → gl (P ++ ([x] ++ (Y ++ Q))) (m + t) = gl Y t) := Lib.hid (fun t ht => by rw [← hX, ← hP]; exact gl_at2 P [x] Y Q ht)
  obtain ⟨L, hL⟩ : ∃ L, P ++ ([x] ++ (Y ++ Q)) = L := ⟨_, rfl⟩
  rw [hL] at Hw HN HL0 Hga Hgy
  have HsY := Lib.hid hsY
  have HP := Lib.hid hP
  have hma : (m : Int) - (a : Int) = 1 := by omega
  have ham : a < m := by omega
  have hmb : m ≤ b := by omega
  have HY := Lib.hid hY
  clear h hN hsY hP hY hX hL
  go_enter Try.func99, Try.ntmps99
  go_wp2
  go_loopw [10, 11, 12] (fun iv jv _ wr => ∃ i j : Nat, m ≤ i ∧ i ≤ j ∧ j ≤ b ∧ iv = .int .i64 (i : Int) ∧ jv = .int .i64 (j : Int) ∧ Hid ((i = m ∨ (gl L (i - 1)).kb < (gl L a).kb) ∧ (j = b ∨ ¬ (gl L j).kb < (gl L a).kb)) ∧ OwnChs wr B v L ∧ Below B w wr) (fun iv jv _ _ => (intOf jv - intOf iv).toNat)
  case atStart => exact ⟨_, _, Nat.le_refl _, hmb, Nat.le_refl _, rfl, rfl, Lib.hid ⟨.inl rfl, .inl rfl⟩, Hw.out.1, Hw.out.2⟩
  case round =>
    obtain ⟨i, j, hi0, hij, hj0, rfl, rfl, Hp, ho, hbl⟩ := hrel
    have Ho := Lib.hid ho
    have Hb := Lib.hid hbl
    clear ho hbl Hw
    by_cases hlt : i < j
    · obtain ⟨h, hh⟩ : ∃ h, (i + j) / 2 = h := ⟨_, rfl⟩
      have hmi := half_int i j h hh
      have hih : i ≤ h ∧ h < j := by omega
      clear hh
      obtain ⟨g, c, rfl, hBg, hNm⟩ := own_atC Ho.out HN.out (by omega)
      have hwr := own_ge Ho.out HN.out (by omega)
      obtain ⟨⟨xk, xv, xg⟩, hx⟩ : ∃ x, gl L h = x := ⟨_, rfl⟩
      obtain ⟨⟨yk, yv, yg⟩, hy⟩ : ∃ x, gl L a = x := ⟨_, rfl⟩
      have Hk := Lib.hid (two_at Ho.out HN.out (by omega) (by omega) hx hy)
      have Hz := Lib.hid (cmpK_neg (a := gl L h) (b := gl L a))
      have Hcall := Lib.hid (fun wx => byKey_any ⟨xk, xv, xg⟩ ⟨yk, yv, yg⟩ wx)
      unfold cagg at Hcall
      rw [hx, hy] at Hz
      obtain ⟨z, hz⟩ : ∃ z, cmpK ⟨xk, xv, xg⟩ ⟨yk, yv, yg⟩ = z := ⟨_, rfl⟩
      rw [hz] at Hcall Hz
      rw [← hx, ← hy] at Hz
      simp only at Hcall
      have hn0 : (0 : Int) ≤ ((h : Nat) : Int) := by omega
      have hn1 : ((h : Nat) : Int) < (N : Int) := by omega
      have hn2 : (0 : Int) ≤ ((a : Nat) : Int) := by omega
      have hn3 : ((a : Nat) : Int) < (N : Int) := by omega
      clear hx hy hz hNm
      by_cases hz : z < 0
      · go_wp2
        go_region_held3 (fun wx => (wx.cell? ⟨g, h * 3, none⟩ = some (.string xk) ∧ wx.cell? ⟨g, h * 3 + 1, none⟩ = some (.string xv) ∧ wx.cell? ⟨g, h * 3 + 2, none⟩ = some (.bool xg) ∧ wx.cell? ⟨g, a * 3, none⟩ = some (.string yk) ∧ wx.cell? ⟨g, a * 3 + 1, none⟩ = some (.string yv) ∧ wx.cell? ⟨g, a * 3 + 2, none⟩ = some (.bool yg)) ∧ Below wr.heap.size wr wx)
          (first | exact Hk.out _ (Below.refl _ _).drew | exact Hk.out _ (below_thn (And.right (by assumption)) hb2))
          (first | (go_at_call 48; refine (Hcall.out _).mono ?_; rintro e w2 ⟨rfl, hb2⟩))
        all_goals
          have hbz := And.right ‹(_ ∧ _) ∧ Below wr.heap.size wr w2›
          have Hend := Lib.hid (And.intro (Ho.out.below hbz) (Hb.out.trans (hbz.mono hwr)))
          clear hb2 hbz
          go_wp2
          go_roundw
          case rel => exact ⟨h + 1, j, by omega, by omega, by omega, by go_num, rfl, Lib.hid ⟨.inr (by rw [Nat.add_sub_cancel]; exact Hz.out.1 hz), Hp.out.2⟩, Hend.out.1, Hend.out.2⟩
          case measure => simp [intOf]; omega
      · go_wp2
        go_region_held3 (fun wx => (wx.cell? ⟨g, h * 3, none⟩ = some (.string xk) ∧ wx.cell? ⟨g, h * 3 + 1, none⟩ = some (.string xv) ∧ wx.cell? ⟨g, h * 3 + 2, none⟩ = some (.bool xg) ∧ wx.cell? ⟨g, a * 3, none⟩ = some (.string yk) ∧ wx.cell? ⟨g, a * 3 + 1, none⟩ = some (.string yv) ∧ wx.cell? ⟨g, a * 3 + 2, none⟩ = some (.bool yg)) ∧ Below wr.heap.size wr wx)
          (first | exact Hk.out _ (Below.refl _ _).drew | exact Hk.out _ (below_thn (And.right (by assumption)) hb2))
          (first | (go_at_call 48; refine (Hcall.out _).mono ?_; rintro e w2 ⟨rfl, hb2⟩))
        all_goals
          have hbz := And.right ‹(_ ∧ _) ∧ Below wr.heap.size wr w2›
          have Hend := Lib.hid (And.intro (Ho.out.below hbz) (Hb.out.trans (hbz.mono hwr)))
          clear hb2 hbz
          go_wp2
          go_roundw
          case rel => exact ⟨i, h, by omega, by omega, by omega, rfl, rfl, Lib.hid ⟨Hp.out.1, .inr (fun hq => by have := Hz.out.2 hq; omega)⟩, Hend.out.1, Hend.out.2⟩
          case measure => simp [intOf]; omega
    · obtain rfl : i = j := by omega
      clear hlt
      have HM : Hid (∀ e, m + e = i → e ≤ Y.length ∧ Mrg [x] Y (Y.take e ++ ([x] ++ Y.drop e))) := Lib.hid (fun e he => by
        have hl := HY.out
        have h1 : e = 0 ∨ (0 : Nat) = [x].length ∨ (gl Y (e - 1)).kb < (gl [x] 0).kb := by
          rcases Hp.out.1 with h1 | h1
          · exact .inl (by omega)
          · by_cases e0 : e = 0
            · exact .inl e0
            · have h2 := Hgy.out (e - 1) (by omega)
              rw [show m + (e - 1) = i - 1 from by omega] at h2
              rw [h2, Hga.out] at h1
              exact .inr (.inr (by simpa [gl] using h1))
        have h2 : (1 : Nat) = 0 ∨ e = Y.length ∨ ¬ (gl Y e).kb < (gl [x] (1 - 1)).kb := by
          rcases Hp.out.2 with h2 | h2
          · exact .inr (.inl (by omega))
          · by_cases e0 : e = Y.length
            · exact .inr (.inl e0)
            · have h3 := Hgy.out e (by omega)
              rw [he] at h3
              rw [h3, Hga.out] at h2
              exact .inr (.inr (by simpa [gl] using h2))
        have hsx : Sle [x] := List.pairwise_singleton _ _
        refine ⟨by omega, mrg_of (s := 0) hsx HsY.out (by omega) (by simp) h1 (.inl rfl) (mrg_nilL (HsY.out.take e)) ?_⟩
        refine mrg_app hsx (HsY.out.drop e) fun z hz y hy => ?_
        exact (cut_of (s := 1) hsx HsY.out (by omega) (by simp) (.inr (.inl rfl)) h2).2 z (by simpa using hz) y hy)
      clear Hp Hga Hgy HsY
      rw [HL0.out] at Ho
      go_wp2
      go_loopw [13] (fun kv wr => ∃ k t : Nat, k = a + t ∧ (t = 0 ∨ m + t ≤ i) ∧ kv = .int .i64 (k : Int) ∧ OwnChs wr B v (mv P x Y Q t) ∧ Below B w wr) (fun kv _ => i - (intOf kv).toNat)
      case atStart => exact ⟨a, 0, rfl, by omega, rfl, Ho.out, Hb.out⟩
      case round =>
        obtain ⟨k, t, hkt, ht, rfl, ho, hbl⟩ := hrel
        have Ho2 := Lib.hid ho
        have Hb2 := Lib.hid hbl
        clear ho hbl Ho Hb
        by_cases hlt : k + 1 < i
        · have htY : t < Y.length := by have := HY.out; omega
          have hlN := Hmv.out t
          obtain ⟨g, c, rfl, hBg, hNm⟩ := own_atC Ho2.out hlN (by omega)
          obtain ⟨⟨xk, xv, xg⟩, hx⟩ : ∃ x', gl (mv P x Y Q t) k = x' := ⟨_, rfl⟩
          obtain ⟨⟨yk, yv, yg⟩, hy⟩ : ∃ x', gl (mv P x Y Q t) (k + 1) = x' := ⟨_, rfl⟩
          obtain ⟨⟨p0, p1, p2⟩, ⟨q0, q1, q2⟩, ⟨f0, f1, f2⟩, ⟨⟨u0, e0⟩, ⟨u1, e1⟩, ⟨u2, e2⟩⟩, ⟨d0, d1, d2⟩, hown, hbel⟩ := swap_row Ho2.out hlN (by omega) (by omega) hx hy
          rw [mv_up P x Y Q htY (by rw [HP.out]; exact hkt)] at hown
          have Hend := Lib.hid (And.intro hown (Hb2.out.trans hbel))
          have ha0 : (0 : Int) ≤ (k : Int) := by omega
          have ha1 : (k : Int) < (N : Int) := by omega
          have hb0 : (0 : Int) ≤ ((k + 1 : Nat) : Int) := by omega
          have hb1 : ((k + 1 : Nat) : Int) < (N : Int) := by omega
          have Hkt := Lib.hid hkt
          clear hown hbel hx hy Ho2 hNm hlN hkt
          go_wp2
          go_region
          go_wp2
          go_roundw
          case rel => exact ⟨k + 1, t + 1, by have := Hkt.out; omega, by have := Hkt.out; omega, by go_num, Hend.out.1, Hend.out.2⟩
          case measure => simp [intOf]; omega
        · have Hz := Lib.hid ((HM.out t (by omega)).2)
          have HE : Hid (mv P x Y Q t = P ++ ((Y.take t ++ ([x] ++ Y.drop t)) ++ Q)) := Lib.hid (by simp [mv])
          rw [HE.out] at Ho2
          have hge : ¬ ((k : Int) < (i : Int) - 1) := by omega
          have Hkt := Lib.hid hkt
          clear hkt hlt ht
          go_wp2
          refine bodyPost_ret (results_none rfl _ _ _) rfl ?_
          exact ⟨rfl, ⟨_, Hz.out, Ho2.out⟩, Hb2.out⟩

end Go.Proofs.Ytfmjjjfeooaeeaa

namespace Go.Proofs.Ytfmjjjfeooaeeaa

/-- as many, and those of each key in their order -/
def SameF (X Y : List Chg) : Prop := X.length = Y.length ∧ ∀ k, X.filter (fun c => decide (c.kb = k)) = Y.filter fun c => decide (c.kb = k)
theorem SameF.refl (X : List Chg) : SameF X X := ⟨rfl, fun _ => rfl⟩
theorem SameF.trans {X Y Z : List Chg} (h : SameF X Y) (k : SameF Y Z) : SameF X Z := ⟨h.1.trans k.1, fun q => (h.2 q).trans (k.2 q)⟩
theorem SameF.app {X Y X' Y' : List Chg} (h : SameF X X') (k : SameF Y Y') : SameF (X ++ Y) (X' ++ Y') :=
  ⟨by rw [List.length_append, List.length_append, h.1, k.1], fun q => by rw [List.filter_append, List.filter_append, h.2, k.2]⟩
theorem Mrg.same {X Y Z : List Chg} (h : Mrg X Y Z) : SameF Z (X ++ Y) := ⟨by rw [h.2.1, List.length_append], fun k => by rw [h.2.2, List.filter_append]⟩
theorem sle_nil : Sle [] := List.Pairwise.nil
theorem lasts_same {l xs : List Chg} (h : Sle xs) (hf : SameF xs l) : lasts xs = makeL l := lasts_make h hf.2
/-- block p of so many -/
def blk (s p : Nat) (M : List Chg) : List Chg := (M.drop (p * s)).take s
theorem blk_lo {s p : Nat} {P R : List Chg} (h : p * s + s ≤ P.length) : blk s p (P ++ R) = blk s p P := by
  unfold blk
  rw [List.drop_append_of_le_length (by omega), List.take_append_of_le_length (by rw [List.length_drop]; omega)]
theorem blk_hi {s p : Nat} {P R : List Chg} (h : P.length ≤ p * s) : blk s p (P ++ R) = (R.drop (p * s - P.length)).take s := by
  unfold blk
  rw [List.drop_append, List.drop_of_length_le h, List.nil_append]
theorem blk_at {s p : Nat} {P R : List Chg} (h : P.length = p * s) : blk s p (P ++ R) = R.take s := by
  rw [blk_hi (by omega), h, Nat.sub_self, List.drop_zero]
theorem blk_far {s p : Nat} {M : List Chg} (h : M.length ≤ p * s) : blk s p M = [] := by
  unfold blk
  rw [List.drop_of_length_le h, List.take_nil]
def Bs (s q : Nat) (M : List Chg) : Prop := ∀ p, p < q → Sle (blk s p M)
def Bge (s r : Nat) (M : List Chg) : Prop := ∀ p, r ≤ p → Sle (blk s p M)
theorem mul_step {p q s : Nat} (h : p < q) : p * s + s ≤ q * s := by
  have := Nat.mul_le_mul_right s (Nat.succ_le_of_lt h)
  rw [Nat.succ_mul] at this
  exact this
/-- a row is cut at a block -/
theorem cut_blk (s q : Nat) (M : List Chg) : M = M.take (q * s) ++ (blk s q M ++ M.drop (q * s + s)) := by
  unfold blk
  have h := List.take_append_drop (q * s) M
  have h2 := List.take_append_drop s (M.drop (q * s))
  rw [List.drop_drop] at h2
  rw [h2, h]
theorem Bs.step {s q : Nat} {P D X Q : List Chg} (h : Bs s q (P ++ (D ++ Q))) (hP : P.length = q * s) (hX : Sle X) (hl : X.length = s) : Bs s (q + 1) (P ++ (X ++ Q)) := fun p hp => by
  by_cases e : p = q
  · subst e
    rw [blk_at hP, List.take_append_of_le_length (by omega), List.take_of_length_le (by omega)]
    exact hX
  · have hs := mul_step (p := p) (q := q) (s := s) (by omega)
    have := h p (by omega)
    rw [blk_lo (by omega)] at this ⊢
    exact this
theorem Bs.last {s q : Nat} {P D X : List Chg} (h : Bs s q (P ++ D)) (hP : P.length = q * s) (hX : Sle X) (hl : X.length ≤ s) : Bge s 0 (P ++ X) := fun p _ => by
  by_cases e : p = q
  · subst e
    rw [blk_at hP, List.take_of_length_le hl]
    exact hX
  · by_cases hlt : p < q
    · have hs := mul_step (p := p) (q := q) (s := s) hlt
      have := h p hlt
      rw [blk_lo (by omega)] at this ⊢
      exact this
    · have hs := mul_step (p := q) (q := p) (s := s) (by omega)
      rw [blk_far (by rw [List.length_append]; omega)]
      exact sle_nil
theorem Bge.drop {s r : Nat} {P P' R : List Chg} (h : Bge s r (P ++ R)) (hl : P'.length = P.length) (hP : P.length ≤ r * s) : Bge s r (P' ++ R) := fun p hp => by
  have hs : r * s ≤ p * s := Nat.mul_le_mul_right s hp
  have := h p hp
  rw [blk_hi (by omega)] at this ⊢
  rw [hl]
  exact this
/-- two blocks of s are one of 2 s -/
theorem two_blk (s q : Nat) : q * (2 * s) = 2 * q * s := by rw [← Nat.mul_assoc, Nat.mul_comm q 2]
theorem pair_step {s q : Nat} {P X Y Z Q : List Chg} (hP : P.length = q * (2 * s)) (hX : X.length = s) (hY : Y.length = s) (hz : Mrg X Y Z) (h : Bs (2 * s) q (P ++ (X ++ (Y ++ Q)))) (h2 : Bge s (2 * q) (P ++ (X ++ (Y ++ Q)))) :
    Bs (2 * s) (q + 1) (P ++ (Z ++ Q)) ∧ Bge s (2 * (q + 1)) (P ++ (Z ++ Q)) := by
  have hzl : Z.length = 2 * s := by rw [hz.2.1]; omega
  refine ⟨Bs.step (D := X ++ Y) (by rwa [List.append_assoc]) hP hz.1 hzl, ?_⟩
  have e := two_blk s q
  have e2 : 2 * (q + 1) * s = 2 * q * s + s + s := by rw [Nat.mul_add, Nat.add_mul]; omega
  have h3 : Bge s (2 * (q + 1)) (P ++ (X ++ (Y ++ Q))) := fun p hp => h2 p (by omega)
  have h4 := Bge.drop (P := P ++ X ++ Y) (P' := P ++ Z) (R := Q) (by rw [List.append_assoc, List.append_assoc]; exact h3) (by simp only [List.length_append]; omega) (by simp only [List.length_append]; omega)
  rwa [List.append_assoc] at h4
theorem pair_last {s q : Nat} {P X Y Z : List Chg} (hP : P.length = q * (2 * s)) (hX : X.length = s) (hY : Y.length ≤ s) (hz : Mrg X Y Z) (h : Bs (2 * s) q (P ++ (X ++ Y))) : Bge (2 * s) 0 (P ++ Z) :=
  Bs.last (D := X ++ Y) h hP hz.1 (by rw [hz.2.1]; omega)
theorem pair_none {s q : Nat} {P X : List Chg} (hP : P.length = q * (2 * s)) (hX : X.length ≤ s) (h : Bs (2 * s) q (P ++ X)) (h2 : Bge s (2 * q) (P ++ X)) : Bge (2 * s) 0 (P ++ X) := by
  have h3 := h2 (2 * q) (Nat.le_refl _)
  rw [blk_at (by rw [hP, two_blk]), List.take_of_length_le hX] at h3
  exact Bs.last h hP h3 (by omega)
theorem blk_all {s : Nat} {M : List Chg} (h : Bge s 0 M) (hl : M.length ≤ s) : Sle M := by
  have := h 0 (Nat.le_refl _)
  unfold blk at this
  rw [Nat.zero_mul, List.drop_zero, List.take_of_length_le hl] at this
  exact this
/-- one more is put in its place -/
theorem ins_same {X D : List Chg} {t : Nat} {x : Chg} {Z : List Chg} (hx : D[t]? = some x) (h : SameF X (D.take t)) (hz : Mrg X [x] Z) : SameF Z (D.take (t + 1)) := by
  rw [List.take_add_one, hx]
  exact hz.same.trans (h.app (SameF.refl _))
theorem pair_sle {s q : Nat} {P X Y Q : List Chg} (hP : P.length = q * (2 * s)) (hX : X.length = s) (hY : Y.length = s ∨ (Y.length ≤ s ∧ Q = [])) (h2 : Bge s (2 * q) (P ++ (X ++ (Y ++ Q)))) : Sle X ∧ Sle Y := by
  have e := two_blk s q
  constructor
  · have h := h2 (2 * q) (Nat.le_refl _)
    rw [blk_at (by rw [hP, e]), List.take_append_of_le_length (by omega), List.take_of_length_le (by omega)] at h
    exact h
  · have h := h2 (2 * q + 1) (by omega)
    rw [← List.append_assoc, blk_at (by rw [List.length_append, hP, hX, Nat.add_mul, e]; omega)] at h
    rcases hY with hY | ⟨hY, rfl⟩
    · rw [List.take_append_of_le_length (by omega), List.take_of_length_le (by omega)] at h
      exact h
    · rw [List.append_nil, List.take_of_length_le hY] at h
      exact h
theorem cut3 {M : List Chg} {a s : Nat} (h : a + s ≤ M.length) : ∃ P D Q, M = P ++ (D ++ Q) ∧ P.length = a ∧ D.length = s ∧ Q.length = M.length - a - s := by
  refine ⟨M.take a, (M.drop a).take s, (M.drop a).drop s, ?_, ?_, ?_, ?_⟩
  · rw [List.take_append_drop, List.take_append_drop]
  · rw [List.length_take]; omega
  · rw [List.length_take, List.length_drop]; omega
  · rw [List.length_drop, List.length_drop]
theorem cut4 {M : List Chg} {a s t : Nat} (h : a + s + t ≤ M.length) : ∃ P X Y Q, M = P ++ (X ++ (Y ++ Q)) ∧ P.length = a ∧ X.length = s ∧ Y.length = t ∧ Q.length = M.length - a - s - t := by
  obtain ⟨P, X, R, rfl, hP, hX, hR⟩ := cut3 (M := M) (a := a) (s := s) (by omega)
  refine ⟨P, X, R.take t, R.drop t, by rw [List.take_append_drop], hP, hX, by rw [List.length_take]; omega, by rw [List.length_drop]; omega⟩
theorem same_mid {P D Z Q L : List Chg} (h : SameF (P ++ (D ++ Q)) L) (hz : SameF Z D) : SameF (P ++ (Z ++ Q)) L :=
  ((SameF.refl P).app (hz.app (SameF.refl Q))).trans h
end Go.Proofs.Ytfmjjjfeooaeeaa

namespace Go.Proofs.Ytfmjjjfeooaeeaa
open Go.RowKit
open Go.Lib (strCells compareBytes)

theorem own_emptyC (w : World) (B : Nat) (hB : B ≤ w.heap.size) : (w.alloc (.cells #[] 38)).ownsRow B 38 3 (.slice (some ⟨w.heap.size, 0, none⟩) 0 0) 0 [] :=
  ⟨rfl, .inr ⟨w.heap.size, 0, #[], rfl, hB, heap_alloc_new w _, Nat.le_refl _, by simp [maxLen], rfl, rfl⟩⟩
set_option maxRecDepth 100000 in
/-- slices.Clone: a row of the call's own that holds what the row holds -/
theorem slicesClone_any (A : Option Addr) (n c C : Nat) (l : List Chg) (w : World) (h : HasChs w C A n l) (hn : n ≤ 1000000) (hC : C ≤ w.heap.size) :
    Calls Try.prog 46 #[.slice A n c] w (GivesC w.heap.size l w) := by
  have H := Lib.hid h
  have hl := h.1
  cases A with
  | none =>
    have hl0 : l = [] := by
      obtain ⟨h1, h2⟩ := h
      rcases Nat.eq_zero_or_pos n with h0 | h0
      · exact List.eq_nil_of_length_eq_zero (by omega)
      · obtain ⟨a, e, -⟩ := h2.all (by omega); cases e
    subst hl0
    have q := Lib.run_eql_slice_nil (P := Try.prog) w 22 38 none n c 0 0 Try.underlying22
    clear h hl
    go_enter Try.func46, Try.ntmps46
    go_wp2
    go_ret
    exact ⟨_, rfl, OwnChs.nil _ _, Below.refl _ _⟩
  | some a =>
    have q := Lib.run_eql_slice_nil (P := Try.prog) w 22 38 (some a) n c 0 0 Try.underlying22
    have Hl := Lib.hid hl
    clear h hl
    go_enter Try.func46, Try.ntmps46
    go_wp2_with (at_builtin; refine wpList_append_hasN rfl (.tmp 5) (.tmp 6) _ rfl 38 chg_elem (by omega) Try.underlying22 rfl (own_emptyC w w.heap.size (Nat.le_refl _)) rfl (H.out.2.alloc hC _) (chgCells_one _) (by simp only [maxLen]; omega) (by omega) (by simp) ?_; intro v1 w1 hown1 hg1 hz1; have Hb1 : Hid (Below w.heap.size w w1) := Lib.hid (below_ownN (below_box _) (own_emptyC w w.heap.size (Nat.le_refl _)) hg1 (by simp)); clear hg1 hz1)
    go_ret
    exact ⟨_, rfl, by unfold OwnChs; rw [Hl.out]; simpa using hown1, Hb1.out⟩
end Go.Proofs.Ytfmjjjfeooaeeaa

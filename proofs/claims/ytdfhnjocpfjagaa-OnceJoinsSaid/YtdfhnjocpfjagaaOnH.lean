/- What the statements of layer 17 ask of the document: are two replies, two rows of numbers the same? are acts light? Condition: all is in memory. -/
import Derived.Test.YtdfhnjocpfjagaaOnA
import Derived.Test.YtdfhnjocpfjagaaOpenOnce
import Derived.Test.YtdfhnjocpfjagaaTupS
import Derived.Test.YtdfhnjocpfjagaaRecB
import Derived.BigQuiet
namespace Go.Proofs.Ytdfhnjocpfjagaa
open Go.RowKit
open Go.Lib (strCells compareBytes)

theorem rp_iff (a b : Rp) : (a.code = b.code ∧ a.there = b.there ∧ a.id = b.id ∧ a.rc = b.rc) ↔ a = b := ⟨fun ⟨h1, h2, h3, h4⟩ => by cases a; cases b; simp_all, fun h => by subst h; simp⟩
theorem tval_iff (a b : TVal) : (a.k = b.k ∧ a.n = b.n ∧ a.s.data.toList = b.s.data.toList) ↔ a = b := ⟨fun ⟨h1, h2, h3⟩ => TVal.same h1 h2 h3, fun h => by subst h; simp⟩
instance : DecidableEq TVal := fun a b => decidable_of_iff _ (tval_iff a b)
instance : DecidableEq Rp := fun a b => decidable_of_iff _ (rp_iff a b)
theorem below_drL {B : Nat} {a w : World} (h : Below B a w) (n : Nat) : Below B a (w.drewN n) := ⟨h.os, h.tape, h.output, h.size, h.block⟩
set_option maxRecDepth 100000 in
set_option maxHeartbeats 1600000 in
theorem same_any (A A' : Option Addr) (n n' c c' C C' : Nat) (l m : List TVal) (w : World) (h : HasVals w C A n l) (h' : HasVals w C' A' n' m) (hn : n ≤ maxLen) (hn' : n' ≤ maxLen) :
    Calls Try.prog 42 #[.slice A n c, .slice A' n' c'] w fun e w' => e = .returned (.bool (decide (l = m))) ∧ Below w.heap.size w w' := by
  unfold maxLen at hn hn'
  have H := Lib.hid h
  have H' := Lib.hid h'
  have Hl := Lib.hid h.1
  have Hm := Lib.hid h'.1
  clear h h'
  by_cases hnn : n = n'
  · subst hnn
    go_enter Try.func42, Try.ntmps42
    go_wp2
    go_loopw [5] (fun i wr => ∃ k : Nat, k ≤ n ∧ i = .int .i64 (k : Int) ∧ Hid (l.take k = m.take k) ∧ ∃ q, wr = w.drewN q) (fun i _ => n - (intOf i).toNat)
    case atStart => exact ⟨0, by omega, rfl, Lib.hid rfl, 0, rfl⟩
    case round =>
      obtain ⟨k, hk, rfl, Ht, q, rfl⟩ := hrel
      by_cases hlt : k < n
      · obtain ⟨a, v, rfl, _, hv, c0, c1, c2⟩ := H.out.at_ hlt
        obtain ⟨b, u, rfl, _, hu, d0, d1, d2⟩ := H'.out.at_ hlt
        have hk0 : (0 : Int) ≤ (k : Int) := by omega
        have hk1 : (k : Int) < (n : Int) := by omega
        have Hv := Lib.hid hv
        have Hu := Lib.hid hu
        clear hv hu
        by_cases e : v = u
        · subst e
          go_wp2
          go_quiet (fail)
          go_wp2
          go_roundw
          case rel => exact ⟨k + 1, by omega, by go_num, Lib.hid (by rw [List.take_add_one, List.take_add_one, Ht.out, Hv.out, Hu.out]), _, rfl⟩
          case measure => simp [intOf]; omega
        · have E : Hid (decide (l = m) = false) := Lib.hid (decide_eq_false fun e' => by
            rw [e', Hu.out] at Hv
            exact e (Option.some.inj Hv.out).symm)
          obtain ⟨vk, vn, vs⟩ := v
          obtain ⟨uk, un, us⟩ := u
          have hx : (vk ≠ uk) ∨ (vk = uk ∧ vn ≠ un) ∨ (vk = uk ∧ vn = un ∧ vs ≠ us) := by
            by_cases h1 : vk = uk
            · by_cases h2 : vn = un
              · exact .inr (.inr ⟨h1, h2, fun h3 => e (by rw [h1, h2, h3])⟩)
              · exact .inr (.inl ⟨h1, h2⟩)
            · exact .inl h1
          simp only at c0 c1 c2 d0 d1 d2
          clear e
          rcases hx with hx | ⟨rfl, hx⟩ | ⟨rfl, rfl, hx⟩
          · have hb : (vk == uk) = false := by simpa using hx
            clear hx
            go_wp2
            go_quiet (fail)
            go_wp2
            go_ret
            exact ⟨ret_bool (by rw [E.out]), below_drews (below_drews (Below.refl _ _) _) _⟩
          · have hb : (vn == un) = false := by simpa using hx
            clear hx
            go_wp2
            go_quiet (fail)
            go_wp2
            go_ret
            exact ⟨ret_bool (by rw [E.out]), below_drews (below_drews (Below.refl _ _) _) _⟩
          · have hb2 : (vs.toList == us.toList) = false := by rw [eq_toList]; exact decide_eq_false fun e => hx (bytes_ext e)
            go_wp2
            go_quiet (fail)
            go_wp2
            go_ret
            exact ⟨ret_bool (by rw [E.out]), below_drews (below_drews (Below.refl _ _) _) _⟩
      · have E : Hid (decide (l = m) = true) := Lib.hid (decide_eq_true (by
          have h1 := Ht.out
          rwa [List.take_of_length_le (by have := Hl.out; omega), List.take_of_length_le (by have := Hm.out; omega)] at h1))
        go_wp2
        go_ret
        exact ⟨ret_bool (by rw [E.out]), below_drews (Below.refl _ _) _⟩
  · have E : Hid (decide (l = m) = false) := Lib.hid (decide_eq_false fun e => hnn (by rw [← Hl.out, ← Hm.out, e]))
    have hb : ((n : Int) != (n' : Int)) = true := by simp; omega
    clear hnn
    go_enter Try.func42, Try.ntmps42
    go_wp2
    go_ret
    exact ⟨ret_bool (by rw [E.out]), Below.refl _ _⟩
set_option maxRecDepth 100000 in
set_option maxHeartbeats 1600000 in
theorem sameInts_any (A A' : Option Addr) (n n' c c' D D' : Nat) (xs ys : List Int) (w : World) (h : Has w D A n (xs.map encZ)) (h' : Has w D' A' n' (ys.map encZ)) (hl : xs.length = n) (hl' : ys.length = n') (hn : n ≤ maxLen) (hn' : n' ≤ maxLen) :
    Calls Try.prog 64 #[.slice A n c, .slice A' n' c'] w fun e w' => e = .returned (.bool (decide (xs = ys))) ∧ Below w.heap.size w w' := by
  unfold maxLen at hn hn'
  have H := Lib.hid h
  have H' := Lib.hid h'
  have Hl := Lib.hid hl
  have Hm := Lib.hid hl'
  clear h h' hl hl'
  by_cases hnn : n = n'
  · subst hnn
    go_enter Try.func64, Try.ntmps64
    go_wp2
    go_loopw [5] (fun i wr => ∃ k : Nat, k ≤ n ∧ i = .int .i64 (k : Int) ∧ Hid (xs.take k = ys.take k) ∧ ∃ q, wr = w.drewN q) (fun i _ => n - (intOf i).toNat)
    case atStart => exact ⟨0, by omega, rfl, Lib.hid rfl, 0, rfl⟩
    case round =>
      obtain ⟨k, hk, rfl, Ht, q, rfl⟩ := hrel
      by_cases hlt : k < n
      · obtain ⟨a, rfl, _, hc⟩ := H.out.all (by omega)
        obtain ⟨b, rfl, _, hd⟩ := H'.out.all (by omega)
        obtain ⟨x, hx⟩ : ∃ x, xs[k]? = some x := ⟨_, List.getElem?_eq_getElem (by have := Hl.out; omega)⟩
        obtain ⟨y, hy⟩ : ∃ y, ys[k]? = some y := ⟨_, List.getElem?_eq_getElem (by have := Hm.out; omega)⟩
        have c0 : w.cell? (a.add k) = some (.int .i64 x) := hc k _ (by rw [List.getElem?_map, hx]; rfl)
        have d0 : w.cell? (b.add k) = some (.int .i64 y) := hd k _ (by rw [List.getElem?_map, hy]; rfl)
        have hk0 : (0 : Int) ≤ (k : Int) := by omega
        have hk1 : (k : Int) < (n : Int) := by omega
        have Hx := Lib.hid hx
        have Hy := Lib.hid hy
        clear hx hy hc hd
        by_cases e : x = y
        · subst e
          go_wp2
          go_quiet (fail)
          go_wp2
          go_roundw
          case rel => exact ⟨k + 1, by omega, by go_num, Lib.hid (by rw [List.take_add_one, List.take_add_one, Ht.out, Hx.out, Hy.out]), _, rfl⟩
          case measure => simp [intOf]; omega
        · have E : Hid (decide (xs = ys) = false) := Lib.hid (decide_eq_false fun e' => by
            rw [e', Hy.out] at Hx
            exact e (Option.some.inj Hx.out).symm)
          have hb : (x == y) = false := by simpa using e
          clear e
          go_wp2
          go_quiet (fail)
          go_wp2
          go_ret
          exact ⟨ret_bool (by rw [E.out]), below_drL (below_drL (Below.refl _ _) _) _⟩
      · have E : Hid (decide (xs = ys) = true) := Lib.hid (decide_eq_true (by
          have h1 := Ht.out
          rwa [List.take_of_length_le (by have := Hl.out; omega), List.take_of_length_le (by have := Hm.out; omega)] at h1))
        go_wp2
        go_ret
        exact ⟨ret_bool (by rw [E.out]), below_drL (Below.refl _ _) _⟩
  · have E : Hid (decide (xs = ys) = false) := Lib.hid (decide_eq_false fun e => hnn (by rw [← Hl.out, ← Hm.out, e]))
    have hnz : ((n : Int) == (n' : Int)) = false := by simp; omega
    go_enter Try.func64, Try.ntmps64
    go_wp2
    go_ret
    exact ⟨ret_bool (by rw [E.out]), Below.refl _ _⟩
set_option maxRecDepth 100000 in
theorem sameRows0_any (X X' : Option Addr) (y y' : Nat) (w : World) : Calls Try.prog 90 #[.slice X 0 y, .slice X' 0 y'] w fun e w' => e = .returned (.bool true) ∧ Below w.heap.size w w' := by
  go_enter Try.func90, Try.ntmps90
  go_wp2
  go_loopw [5] (fun i wr => i = .int .i64 0 ∧ Below w.heap.size w wr) (fun _ _ => 0)
  case atStart => exact ⟨rfl, Below.refl _ _⟩
  case round =>
    obtain ⟨rfl, hb⟩ := hrel
    go_wp2
    go_ret
    exact ⟨rfl, hb⟩
set_option maxRecDepth 100000 in
set_option maxHeartbeats 3200000 in
theorem sameReply17_any (r1 r2 : Rp) (A1 A2 X1 X2 : Option Addr) (n1 n2 c1 c2 y1 y2 B1 B2 : Nat) (w : World) (h1 : HasVals w B1 A1 n1 r1.rc) (h2 : HasVals w B2 A2 n2 r2.rc) (hB1 : B1 ≤ w.heap.size) (hB2 : B2 ≤ w.heap.size) (hn1 : n1 ≤ maxLen) (hn2 : n2 ≤ maxLen) :
    Calls Try.prog 52 #[.agg #[.int .i64 r1.code, .bool r1.there, .slice A1 n1 c1, .slice X1 0 y1, .int .i64 r1.id], .agg #[.int .i64 r2.code, .bool r2.there, .slice A2 n2 c2, .slice X2 0 y2, .int .i64 r2.id]] w fun e w' => e = .returned (.bool (decide (r1 = r2))) ∧ Below w.heap.size w w' := by
  obtain ⟨D, hD⟩ : ∃ D, decide (r1 = r2) = D := ⟨_, rfl⟩
  rw [hD]
  have HD := Lib.hid hD
  have Hsame := Lib.hid (fun wx (hb : Below w.heap.size w wx) => same_any A1 A2 _ _ c1 c2 _ _ r1.rc r2.rc wx (h1.belowOf hb hB1) (h2.belowOf hb hB2) hn1 hn2)
  have Hrows := Lib.hid (fun wx => sameRows0_any X1 X2 y1 y2 wx)
  obtain ⟨w1, hw1⟩ : ∃ w1, w.alloc (.cells #[.int .i64 r1.code, .bool r1.there, .slice A1 n1 c1, .slice X1 0 y1, .int .i64 r1.id] 82) = w1 := ⟨_, rfl⟩
  obtain ⟨w2, hw2⟩ : ∃ w2, w1.alloc (.cells #[.int .i64 r2.code, .bool r2.there, .slice A2 n2 c2, .slice X2 0 y2, .int .i64 r2.id] 82) = w2 := ⟨_, rfl⟩
  have hs1 : w1.heap.size = w.heap.size + 1 := by rw [← hw1]; simp
  have b2 : Below w.heap.size w w2 := hw2 ▸ hw1 ▸ (below_box _).alloc (by simp) _
  have x2 : Box w2 w.heap.size 82 #[.int .i64 r1.code, .bool r1.there, .slice A1 n1 c1, .slice X1 0 y1, .int .i64 r1.id] := hw2 ▸ hw1 ▸ (Box.made _ _ _).alloc _
  have z2 : Box w2 (w.heap.size + 1) 82 #[.int .i64 r2.code, .bool r2.there, .slice A2 n2 c2, .slice X2 0 y2, .int .i64 r2.id] := by have := Box.made w1 82 #[.int .i64 r2.code, .bool r2.there, .slice A2 n2 c2, .slice X2 0 y2, .int .i64 r2.id]; rwa [hw2, hs1] at this
  have p0 : w2.cell? ⟨w.heap.size, 0, none⟩ = some (.int .i64 r1.code) := x2.cell 0
  have p1 : w2.cell? ⟨w.heap.size, 1, none⟩ = some (.bool r1.there) := x2.cell 1
  have p2 : w2.cell? ⟨w.heap.size, 2, none⟩ = some (.slice A1 n1 c1) := x2.cell 2
  have p3 : w2.cell? ⟨w.heap.size, 3, none⟩ = some (.slice X1 0 y1) := x2.cell 3
  have p4 : w2.cell? ⟨w.heap.size, 4, none⟩ = some (.int .i64 r1.id) := x2.cell 4
  have q0 : w2.cell? ⟨w.heap.size + 1, 0, none⟩ = some (.int .i64 r2.code) := z2.cell 0
  have q1 : w2.cell? ⟨w.heap.size + 1, 1, none⟩ = some (.bool r2.there) := z2.cell 1
  have q2 : w2.cell? ⟨w.heap.size + 1, 2, none⟩ = some (.slice A2 n2 c2) := z2.cell 2
  have q3 : w2.cell? ⟨w.heap.size + 1, 3, none⟩ = some (.slice X2 0 y2) := z2.cell 3
  have q4 : w2.cell? ⟨w.heap.size + 1, 4, none⟩ = some (.int .i64 r2.id) := z2.cell 4
  have H2 := Lib.hid (And.intro b2 (And.intro x2 z2))
  clear hD h1 h2 hn1 hn2 b2 x2 z2
  by_cases e1 : r1.code = r2.code
  · have g1 : (r1.code == r2.code) = true := by simpa using e1
    by_cases e2 : r1.there = r2.there
    · have g2 : (r1.there == r2.there) = true := by simpa using e2
      by_cases e3 : r1.id = r2.id
      · have g3 : (r1.id == r2.id) = true := by simpa using e3
        by_cases e4 : r1.rc = r2.rc
        · have E : Hid (D = true) := Lib.hid (by rw [← HD.out]; exact decide_eq_true ((rp_iff _ _).1 ⟨e1, e2, e3, e4⟩))
          rw [decide_eq_true e4] at Hsame
          clear e1 e2 e3 e4
          go_enter Try.func52, Try.ntmps52
          go_wp2_with fail
          refine (Hsame.out _ H2.out.1).mono ?_
          rintro e w3 ⟨rfl, b3⟩
          have u3 := (H2.out.2.1.below b3 H2.out.2.1.lt).cell 3
          have v3 := (H2.out.2.2.below b3 H2.out.2.2.lt).cell 3
          have H3 := Lib.hid (H2.out.1.trans (b3.mono H2.out.1.size))
          simp at u3 v3
          clear b3
          go_wp2_with fail
          refine (Hrows.out _).mono ?_
          rintro e w4 ⟨rfl, b4⟩
          have HE := Lib.hid (H3.out.trans (b4.mono H3.out.size))
          clear b4
          go_wp2
          go_ret
          exact ⟨ret_bool (by rw [E.out]), HE.out⟩
        · have E : Hid (D = false) := Lib.hid (by rw [← HD.out]; exact decide_eq_false fun h => e4 (by rw [h]))
          rw [decide_eq_false e4] at Hsame
          clear e1 e2 e3 e4
          go_enter Try.func52, Try.ntmps52
          go_wp2_with fail
          refine (Hsame.out _ H2.out.1).mono ?_
          rintro e w3 ⟨rfl, b3⟩
          have HE := Lib.hid (H2.out.1.trans (b3.mono H2.out.1.size))
          clear b3
          go_wp2
          go_ret
          exact ⟨ret_bool (by rw [E.out]), HE.out⟩
      · have E : Hid (D = false) := Lib.hid (by rw [← HD.out]; exact decide_eq_false fun h => e3 (by rw [h]))
        have g3 : (r1.id == r2.id) = false := by simpa using e3
        clear e1 e2 e3
        go_enter Try.func52, Try.ntmps52
        go_wp2
        go_ret
        exact ⟨ret_bool (by rw [E.out]), H2.out.1⟩
    · have E : Hid (D = false) := Lib.hid (by rw [← HD.out]; exact decide_eq_false fun h => e2 (by rw [h]))
      have g2 : (r1.there == r2.there) = false := by simpa using e2
      clear e1 e2
      go_enter Try.func52, Try.ntmps52
      go_wp2
      go_ret
      exact ⟨ret_bool (by rw [E.out]), H2.out.1⟩
  · have E : Hid (D = false) := Lib.hid (by rw [← HD.out]; exact decide_eq_false fun h => e1 (by rw [h]))
    have g1 : (r1.code == r2.code) = false := by simpa using e1
    clear e1
    go_enter Try.func52, Try.ntmps52
    go_wp2
    go_ret
    exact ⟨ret_bool (by rw [E.out]), H2.out.1⟩
def Light17 (n : Nat) (w : World) (e : Ending) (w' : World) : Prop := ∃ b, e = .returned (.bool b) ∧ (b = true → n < 100) ∧ Below w.heap.size w w'
set_option maxRecDepth 100000 in
set_option maxHeartbeats 1600000 in
theorem light17_any (A : Option Addr) (n c C : Nat) (l : List ActO) (w : World) (h : HasOas w C A n l) (hC : C ≤ w.heap.size) (hn : n ≤ maxLen) :
    Calls Try.prog 48 #[.slice A n c] w (Light17 n w) := by
  unfold maxLen at hn
  have H := Lib.hid h
  clear h
  go_enter Try.func48, Try.ntmps48
  go_wp2
  go_loopw [3] (fun iv wr => ∃ k : Nat, k ≤ n ∧ iv = .int .i64 (k : Int) ∧ Hid (Below w.heap.size w wr)) (fun iv _ => n - (intOf iv).toNat)
  case atStart => exact ⟨0, by omega, rfl, Lib.hid (Below.refl _ _)⟩
  case round =>
    obtain ⟨k, hk, rfl, Hp⟩ := hrel
    by_cases hlt : k < n
    · have hk0 : (0 : Int) ≤ (k : Int) := by omega
      have hk1 : (k : Int) < (n : Int) := by omega
      by_cases hkm : k < 100
      · obtain ⟨a, o, rfl, hab, ho, ⟨c0, c1, c2, c3, c4, c5, c6, c7⟩, hok⟩ := (H.out.belowOf Hp.out hC).at_ hlt
        have hkm2 : decide ((k : Int) < 100) = true := decide_eq_true (by omega)
        have Hli := Lib.hid (light_any o.A o.rn o.d C 300 o.r.rc wr hok.rp.vals hok.rp.len (by omega) hok.rp.txt)
        clear ho hab hok c0 c1 c2 c3 c4 c7
        go_wp2_with fail
        refine Hli.out.mono ?_
        rintro e w3 ⟨b, rfl, -, rfl⟩
        cases b with
        | false =>
          go_wp2
          go_ret
          exact ⟨_, rfl, by simp, Hp.out⟩
        | true =>
          by_cases hm : 10 < o.m
          · have hm2 : (10 : Int) < (o.m : Int) := by omega
            go_wp2
            go_ret
            exact ⟨_, rfl, by simp, Hp.out⟩
          · have hm2 : ¬ (10 : Int) < (o.m : Int) := by omega
            go_wp2
            go_roundw
            case rel => exact ⟨k + 1, by omega, by go_num, Hp⟩
            case measure => simp [intOf]; omega
      · have hkm2 : decide ((k : Int) < 100) = false := decide_eq_false (by omega)
        have hnm : decide ((n : Int) < 100) = false := decide_eq_false (by omega)
        go_wp2
        go_ret
        exact ⟨false, ret_bool (by simp), by simp, Hp.out⟩
    · obtain rfl : k = n := by omega
      have HE : Hid (Light17 k w (.returned (.bool (decide ((k : Int) < 100)))) wr) := Lib.hid ⟨_, rfl, fun hd => by have := of_decide_eq_true hd; omega, Hp.out⟩
      go_wp2
      go_ret
      have h9 := HE.out
      simpa using h9
end Go.Proofs.Ytdfhnjocpfjagaa

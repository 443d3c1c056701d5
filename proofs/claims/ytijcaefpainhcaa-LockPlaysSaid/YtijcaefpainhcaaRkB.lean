/- Layer 16, the document's own table: Blocks, Holds, Ids, Ranges; SameInts. Condition: the table is in memory. -/
import Derived.Test.YtijcaefpainhcaaRkA
import Derived.Test.YtijcaefpainhcaaLkH
namespace Go.Proofs.Ytijcaefpainhcaa
open Go.RowKit

theorem one_intS (x : Int) : ∀ u ∈ [Value.int .i64 x], u.oneCell' = true := fun u hu => by simp at hu; subst hu; rfl
theorem nint_elem : ElemN Try.prog 3 1 8 (.int .i64 0) := ⟨by kernel_rfl, rfl⟩
theorem take_numR {R : List RE} {j : Nat} {y : RE} (hy : R[j]? = some y) : ((rl (R.take (j + 1))).map (·.n)).map encZ = ((rl (R.take j)).map (·.n)).map encZ ++ [.int .i64 y.p.n] := by
  rw [List.take_add_one, hy]
  simp [encZ, rl]
theorem get_at {R : List RE} (hr : RiseL (rl R)) {i : Nat} {p : RE} (h : R[i]? = some p) {k : Int} (hk : p.p.n = k) : getL k (rl R) = some p.p := by
  subst hk
  exact getL_mem hr (List.mem_map.2 ⟨p, List.mem_of_getElem? h, rfl⟩)
theorem get_no {R : List RE} {k : Int} (h : ∀ p ∈ R, p.p.n ≠ k) : getL k (rl R) = none := by
  unfold getL
  rw [List.find?_eq_none]
  intro p hp
  obtain ⟨q, hq, rfl⟩ := List.mem_map.1 hp
  simpa using h q hq
theorem below_drL {B : Nat} {a w : World} (h : Below B a w) (n : Nat) : Below B a (w.drewN n) := ⟨h.os, h.tape, h.output, h.size, h.block⟩
set_option maxRecDepth 100000 in
set_option maxHeartbeats 1600000 in
theorem sameInts_any (A A' : Option Addr) (n n' c c' D D' : Nat) (xs ys : List Int) (w : World) (h : Has w D A n (xs.map encZ)) (h' : Has w D' A' n' (ys.map encZ)) (hl : xs.length = n) (hl' : ys.length = n') (hn : n ≤ maxLen) (hn' : n' ≤ maxLen) :
    Calls Try.prog 34 #[.slice A n c, .slice A' n' c'] w fun e w' => e = .returned (.bool (decide (xs = ys))) ∧ Below w.heap.size w w' := by
  unfold maxLen at hn hn'
  have H := Lib.hid h
  have H' := Lib.hid h'
  have Hl := Lib.hid hl
  have Hm := Lib.hid hl'
  clear h h' hl hl'
  by_cases hnn : n = n'
  · subst hnn
    go_enter Try.func34, Try.ntmps34
    go_wp2
    go_loopw [5] (fun i wr => ∃ k : Nat, k ≤ n ∧ i = .int .i64 (k : Int) ∧ Hid (xs.take k = ys.take k) ∧ ∃ q, wr = w.drewN q) (fun i _ => n - (intOf i).toNat)
    case atStart => exact ⟨0, by omega, rfl, Lib.hid rfl, 0, rfl⟩
    case round =>
      obtain ⟨k, hk, rfl, Ht, q, rfl⟩ := hrel
      by_cases hlt : k < n
      · obtain ⟨a, rfl, _, hc⟩ := H.out.all (by omega)
        obtain ⟨b, rfl, _, hd⟩ := H'.out.all (by omega)
        obtain ⟨x, hx⟩ : ∃ x, xs[k]? = some x := ⟨_, List.getElem?_eq_getElem (by have := Hl.out; omega)⟩
        obtain ⟨y, hy⟩ : ∃ y, ys[k]? = some y := ⟨_, List.getElem?_eq_getElem (by have := Hm.out; omega)⟩
        have c0 : w.cell? (a.add k) = some (.int .i64 x) := hc k _ (by rw [List.getElem?_map, hx]; rfl)
        have d0 : w.cell? (b.add k) = some (.int .i64 y) := hd k _ (by rw [List.getElem?_map, hy]; rfl)
        have hk0 : (0 : Int) ≤ (k : Int) := by omega
        have hk1 : (k : Int) < (n : Int) := by omega
        have Hx := Lib.hid hx
        have Hy := Lib.hid hy
        clear hx hy hc hd
        by_cases e : x = y
        · subst e
          go_wp2
          go_quiet (fail)
          go_wp2
          go_roundw
          case rel => exact ⟨k + 1, by omega, by go_num, Lib.hid (by rw [List.take_add_one, List.take_add_one, Ht.out, Hx.out, Hy.out]), _, rfl⟩
          case measure => simp [intOf]; omega
        · have E : Hid (decide (xs = ys) = false) := Lib.hid (decide_eq_false fun e' => by
            rw [e', Hy.out] at Hx
            exact e (Option.some.inj Hx.out).symm)
          have hb : (x == y) = false := by simpa using e
          clear e
          go_wp2
          go_quiet (fail)
          go_wp2
          go_ret
          exact ⟨ret_bool (by rw [E.out]), below_drL (below_drL (Below.refl _ _) _) _⟩
      · have E : Hid (decide (xs = ys) = true) := Lib.hid (decide_eq_true (by
          have h1 := Ht.out
          rwa [List.take_of_length_le (by have := Hl.out; omega), List.take_of_length_le (by have := Hm.out; omega)] at h1))
        go_wp2
        go_ret
        exact ⟨ret_bool (by rw [E.out]), below_drL (Below.refl _ _) _⟩
  · have E : Hid (decide (xs = ys) = false) := Lib.hid (decide_eq_false fun e => hnn (by rw [← Hl.out, ← Hm.out, e]))
    have hnz : ((n : Int) == (n' : Int)) = false := by simp; omega
    go_enter Try.func34, Try.ntmps34
    go_wp2
    go_ret
    exact ⟨ret_bool (by rw [E.out]), Below.refl _ _⟩
section
variable {F G : Nat → Prop} {w : World} {rb : Nat} {v : Value} {lease now : Int} {R : List RE}
set_option maxRecDepth 100000 in
set_option maxHeartbeats 1600000 in
theorem refBlocks16_any (h : RfAt w F rb v lease now R) (hR : R.length ≤ 100000) (hL : ∀ p ∈ R, p.p.L.length ≤ 100000) (s : ByteArray) :
    Calls Try.prog 31 #[.pointer (some ⟨rb, 0, none⟩), .string s] w fun e w' => e = .returned (.bool (blocksB s.data.toList (rl R))) ∧ Below w.heap.size w w' := by
  obtain ⟨⟨-, -, q0⟩, -, -⟩ := h.cells
  obtain ⟨A, c, rfl, -, -, hs⟩ := h.own.slice
  obtain ⟨n, hn⟩ : ∃ n, R.length = n := ⟨_, rfl⟩
  rw [hn] at hR hs q0
  have Hs := Lib.hid hs
  have Hn := Lib.hid hn
  have H := Lib.hid (And.intro h hL)
  have hrb := h.lt rb h.rF
  have HQ : Hid (∀ wx, Below w.heap.size w wx → wx.cell? ⟨rb, 2, none⟩ = some (.slice A n c)) := Lib.hid fun wx hx => (hx.cell hrb).trans q0
  obtain ⟨D, hD⟩ : ∃ D, blocksB s.data.toList (rl R) = D := ⟨_, rfl⟩
  rw [hD]
  have HD := Lib.hid hD
  clear h hs hn hL hD hrb
  go_enter Try.func31, Try.ntmps31
  go_wp2
  go_loopw [5] (fun iv wr => ∃ j : Nat, j ≤ n ∧ iv = .int .i64 (j : Int) ∧ Hid (∀ q ∈ R.take j, ¬ inS q.p.L s.data.toList) ∧ Below w.heap.size w wr) (fun iv _ => n - (intOf iv).toNat)
  case atStart => exact ⟨0, by omega, rfl, Lib.hid (by simp), Below.refl _ _⟩
  case round =>
    obtain ⟨j, hj, rfl, Hp, hb⟩ := hrel
    have Hb := Lib.hid hb
    have q1 := HQ.out _ hb
    have hsz := hb.size
    clear hb
    by_cases hlt : j < n
    · obtain ⟨a, y, rfl, hab, hy, c0, c1, c2⟩ := (Hs.out.belowOf Hb.out (Nat.le_refl _)).at_ hlt
      have Hy := Lib.hid hy
      have hk0 : (0 : Int) ≤ (j : Int) := by omega
      have hk1 : (j : Int) < (n : Int) := by omega
      have hm := List.mem_of_getElem? hy
      have Hin := Lib.hid (refIn_any y.A y.p.L.length y.c w.heap.size y.p.L s wr ((H.out.1.has hm).belowOf Hb.out (Nat.le_refl _)) hsz (by have := H.out.2 y hm; omega))
      obtain ⟨d, hd⟩ : ∃ d, decide (inS y.p.L s.data.toList) = d := ⟨_, rfl⟩
      rw [hd] at Hin
      have Hd := Lib.hid hd
      clear hy hab c0 c2 hm hd
      cases d with
      | true =>
        have E : Hid (D = true) := Lib.hid (by
          rw [← HD.out]
          unfold blocksB
          rw [List.any_eq_true]
          exact ⟨y.p, List.mem_map.2 ⟨y, List.mem_of_getElem? Hy.out, rfl⟩, Hd.out⟩)
        go_wp2_with fail
        refine Hin.out.mono ?_
        rintro ee w2 ⟨rfl, b2⟩
        have HE := Lib.hid (Hb.out.trans (b2.mono hsz))
        clear b2
        go_wp2
        go_ret
        exact ⟨ret_bool E.out.symm, HE.out⟩
      | false =>
        have Hp1 : Hid (∀ q ∈ R.take (j + 1), ¬ inS q.p.L s.data.toList) := Lib.hid (by
          rw [List.take_add_one, Hy.out]
          intro x hx
          rcases List.mem_append.1 hx with hx | hx
          · exact Hp.out x hx
          · simp at hx; subst hx; exact of_decide_eq_false Hd.out)
        go_wp2_with fail
        refine Hin.out.mono ?_
        rintro ee w2 ⟨rfl, b2⟩
        have HE := Lib.hid (Hb.out.trans (b2.mono hsz))
        clear b2
        go_wp2
        go_roundw
        case rel => exact ⟨j + 1, by omega, by go_num, Hp1, HE.out⟩
        case measure => simp [intOf]; omega
    · have E : Hid (D = false) := Lib.hid (by
        have h1 := Hp.out
        rw [List.take_of_length_le (by have := Hn.out; omega)] at h1
        rw [← HD.out]
        unfold blocksB
        rw [List.any_eq_false]
        intro p hp
        obtain ⟨q, hq, rfl⟩ := List.mem_map.1 hp
        simpa using h1 q hq)
      go_wp2
      go_ret
      exact ⟨ret_bool E.out.symm, Hb.out⟩
set_option maxRecDepth 100000 in
set_option maxHeartbeats 1600000 in
theorem refIds16_any (h : RfAt w F rb v lease now R) (hR : R.length ≤ 100000) :
    Calls Try.prog 36 #[.pointer (some ⟨rb, 0, none⟩)] w fun e w' => ∃ u, e = .returned u ∧ w'.ownsRow w.heap.size 3 1 u R.length (((rl R).map (·.n)).map encZ) ∧ Below w.heap.size w w' := by
  obtain ⟨⟨-, -, q0⟩, -, -⟩ := h.cells
  have hsb := h.lt rb h.rF
  obtain ⟨A, c, rfl, -, -, hs⟩ := h.own.slice
  obtain ⟨n, hn⟩ : ∃ n, R.length = n := ⟨_, rfl⟩
  rw [hn] at hR hs q0
  have Hs := Lib.hid hs
  have Hn := Lib.hid hn
  have HQ : Hid (∀ wx, Below w.heap.size w wx → wx.cell? ⟨rb, 2, none⟩ = some (.slice A n c)) := Lib.hid fun wx hx => (hx.cell hsb).trans q0
  clear h hs hn
  rw [Hn.out]
  go_enter Try.func36, Try.ntmps36
  go_wp2
  go_loopw [3, 4] (fun u iv wr => ∃ j : Nat, j ≤ n ∧ iv = .int .i64 (j : Int) ∧ Hid (wr.ownsRow w.heap.size 3 1 u j (((rl (R.take j)).map (·.n)).map encZ)) ∧ Below w.heap.size w wr) (fun _ iv _ => n - (intOf iv).toNat)
  case atStart => exact ⟨0, by omega, rfl, Lib.hid (World.ownsRow_nil _ _ _ _), Below.refl _ _⟩
  case round =>
    obtain ⟨j, hj, rfl, Ho, hb⟩ := hrel
    obtain ⟨Au, cu, rfl, -, -, -⟩ := own_sliceN Ho.out
    have Hb := Lib.hid hb
    have q1 := HQ.out _ hb
    have hsz := hb.size
    clear hb
    by_cases hlt : j < n
    · obtain ⟨a, y, rfl, hab, hy, c0, -⟩ := (Hs.out.belowOf Hb.out (Nat.le_refl _)).at_ hlt
      have Hy := Lib.hid hy
      have hk0 : (0 : Int) ≤ (j : Int) := by omega
      have hk1 : (j : Int) < (n : Int) := by omega
      obtain ⟨yn, hyn⟩ : ∃ yn, y.p.n = yn := ⟨_, rfl⟩
      have Hyn := Lib.hid hyn
      rw [hyn] at c0
      clear hy hyn hab
      have HO : Hid ((wr.alloc (.cells #[.int .i64 yn] 3)).ownsRow w.heap.size 3 1 (.slice Au j cu) j (((rl (R.take j)).map (·.n)).map encZ)) := Lib.hid (own_belowN Ho.out (below_box _))
      have HL : Hid (Has (wr.alloc (.cells #[.int .i64 yn] 3)) (wr.heap.size + 1) (some ⟨wr.heap.size, 0, none⟩) (1 * 1) [.int .i64 yn]) := Lib.hid (Has.lit wr #[.int .i64 yn] 3)
      have hS : w.heap.size ≤ (wr.alloc (.cells #[.int .i64 yn] 3)).heap.size := by simp; omega
      have HBb : Hid (Below w.heap.size w (wr.alloc (.cells #[.int .i64 yn] 3))) := Lib.hid (Hb.out.trans ((below_box _).mono hsz))
      go_wp2_with (at_builtin; go_loud (refine wpList_append_hasN rfl (.tmp 14) (.tmp 23) _ rfl 3 nint_elem (by omega) Try.underlying37 rfl HO.out rfl HL.out (one_intS yn) (by simp only [maxLen]; omega) (by omega) hS ?_; intro v7 w7 o7 g7 z7; obtain ⟨A7, c7, rfl, -, -, -⟩ := own_sliceN o7; have HE := Lib.hid (And.intro o7 (HBb.out.grown g7 hS (fun g hg => (HO.out.lt g hg).1))); clear o7 g7 z7))
      go_roundw
      case rel => exact ⟨j + 1, by omega, by go_num, Lib.hid (by rw [take_numR Hy.out, Hyn.out]; exact HE.out.1), HE.out.2⟩
      case measure => simp [intOf]; omega
    · obtain rfl : j = n := by omega
      have HE : Hid (wr.ownsRow w.heap.size 3 1 (.slice Au j cu) j (((rl R).map (·.n)).map encZ)) := Lib.hid (by have h1 := Ho.out; rwa [List.take_of_length_le (by have := Hn.out; omega)] at h1)
      go_wp2
      go_ret
      exact ⟨_, rfl, HE.out, Hb.out⟩
set_option maxRecDepth 100000 in
set_option maxHeartbeats 1600000 in
theorem refRanges16_any (h : RfAt w F rb v lease now R) (hr : RiseL (rl R)) (hR : R.length ≤ 100000) (k : Int) :
    Calls Try.prog 38 #[.pointer (some ⟨rb, 0, none⟩), .int .i64 k] w fun e w' => ∃ A c, e = .returned (.slice A (rangesT k (rl R)).length c) ∧ HasRgs w' w'.heap.size A (rangesT k (rl R)).length (rangesT k (rl R)) ∧ Below w.heap.size w w' := by
  have Hat := Lib.hid (refAt16_any h hR k)
  obtain ⟨⟨-, -, q0⟩, -, -⟩ := h.cells
  obtain ⟨A, c, rfl, -, -, hs⟩ := h.own.slice
  obtain ⟨n, hn⟩ : ∃ n, R.length = n := ⟨_, rfl⟩
  rw [hn] at hR hs q0
  have Hs := Lib.hid hs
  have Hn := Lib.hid hn
  have H := Lib.hid (And.intro h hr)
  unfold AtPost at Hat
  clear h hs hn hr
  go_enter Try.func38, Try.ntmps38
  go_wp2_with fail
  refine Hat.out.mono ?_
  rintro e w1 ⟨hw1, hp⟩
  subst hw1
  rcases hp with ⟨rfl, hp⟩ | ⟨i, p, rfl, hi, hk⟩
  · have e0 : rangesT k (rl R) = [] := by unfold rangesT; rw [get_no hp]
    have HE := Lib.hid e0
    clear hp e0 Hat
    go_wp2
    go_ret
    exact ⟨none, 0, by rw [HE.out]; rfl, by rw [HE.out]; exact HasRgs.nil _ _ _, Below.refl _ _⟩
  · have e0 : rangesT k (rl R) = p.p.L := by unfold rangesT; rw [get_at H.out.2 hi hk]
    have HE : Hid (rangesT k (rl R) = p.p.L ∧ HasRgs w1 w1.heap.size p.A p.p.L.length p.p.L) := Lib.hid ⟨e0, H.out.1.has (List.mem_of_getElem? hi)⟩
    have hin : i < n := by have := (List.getElem?_eq_some_iff.1 hi).1; have := Hn.out; omega
    obtain ⟨a, y, rfl, hab, hy, c0, c1, c2⟩ := Hs.out.at_ hin
    obtain rfl : y = p := by rw [hi] at hy; exact (Option.some.inj hy).symm
    have j0 : (0 : Int) ≤ (i : Int) := by omega
    have j1 : (i : Int) < (n : Int) := by omega
    have j2 : ¬ (i : Int) < 0 := by omega
    clear hi hk hy hab c0 c2 Hat e0
    go_wp2
    go_ret
    exact ⟨y.A, y.c, by rw [HE.out.1]; rfl, by rw [HE.out.1]; exact HE.out.2, Below.refl _ _⟩
set_option maxRecDepth 100000 in
set_option maxHeartbeats 1600000 in
theorem refHolds16_any (h : RfAt w F rb v lease now R) (hr : RiseL (rl R)) (hR : R.length ≤ 100000) (hL : ∀ p ∈ R, p.p.L.length ≤ 90000) (k : Int) (r : Rg) :
    Calls Try.prog 33 #[.pointer (some ⟨rb, 0, none⟩), .int .i64 k, ragg r] w fun e w' => e = .returned (.bool (holdsB k r (rl R))) ∧ Below w.heap.size w w' := by
  obtain ⟨wa, hwa⟩ : ∃ wa, w.alloc (.cells #[.string r.lo, .string r.hi] 23) = wa := ⟨_, rfl⟩
  have b1 : Below w.heap.size w wa := hwa ▸ below_box _
  have x1 : Box wa w.heap.size 23 #[.string r.lo, .string r.hi] := hwa ▸ Box.made _ _ _
  have h1 := h.below b1
  have Hat := Lib.hid (refAt16_any h1 hR k)
  obtain ⟨⟨-, -, q0⟩, -, -⟩ := h1.cells
  obtain ⟨A, c, rfl, -, -, hs⟩ := h1.own.slice
  obtain ⟨n, hn⟩ : ∃ n, R.length = n := ⟨_, rfl⟩
  rw [hn] at hR hs q0
  have Hs := Lib.hid hs
  have Hn := Lib.hid hn
  have H := Lib.hid (And.intro h1 (And.intro hr (And.intro hL (And.intro b1 x1))))
  have p0 : wa.cell? ⟨w.heap.size, 0, none⟩ = some (.string r.lo) := x1.cell 0
  have p1 : wa.cell? ⟨w.heap.size, 1, none⟩ = some (.string r.hi) := x1.cell 1
  unfold AtPost at Hat
  obtain ⟨D, hD⟩ : ∃ D, holdsB k r (rl R) = D := ⟨_, rfl⟩
  rw [hD]
  have HD := Lib.hid hD
  clear h hs hn hr h1 hL b1 x1 hD
  unfold ragg
  go_enter Try.func33, Try.ntmps33
  go_wp2_with fail
  refine Hat.out.mono ?_
  rintro e w1 ⟨hw1, hp⟩
  subst hw1
  rcases hp with ⟨rfl, hp⟩ | ⟨i, p, rfl, hi, hk⟩
  · have HE : Hid (D = false) := Lib.hid (by rw [← HD.out]; unfold holdsB; rw [get_no hp])
    clear hp Hat
    go_wp2
    go_quiet (fail)
    go_wp2
    go_ret
    exact ⟨ret_bool HE.out.symm, below_drN H.out.2.2.2.1 _⟩
  · have HE : Hid (D = coversB p.p.L r) := Lib.hid (by rw [← HD.out]; unfold holdsB; rw [get_at H.out.2.1 hi hk])
    have hin : i < n := by have := (List.getElem?_eq_some_iff.1 hi).1; have := Hn.out; omega
    have hm := List.mem_of_getElem? hi
    obtain ⟨a, y, rfl, hab, hy, c0, c1, c2⟩ := Hs.out.at_ hin
    obtain rfl : y = p := by rw [hi] at hy; exact (Option.some.inj hy).symm
    have Hcv := Lib.hid (fun wx (hx : Below w1.heap.size w1 wx) => refCovers_any y.A y.p.L.length y.c w1.heap.size y.p.L r wx ((H.out.1.has hm).belowOf hx (Nat.le_refl _)) hx.size (by have := H.out.2.2.1 y hm; omega))
    have j0 : (0 : Int) ≤ (i : Int) := by omega
    have j1 : (i : Int) < (n : Int) := by omega
    have j2 : ¬ (i : Int) < 0 := by omega
    have HS : Hid (∀ wx, Below w1.heap.size w1 wx → (wx.cell? ⟨w.heap.size, 0, none⟩ = some (.string r.lo) ∧ wx.cell? ⟨w.heap.size, 1, none⟩ = some (.string r.hi)) ∧ wx.cell? ⟨rb, 2, none⟩ = some (.slice (some a) n c) ∧ wx.cell? ⟨(a.add (i * 3)).block, (a.add (i * 3)).off + 1, none⟩ = some (.slice y.A y.p.L.length y.c)) := Lib.hid fun wx hx => by
      have x2 := H.out.2.2.2.2.below hx H.out.2.2.2.2.lt
      have hab2 : (a.add (i * 3)).block < w1.heap.size := by rw [addr_block]; exact hab
      exact ⟨⟨x2.cell 0, x2.cell 1⟩, (hx.cell (H.out.1.lt rb H.out.1.rF)).trans q0, (hx.cell (p := ⟨(a.add (i * 3)).block, (a.add (i * 3)).off + 1, none⟩) hab2).trans c1⟩
    unfold ragg at Hcv
    simp only [← HE.out] at Hcv
    clear hi hk hy hab c0 c2 Hat hm
    go_wp2
    go_region_held3 (fun wx => (wx.cell? ⟨w.heap.size, 0, none⟩ = some (.string r.lo) ∧ wx.cell? ⟨w.heap.size, 1, none⟩ = some (.string r.hi)) ∧ wx.cell? ⟨rb, 2, none⟩ = some (.slice (some a) n c) ∧ wx.cell? ⟨(a.add (i * 3)).block, (a.add (i * 3)).off + 1, none⟩ = some (.slice y.A y.p.L.length y.c)) (first | exact ⟨⟨p0, p1⟩, q0, c1⟩ | exact S2.out | exact HS.out _ (Below.refl _ _).drew)
      (first
        | (go_at_call 24; refine (Hcv.out _ (Below.refl _ _).drew).mono ?_; rintro ee w2 ⟨rfl, b2⟩; have B2 := Lib.hid ((Below.refl _ w1).drew.trans b2); have S2 := Lib.hid (HS.out _ B2.out)))
    have HF := Lib.hid (H.out.2.2.2.1.trans (B2.out.mono H.out.2.2.2.1.size))
    clear S2 B2 b2
    go_wp2
    go_ret
    exact ⟨rfl, HF.out⟩
end
end Go.Proofs.Ytijcaefpainhcaa

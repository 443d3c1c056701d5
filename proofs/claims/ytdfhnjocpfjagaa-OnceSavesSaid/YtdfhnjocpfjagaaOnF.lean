/- Package once: what may be remembered; Keep. Condition: the table and the reply's record are in memory. -/
import Derived.Test.YtdfhnjocpfjagaaOnE
import Derived.Test.YtdfhnjocpfjagaaRecB
import Derived.Deep.RegionHeld3
namespace Go.Proofs.Ytdfhnjocpfjagaa
open Go.RowKit

set_option maxRecDepth 100000 in
theorem beyond_any (x : Int) (w : World) : Calls Try.prog 114 #[.int .i64 x] w fun e w' => e = .returned (.bool (decide (¬ (0 ≤ x ∧ x ≤ 1099511627776)))) ∧ w' = w := by
  by_cases h1 : x < 0
  · have hd : decide (¬ (0 ≤ x ∧ x ≤ 1099511627776)) = true := decide_eq_true (by omega)
    rw [hd]
    clear hd
    go_enter Try.func114, Try.ntmps114
    go_wp2
    go_ret
    exact ⟨rfl, rfl⟩
  · by_cases h2 : 1099511627776 < x
    · have hd : decide (¬ (0 ≤ x ∧ x ≤ 1099511627776)) = true := decide_eq_true (by omega)
      rw [hd]
      clear hd
      go_enter Try.func114, Try.ntmps114
      go_wp2
      go_ret
      exact ⟨rfl, rfl⟩
    · have hd : decide (¬ (0 ≤ x ∧ x ≤ 1099511627776)) = false := decide_eq_false (by omega)
      rw [hd]
      clear hd
      go_enter Try.func114, Try.ntmps114
      go_wp2
      go_ret
      exact ⟨rfl, rfl⟩
theorem recErr_row {l : List TVal} (h : l.length ≠ 0) : recErr l = rowErr l := by unfold recErr; rw [if_neg h]
theorem right_iff {r : Rp} {m : Nat} (h1 : 0 ≤ r.code ∧ r.code ≤ 1099511627776) (h2 : 0 ≤ r.id ∧ r.id ≤ 1099511627776) (h3 : m = 0) : decide (r.Right ∧ m = 0) = decide (rowErr r.rc = 0) := decide_eq_decide.2 ⟨fun h => h.1.2.2, fun h => ⟨⟨h1, h2, h⟩, h3⟩⟩
set_option maxRecDepth 100000 in
set_option maxHeartbeats 3200000 in
theorem right_any (r : Rp) (A : Option Addr) (n d m : Nat) (X : Option Addr) (y B : Nat) (w : World) (h : HasVals w B A n r.rc) (hn : n ≤ maxLen) (hB : B ≤ w.heap.size) (hi : ∀ v ∈ r.rc, InI64 v.n) :
    Calls Try.prog 91 #[.agg #[.int .i64 r.code, .bool r.there, .slice A n d, .slice X m y, .int .i64 r.id]] w fun e w' => e = .returned (.bool (decide (r.Right ∧ m = 0))) ∧ Below w.heap.size w w' := by
  obtain ⟨w1, hw1⟩ : ∃ w1, w.alloc (.cells #[.int .i64 r.code, .bool r.there, .slice A n d, .slice X m y, .int .i64 r.id] 82) = w1 := ⟨_, rfl⟩
  have x1 : Box w1 w.heap.size 82 #[.int .i64 r.code, .bool r.there, .slice A n d, .slice X m y, .int .i64 r.id] := hw1 ▸ Box.made _ _ _
  have b1 : Below w.heap.size w w1 := hw1 ▸ below_box _
  have HB := Lib.hid b1
  have hb1 := fun x => beyond_any x w1
  have Hc := Lib.hid (recCheck_any A n d B r.rc w1 (h.belowOf b1 hB) hn (Nat.le_trans hB b1.size) hi)
  have Hl := Lib.hid h.1
  have p0 : w1.cell? ⟨w.heap.size, 0, none⟩ = some (.int .i64 r.code) := x1.cell 0
  have p1 : w1.cell? ⟨w.heap.size, 1, none⟩ = some (.bool r.there) := x1.cell 1
  have p2 : w1.cell? ⟨w.heap.size, 2, none⟩ = some (.slice A n d) := x1.cell 2
  have p3 : w1.cell? ⟨w.heap.size, 3, none⟩ = some (.slice X m y) := x1.cell 3
  have p4 : w1.cell? ⟨w.heap.size, 4, none⟩ = some (.int .i64 r.id) := x1.cell 4
  obtain ⟨D, hD⟩ : ∃ D, decide (r.Right ∧ m = 0) = D := ⟨_, rfl⟩
  rw [hD]
  have HD := Lib.hid hD
  clear h x1 b1 hD
  by_cases hm : m = 0
  · subst hm
    by_cases hc : 0 ≤ r.code ∧ r.code ≤ 1099511627776
    · have Hb1 := Lib.hid (hb1 r.code)
      rw [decide_eq_false (by omega : ¬ ¬ (0 ≤ r.code ∧ r.code ≤ 1099511627776))] at Hb1
      by_cases hd : 0 ≤ r.id ∧ r.id ≤ 1099511627776
      · have Hb2 := Lib.hid (hb1 r.id)
        rw [decide_eq_false (by omega : ¬ ¬ (0 ≤ r.id ∧ r.id ≤ 1099511627776))] at Hb2
        have E : Hid (D = decide (rowErr r.rc = 0)) := Lib.hid (by rw [← HD.out]; exact right_iff hc hd rfl)
        clear hc hd hb1
        by_cases hn0 : n = 0
        · subst hn0
          have E2 : Hid (D = true) := Lib.hid (by
            rw [E.out]
            have : r.rc = [] := List.eq_nil_of_length_eq_zero Hl.out
            rw [this]
            rfl)
          go_enter Try.func91, Try.ntmps91
          go_wp2_with fail
          refine Hb1.out.mono ?_
          rintro e w2 ⟨rfl, rfl⟩
          go_wp2_with fail
          refine Hb2.out.mono ?_
          rintro e w2 ⟨rfl, rfl⟩
          go_wp2
          go_ret
          exact ⟨ret_bool (by rw [E2.out]), HB.out⟩
        · have hne : ((n : Int) == 0) = false := by simp; omega
          have E2 : Hid (recErr r.rc = rowErr r.rc) := Lib.hid (recErr_row (by rw [Hl.out]; exact hn0))
          clear hn0
          rw [E2.out] at Hc
          by_cases hr : rowErr r.rc = 0
          · have E3 : Hid (D = true) := Lib.hid (by rw [E.out]; exact decide_eq_true hr)
            rw [hr] at Hc
            clear hr
            go_enter Try.func91, Try.ntmps91
            go_wp2_with fail
            refine Hb1.out.mono ?_
            rintro e w2 ⟨rfl, rfl⟩
            go_wp2_with fail
            refine Hb2.out.mono ?_
            rintro e w2 ⟨rfl, rfl⟩
            go_wp2_with fail
            refine Hc.out.mono ?_
            rintro e w2 ⟨rfl, b2⟩
            have HE := Lib.hid (HB.out.trans (b2.mono HB.out.size))
            clear b2
            go_wp2
            go_ret
            exact ⟨ret_bool (by rw [E3.out]), HE.out⟩
          · have E3 : Hid (D = false) := Lib.hid (by rw [E.out]; exact decide_eq_false hr)
            have hz : ((rowErr r.rc : Int) == 0) = false := by simp; omega
            clear hr
            go_enter Try.func91, Try.ntmps91
            go_wp2_with fail
            refine Hb1.out.mono ?_
            rintro e w2 ⟨rfl, rfl⟩
            go_wp2_with fail
            refine Hb2.out.mono ?_
            rintro e w2 ⟨rfl, rfl⟩
            go_wp2_with fail
            refine Hc.out.mono ?_
            rintro e w2 ⟨rfl, b2⟩
            have HE := Lib.hid (HB.out.trans (b2.mono HB.out.size))
            clear b2
            go_wp2
            go_ret
            exact ⟨ret_bool (by rw [E3.out]), HE.out⟩
      · have Hb2 := Lib.hid (hb1 r.id)
        rw [decide_eq_true hd] at Hb2
        have E : Hid (D = false) := Lib.hid (by rw [← HD.out]; exact decide_eq_false fun h => hd h.1.2.1)
        clear hc hd hb1
        go_enter Try.func91, Try.ntmps91
        go_wp2_with fail
        refine Hb1.out.mono ?_
        rintro e w2 ⟨rfl, rfl⟩
        go_wp2_with fail
        refine Hb2.out.mono ?_
        rintro e w2 ⟨rfl, rfl⟩
        go_wp2
        go_ret
        exact ⟨ret_bool (by rw [E.out]), HB.out⟩
    · have Hb1 := Lib.hid (hb1 r.code)
      rw [decide_eq_true hc] at Hb1
      have E : Hid (D = false) := Lib.hid (by rw [← HD.out]; exact decide_eq_false fun h => hc h.1.1)
      clear hc hb1
      go_enter Try.func91, Try.ntmps91
      go_wp2_with fail
      refine Hb1.out.mono ?_
      rintro e w2 ⟨rfl, rfl⟩
      go_wp2
      go_ret
      exact ⟨ret_bool (by rw [E.out]), HB.out⟩
  · have E : Hid (D = false) := Lib.hid (by rw [← HD.out]; exact decide_eq_false fun h => hm h.2)
    have hm0 : (0 : Int) < (m : Int) := by omega
    clear hm hb1
    go_enter Try.func91, Try.ntmps91
    go_wp2
    go_ret
    exact ⟨ret_bool (by rw [E.out]), HB.out⟩
end Go.Proofs.Ytdfhnjocpfjagaa

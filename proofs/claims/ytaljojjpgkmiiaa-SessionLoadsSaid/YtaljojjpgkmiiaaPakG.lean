/- The document's GetText gives what the readers of the plain text (SpecPack) give. Condition: the bytes are in memory. -/
import Derived.Test.YtaljojjpgkmiiaaPakE
import Derived.RegionTactic
namespace Go.Proofs.Ytaljojjpgkmiiaa
open Go.RowKit
open Go.Lib (strCells)

/-- a box that was laid ahead of a call, behind it -/
theorem box_behind {w w1 : World} {t : TypeId} {cs : Array Value} (hb : Below (w.alloc (.cells cs t)).heap.size (w.alloc (.cells cs t)) w1) : Box w1 w.heap.size t cs :=
  (Box.made w t cs).below hb (by simp)

theorem results_box {fn : Func} {s : Tmp} (h : fn.results = #[.cell s 119]) {tmps : Array Value} {g : Nat} (hs : tmps.getD s undef = .pointer (some ⟨g, 0, none⟩)) {w : World} {a b c d e : Value}
    (hb : Box w g 119 #[a, b, c, d, e]) : (results fn tmps).run Try.prog w = .ok (.agg #[a, b, c, d, e]) w := by
  have c0 := hb.cell 0
  have c1 := hb.cell 1
  have c2 := hb.cell 2
  have c3 := hb.cell 3
  have c4 := hb.cell 4
  simp only [List.getElem?_toArray, List.getElem?_cons_zero, List.getElem?_cons_succ] at c0 c1 c2 c3 c4
  have hs2 : tmps[s]?.getD undef = .pointer (some ⟨g, 0, none⟩) := by simpa using hs
  simp [results, h, hs2, go_sem, c0, c1, c2, c3, c4]
theorem Box.drew {w : World} {g : Nat} {t : TypeId} {cs : Array Value} (h : Box w g t cs) : Box w.drew g t cs := h
theorem Box.five {w : World} {g : Nat} {t : TypeId} {a b c d e a' b' c' d' e' : Value} (h : Box w g t #[a, b, c, d, e]) :
    Box (((((w.setCell ⟨g, 0, none⟩ a').setCell ⟨g, 1, none⟩ b').setCell ⟨g, 2, none⟩ c').setCell ⟨g, 3, none⟩ d').setCell ⟨g, 4, none⟩ e') g t #[a', b', c', d', e'] := by
  have := ((((h.set_ 0 a').set_ 1 b').set_ 2 c').set_ 3 d').set_ 4 e'
  simpa using this
theorem below_five {w0 w : World} {g B : Nat} (h : Below B w0 w) (hg : B ≤ g) (a' b' c' d' e' : Value) :
    Below B w0 (((((w.setCell ⟨g, 0, none⟩ a').setCell ⟨g, 1, none⟩ b').setCell ⟨g, 2, none⟩ c').setCell ⟨g, 3, none⟩ d').setCell ⟨g, 4, none⟩ e') :=
  ((((h.setCell hg _).setCell hg _).setCell hg _).setCell hg _).setCell hg _

set_option maxHeartbeats 12800000 in
set_option maxRecDepth 100000 in
theorem refText_any (A : Option Addr) (n c B : Nat) (p most : Int) (l : List UInt8) (w : World) (h : HasBytes w B A n l) (hB : B ≤ w.heap.size) (hn : n ≤ 4611686018427387904) (hnc : n ≤ c) :
    Calls Try.prog 105 #[.slice A n c, .int .i64 p, .int .i64 most] w fun e w' =>
      e = .returned (got 0 (getText l p most).1 (.slice none 0 0) (getText l p most).2.1 (getText l p most).2.2) ∧ Below w.heap.size w w' := by
  have hl := h.len
  obtain ⟨r, hr⟩ : ∃ r, getNum l p = r := ⟨_, rfl⟩
  obtain ⟨x, u, e⟩ := r
  have hcall := fun W (hW : HasBytes W B A n l) (hBW : B ≤ W.heap.size) => refNum_any A n c B p l W hW hBW (by omega)
  rw [hr] at hcall
  have hT : getText l p most = if e ≠ 0 then ([], 0, e) else if most < x then ([], 0, 4) else if l.length - u < x then ([], 0, 2) else ((l.drop u).take x, u + x, 0) := by
    simp only [getText, hr]
  rw [hl] at hT
  have hcall2 := Lib.hid hcall
  clear hcall
  by_cases he : e = 0
  · subst he
    have hbd := getNum_bound (l := l) (p := p) (by rw [hr])
    rw [hr] at hbd
    simp only [hl] at hbd
    rw [if_neg (by omega)] at hT
    have Hl := Lib.hid hl
    clear hl hr
    by_cases hm : most < x
    · rw [if_pos hm] at hT
      have HT := Lib.hid hT
      clear hT
      go_enter Try.func105, Try.ntmps105
      go_wp2_with fail
      refine (hcall2.out _ (h.alloc hB _) (le_alloc hB _)).mono ?_
      rintro e w1 ⟨rfl, hb1⟩
      have hbx := Lib.hid (box_behind hb1)
      have c0 := hbx.out.cell 0
      have c1 := hbx.out.cell 1
      have c2 := hbx.out.cell 2
      have c3 := hbx.out.cell 3
      have c4 := hbx.out.cell 4
      have fz := hbx.out.frozen
      have hlt := hbx.out.lt
      have Hb1 := Lib.hid (((Below.refl _ _).alloc (Nat.le_refl _) _).trans (hb1.mono (by simp)))
      clear hb1
      simp only [List.getElem?_toArray, List.getElem?_cons_zero, List.getElem?_cons_succ] at c0 c1 c2 c3 c4
      unfold got
      go_wp2
      refine bodyPost_ret (results_box rfl rfl (hbx.out.five.alloc _)) rfl ?_
      rw [HT.out]
      exact ⟨rfl, (below_five Hb1.out (Nat.le_refl _) _ _ _ _ _).alloc (by simp; omega) _⟩
    · rw [if_neg hm] at hT
      by_cases hs : n - u < x
      · rw [if_pos hs] at hT
        have HT := Lib.hid hT
        clear hT
        go_enter Try.func105, Try.ntmps105
        go_wp2_with fail
        refine (hcall2.out _ (h.alloc hB _) (le_alloc hB _)).mono ?_
        rintro e w1 ⟨rfl, hb1⟩
        have hbx := Lib.hid (box_behind hb1)
        have c0 := hbx.out.cell 0
        have c1 := hbx.out.cell 1
        have c2 := hbx.out.cell 2
        have c3 := hbx.out.cell 3
        have c4 := hbx.out.cell 4
        have fz := hbx.out.frozen
        have hlt := hbx.out.lt
        have Hb1 := Lib.hid (((Below.refl _ _).alloc (Nat.le_refl _) _).trans (hb1.mono (by simp)))
        clear hb1
        simp only [List.getElem?_toArray, List.getElem?_cons_zero, List.getElem?_cons_succ] at c0 c1 c2 c3 c4
        unfold got
        go_wp2
        refine bodyPost_ret (results_box rfl rfl (hbx.out.five.alloc _)) rfl ?_
        rw [HT.out]
        exact ⟨rfl, (below_five Hb1.out (Nat.le_refl _) _ _ _ _ _).alloc (by simp; omega) _⟩
      · rw [if_neg hs] at hT
        have HT := Lib.hid hT
        clear hT
        have hux : u + x ≤ n := by omega
        have hcv : ∃ A', (if c = u then A else A.map (·.add u)) = A' ∧ ∀ W cap, HasBytes W B A n l → (convert 76 9 (.slice A' x cap)).run Try.prog W = .ok (.string ⟨((l.drop u).take x).toArray⟩) W :=
          ⟨_, rfl, fun W cap hW => run_string_of (P := Try.prog) ((hW.part (by omega) hnc).head (k := x) (by omega)) cap 76 9 5 Try.underlying76 Try.underlying5 Try.underlying9⟩
        obtain ⟨A', hA, hcv⟩ := hcv
        have Hcv := Lib.hid hcv
        clear hcv
        go_enter Try.func105, Try.ntmps105
        go_wp2_with fail
        refine (hcall2.out _ (h.alloc hB _) (le_alloc hB _)).mono ?_
        rintro e w1 ⟨rfl, hb1⟩
        have hbx := Lib.hid (box_behind hb1)
        have c0 := hbx.out.cell 0
        have c1 := hbx.out.cell 1
        have c2 := hbx.out.cell 2
        have c3 := hbx.out.cell 3
        have c4 := hbx.out.cell 4
        have fz := hbx.out.frozen
        have hlt := hbx.out.lt
        have Hb1 := Lib.hid (((Below.refl _ _).alloc (Nat.le_refl _) _).trans (hb1.mono (by simp)))
        clear hb1
        simp only [List.getElem?_toArray, List.getElem?_cons_zero, List.getElem?_cons_succ] at c0 c1 c2 c3 c4
        unfold got
        have hcv : ∀ o cap, (convert 76 9 (.slice A' (u + x - u) cap)).run Try.prog (w1.alloc o).drew = .ok (.string ⟨((l.drop u).take x).toArray⟩) (w1.alloc o).drew := fun o cap => by
          rw [Nat.add_sub_cancel_left]
          exact Hcv.out (w1.alloc o).drew cap ((h.belowOf Hb1.out hB).alloc (by omega) o)
        have hcv2 : ∀ o cap, (convert 76 9 (.slice A' x cap)).run Try.prog (w1.alloc o).drew = .ok (.string ⟨((l.drop u).take x).toArray⟩) (w1.alloc o).drew := fun o cap =>
          Hcv.out (w1.alloc o).drew cap ((h.belowOf Hb1.out hB).alloc (by omega) o)
        go_wp2
        go_region
        all_goals
          go_wp2
          refine bodyPost_ret (results_box rfl rfl (hbx.out.five.alloc _).drew) rfl ?_
          rw [HT.out]
          exact ⟨rfl, ((below_five Hb1.out (Nat.le_refl _) _ _ _ _ _).alloc (by simp; omega) _).drew⟩
  · rw [if_pos he] at hT
    have hgt : 0 < e := by omega
    have h3 := getNum_e_lt l p
    have h0 := getNum_err (l := l) (p := p) (by rw [hr]; exact he)
    rw [hr] at h3 h0
    simp only [Prod.mk.injEq, and_true] at h3 h0
    obtain ⟨rfl, rfl⟩ := h0
    have hei : ((e : Int) == 0) = false := by simp; omega
    have HT := Lib.hid hT
    clear hT hl hr
    go_enter Try.func105, Try.ntmps105
    go_wp2_with fail
    refine (hcall2.out _ (h.alloc hB _) (le_alloc hB _)).mono ?_
    rintro e w1 ⟨rfl, hb1⟩
    have hbx := Lib.hid (box_behind hb1)
    have c0 := hbx.out.cell 0
    have c1 := hbx.out.cell 1
    have c2 := hbx.out.cell 2
    have c3 := hbx.out.cell 3
    have c4 := hbx.out.cell 4
    have fz := hbx.out.frozen
    have hlt := hbx.out.lt
    have Hb1 := Lib.hid (((Below.refl _ _).alloc (Nat.le_refl _) _).trans (hb1.mono (by simp)))
    clear hb1
    simp only [List.getElem?_toArray, List.getElem?_cons_zero, List.getElem?_cons_succ] at c0 c1 c2 c3 c4
    unfold got
    go_wp2
    refine bodyPost_ret (results_box rfl rfl (hbx.out.five.alloc _)) rfl ?_
    rw [HT.out]
    exact ⟨rfl, (below_five Hb1.out (Nat.le_refl _) _ _ _ _ _).alloc (by simp; omega) _⟩

end Go.Proofs.Ytaljojjpgkmiiaa

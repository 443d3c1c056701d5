/- span's Covers. Condition: few ranges with texts that fit, in memory. -/
import Derived.Test.YtijcaefpainhcaaRngF
import Derived.Test.YtijcaefpainhcaaRngM
import Derived.Laws.StructEq
namespace Go.Proofs.Ytijcaefpainhcaa
open Go.RowKit
open Go.Lib (strCells compareBytes)

set_option maxRecDepth 100000 in
set_option maxHeartbeats 1600000 in
theorem cover_any (x r : Rg) (g : Nat) (w : World) (hbx : Box w g 23 #[.string r.lo, .string r.hi]) (hx : x.lo.size ≤ 140737488355328 ∧ x.hi.size ≤ 140737488355328) (hr : r.lo.size ≤ 140737488355328 ∧ r.hi.size ≤ 140737488355328) :
    Calls Try.prog 57 #[ragg x, .pointer (some ⟨g, 0, none⟩)] w fun e w' => e = .returned (.bool (decide (coverR x r))) ∧ Below w.heap.size w w' := by
  have Hm := Lib.hid (fun wx => meet_any x r wx hx hr)
  unfold MeetPost at Hm
  have hgl := hbx.lt
  have HB := Lib.hid hbx
  have p0 := hbx.cell 0
  have p1 := hbx.cell 1
  simp at p0 p1
  obtain ⟨C, hC⟩ : ∃ C, decide (coverR x r) = C := ⟨_, rfl⟩
  rw [hC]
  have hCi : (¬ emptyR (meetR x r) ∧ meetR x r = r) ↔ C = true := by rw [← hC]; exact (decide_eq_true_iff (p := coverR x r)).symm
  obtain ⟨M, hM⟩ : ∃ M, meetR x r = M := ⟨_, rfl⟩
  rw [hM] at hCi
  simp only [hM] at Hm
  have HC := Lib.hid hCi
  obtain ⟨ml, mh⟩ := M
  obtain ⟨xl, xh⟩ := x
  obtain ⟨rl, rh⟩ := r
  unfold ragg at *
  simp only at p0 p1 Hm HB
  clear hM hC hCi hx hr hbx
  by_cases he : emptyR ⟨ml, mh⟩
  · simp only [if_pos he, decide_eq_true he] at Hm
    have E : Hid (C = false) := Lib.hid (Bool.eq_false_iff.2 fun h => (HC.out.2 h).1 he)
    clear he
    go_enter Try.func57, Try.ntmps57
    go_wp2_with fail
    refine (Hm.out _).mono ?_
    rintro e w1 ⟨rfl, b1⟩
    have Hb1 : Hid (Below w.heap.size w w1) := Lib.hid ((below_box _).trans (b1.mono (by simp)))
    clear b1
    go_wp2
    go_ret
    exact ⟨ret_bool E.out.symm, Hb1.out.alloc Hb1.out.size _⟩
  · simp only [if_neg he, decide_eq_false he] at Hm
    have E : Hid (C = decide ((⟨ml, mh⟩ : Rg) = ⟨rl, rh⟩)) := Lib.hid (by
      by_cases hh : (⟨ml, mh⟩ : Rg) = ⟨rl, rh⟩
      · rw [decide_eq_true hh]; exact HC.out.1 ⟨he, hh⟩
      · rw [decide_eq_false hh]; exact Bool.eq_false_iff.2 fun h => hh (HC.out.2 h).2)
    clear he
    go_enter Try.func57, Try.ntmps57
    go_wp2_with fail
    refine (Hm.out _).mono ?_
    rintro e w1 ⟨rfl, b1⟩
    have hb1 : Below w.heap.size w w1 := (below_box _).trans (b1.mono (by simp))
    have hB1 := HB.out.below hb1 hgl
    have q0 := hB1.cell 0
    have q1 := hB1.cell 1
    simp at q0 q1
    have hg1 := hB1.lt
    have Hb1 := Lib.hid hb1
    clear b1 hb1 hB1 p0 p1 hgl
    by_cases hl : ml = rl
    · by_cases hh : mh = rh
      · subst hl
        subst hh
        rw [decide_eq_true rfl] at E
        go_wp2
        go_ret
        exact ⟨ret_bool E.out.symm, Hb1.out.alloc Hb1.out.size _⟩
      · subst hl
        have he2 : (mh.toList == rh.toList) = false := by rw [text_eq]; exact decide_eq_false hh
        rw [decide_eq_false (fun e => hh (congrArg Rg.hi e))] at E
        clear hh
        go_wp2
        go_ret
        exact ⟨ret_bool E.out.symm, Hb1.out.alloc Hb1.out.size _⟩
    · have he1 : (ml.toList == rl.toList) = false := by rw [text_eq]; exact decide_eq_false hl
      rw [decide_eq_false (fun e => hl (congrArg Rg.lo e))] at E
      clear hl
      go_wp2
      go_ret
      exact ⟨ret_bool E.out.symm, Hb1.out.alloc Hb1.out.size _⟩
/-- the place of the first range that has all of r; -1, if none has -/
def CovAt (r : Rg) (l : List Rg) (w : World) (e : Ending) (w' : World) : Prop :=
  Below w.heap.size w w' ∧ ((e = .returned (.int .i64 (-1)) ∧ ∀ c ∈ l, ¬ coverR c r) ∨ ∃ (i : Nat) (c : Rg), e = .returned (.int .i64 (i : Int)) ∧ l[i]? = some c ∧ coverR c r ∧ ∀ c ∈ l.take i, ¬ coverR c r)
set_option maxRecDepth 100000 in
set_option maxHeartbeats 1600000 in
theorem indexCov_any (A : Option Addr) (n c C g : Nat) (l : List Rg) (r : Rg) (w : World) (hbx : Box w g 23 #[.string r.lo, .string r.hi]) (hr : r.lo.size ≤ 140737488355328 ∧ r.hi.size ≤ 140737488355328) (hs : Small 140737488355328 l) (h : HasRgs w C A n l) (hC : C ≤ w.heap.size) (hn : n ≤ 1000000) :
    Calls Try.prog 70 #[.slice A n c, .func (.func 57) #[] #[.pointer (some ⟨g, 0, none⟩)]] w (CovAt r l w) := by
  have H := Lib.hid h
  have Hl := Lib.hid h.1
  have Hc := Lib.hid (fun x wx (hx : x.lo.size ≤ 140737488355328 ∧ x.hi.size ≤ 140737488355328) (hb : Below w.heap.size w wx) => cover_any x r g wx (hbx.below hb hbx.lt) hx hr)
  have Hs := Lib.hid hs
  unfold ragg at Hc
  clear h hs hr hbx
  go_enter Try.func70, Try.ntmps70
  go_wp2
  go_loopw [5, 8] (fun _ iv wr => ∃ k : Nat, k ≤ n ∧ iv = .int .i64 (k : Int) ∧ Hid (∀ c ∈ l.take k, ¬ coverR c r) ∧ Below w.heap.size w wr) (fun _ iv _ => n - (intOf iv).toNat)
  case atStart => exact ⟨0, by omega, rfl, Lib.hid (by simp), Below.refl _ _⟩
  case round =>
    obtain ⟨k, hk, rfl, Hp, hb⟩ := hrel
    have Hb := Lib.hid hb
    have hsz := hb.size
    clear hb
    by_cases hlt : k < n
    · obtain ⟨a, y, rfl, hab, hy, c0, c1⟩ := (H.out.belowOf Hb.out hC).at_ hlt
      have Hy := Lib.hid hy
      have hk0 : (0 : Int) ≤ (k : Int) := by omega
      have hk1 : (k : Int) < (n : Int) := by omega
      obtain ⟨yk, yv⟩ := y
      have Hc1 := Lib.hid (Hc.out ⟨yk, yv⟩ wr (Hs.out _ (List.mem_of_getElem? hy)) Hb.out)
      simp only at c0 c1 Hc1
      obtain ⟨yg, hyg⟩ : ∃ yg, decide (coverR ⟨yk, yv⟩ r) = yg := ⟨_, rfl⟩
      rw [hyg] at Hc1
      have Hyg := Lib.hid hyg
      clear hy hyg
      cases yg with
      | false =>
        have Hp1 : Hid (∀ c ∈ l.take (k + 1), ¬ coverR c r) := Lib.hid (by
          rw [List.take_add_one, Hy.out]
          intro x hx
          rcases List.mem_append.1 hx with hx | hx
          · exact Hp.out x hx
          · simp at hx; subst hx; exact of_decide_eq_false Hyg.out)
        go_wp2_with fail
        refine Hc1.out.mono ?_
        rintro e w2 ⟨rfl, hb2⟩
        have Hb2 := Lib.hid (Hb.out.trans (hb2.mono hsz))
        clear hb2
        go_wp2
        go_roundw
        case rel => exact ⟨k + 1, by omega, by go_num, Hp1, Hb2.out⟩
        case measure => simp [intOf]; omega
      | true =>
        go_wp2_with fail
        refine Hc1.out.mono ?_
        rintro e w2 ⟨rfl, hb2⟩
        have Hb2 := Lib.hid (Hb.out.trans (hb2.mono hsz))
        clear hb2
        go_wp2
        go_ret
        exact ⟨Hb2.out, .inr ⟨k, _, rfl, Hy.out, of_decide_eq_true Hyg.out, Hp.out⟩⟩
    · have E : Hid (∀ c ∈ l, ¬ coverR c r) := Lib.hid (by have h1 := Hp.out; rwa [List.take_of_length_le (by have := Hl.out; omega)] at h1)
      obtain rfl : k = n := by omega
      go_wp2
      go_ret
      exact ⟨Hb.out, .inl ⟨rfl, E.out⟩⟩
set_option maxRecDepth 100000 in
theorem contCov_any (A : Option Addr) (n c C g : Nat) (l : List Rg) (r : Rg) (w : World) (hbx : Box w g 23 #[.string r.lo, .string r.hi]) (hr : r.lo.size ≤ 140737488355328 ∧ r.hi.size ≤ 140737488355328) (hs : Small 140737488355328 l) (h : HasRgs w C A n l) (hC : C ≤ w.heap.size) (hn : n ≤ 1000000) :
    Calls Try.prog 56 #[.slice A n c, .func (.func 57) #[] #[.pointer (some ⟨g, 0, none⟩)]] w fun e w' => e = .returned (.bool (decide (∃ x ∈ l, coverR x r))) ∧ Below w.heap.size w w' := by
  have Hc := Lib.hid (indexCov_any A n c C g l r w hbx hr hs h hC hn)
  obtain ⟨D, hD⟩ : ∃ D, decide (∃ x ∈ l, coverR x r) = D := ⟨_, rfl⟩
  rw [hD]
  have HD := Lib.hid hD
  clear hbx hr hs h hC hn hD
  go_enter Try.func56, Try.ntmps56
  go_wp2_with fail
  refine Hc.out.mono ?_
  rintro e w1 ⟨b1, ⟨rfl, hn⟩ | ⟨i, x, rfl, hx, hc, -⟩⟩
  · have E : Hid (D = false) := Lib.hid (by rw [← HD.out]; exact decide_eq_false fun ⟨x, hx, hc⟩ => hn x hx hc)
    have Hb := Lib.hid b1
    clear b1 hn
    go_wp2
    go_ret
    exact ⟨ret_bool E.out.symm, Hb.out⟩
  · have E : Hid (D = true) := Lib.hid (by rw [← HD.out]; exact decide_eq_true ⟨x, List.mem_of_getElem? hx, hc⟩)
    have Hb := Lib.hid b1
    have hi : decide ((0 : Int) ≤ (i : Int)) = true := decide_eq_true (by omega)
    clear b1 hx hc
    go_wp2
    go_ret
    exact ⟨ret_bool E.out.symm, Hb.out⟩
set_option maxRecDepth 100000 in
set_option maxHeartbeats 1600000 in
theorem covers_any (A : Option Addr) (n c C K : Nat) (l : List Rg) (r : Rg) (w : World) (h : HasRgs w C A n l) (hC : C ≤ w.heap.size) (hn : n ≤ 100000) (hK : Small K l) (hK2 : K ≤ 140737488355328) (hr : r.lo.size ≤ K ∧ r.hi.size ≤ K) :
    Calls Try.prog 23 #[.slice A n c, ragg r] w fun e w' => e = .returned (.bool (coversB l r)) ∧ Below w.heap.size w w' := by
  have Hem := Lib.hid (fun wx => empty_any r wx)
  have Hle := Lib.hid (fun wx (hx : Below w.heap.size w wx) => least_any A n c C K l wx (h.belowOf hx hC) (Nat.le_trans hC hx.size) hn hK hK2)
  have hrK : r.lo.size ≤ 140737488355328 ∧ r.hi.size ≤ 140737488355328 := ⟨Nat.le_trans hr.1 hK2, Nat.le_trans hr.2 hK2⟩
  have Hct := Lib.hid (fun A' n' c' m wx hbx (hs : Small K m) hm hn' => contCov_any A' n' c' wx.heap.size w.heap.size m r wx hbx hrK (fun x hx => ⟨Nat.le_trans (hs x hx).1 hK2, Nat.le_trans (hs x hx).2 hK2⟩) hm (Nat.le_refl _) hn')
  obtain ⟨CB, hCB⟩ : ∃ b, coversB l r = b := ⟨_, rfl⟩
  rw [hCB]
  have HCB := Lib.hid hCB
  obtain ⟨d, hd⟩ : ∃ d, decide (emptyR r) = d := ⟨_, rfl⟩
  simp only [hd] at Hem
  have Hd := Lib.hid hd
  clear h hC hK hr hCB hrK hd
  obtain ⟨rl, rh⟩ := r
  unfold ragg at *
  simp only at Hct Hem
  have HBx : Hid (∀ wx, Below (w.alloc (.cells #[.string rl, .string rh] 23)).heap.size (w.alloc (.cells #[.string rl, .string rh] 23)) wx → Box wx w.heap.size 23 #[.string rl, .string rh] ∧ Below w.heap.size w wx) := Lib.hid fun wx hx =>
    ⟨(Box.made _ _ _).below hx (by simp), (below_box _).trans (hx.mono (by simp))⟩
  cases d with
  | true =>
    have E : Hid (CB = true) := Lib.hid (by rw [← HCB.out]; exact coversB_true fun s hs => absurd hs (has_empty (of_decide_eq_true Hd.out) s))
    go_enter Try.func23, Try.ntmps23
    go_wp2_with fail
    refine (Hem.out _).mono ?_
    rintro e w1 ⟨rfl, b1⟩
    have Hb1 := Lib.hid (HBx.out w1 b1).2
    clear b1
    go_wp2
    go_ret
    exact ⟨ret_bool E.out.symm, Hb1.out⟩
  | false =>
    go_enter Try.func23, Try.ntmps23
    go_wp2_with fail
    refine (Hem.out _).mono ?_
    rintro e w1 ⟨rfl, b1⟩
    have Hb1 := Lib.hid b1
    have Hle1 := Lib.hid (Hle.out w1 (HBx.out w1 b1).2)
    clear b1
    go_wp2_with fail
    refine Hle1.out.mono ?_
    rintro e w2 ⟨m, v, rfl, om, fm, lm, sm, bm⟩
    have Hb2 := Lib.hid (Hb1.out.trans (bm.mono Hb1.out.size))
    obtain ⟨Am, cm, rfl, -, -, hxm⟩ := om.slice
    have Hct1 := Lib.hid (Hct.out Am m.length cm m w2 (HBx.out w2 Hb2.out).1 sm hxm (by omega))
    have E : Hid (decide (∃ x ∈ m, coverR x ⟨rl, rh⟩) = CB) := Lib.hid (by
      rw [← HCB.out]
      have h1 := covers_iff fm.1 ⟨rl, rh⟩
      by_cases h2 : ∃ x ∈ m, coverR x ⟨rl, rh⟩
      · rw [decide_eq_true h2, coversB_true fun s hs => (fm.2 s).1 (h1.1 (.inr h2) s hs)]
      · rw [decide_eq_false h2, coversB_false fun hh => ?_]
        rcases h1.2 (fun s hs => (fm.2 s).2 (hh s hs)) with h3 | h3
        · exact of_decide_eq_false Hd.out h3
        · exact h2 h3)
    rw [E.out] at Hct1
    clear om fm lm sm bm hxm E
    go_wp2_with fail
    refine Hct1.out.mono ?_
    rintro e w3 ⟨rfl, b3⟩
    have Hb3 := Lib.hid ((HBx.out w2 Hb2.out).2.trans (b3.mono (HBx.out w2 Hb2.out).2.size))
    clear b3
    go_wp2
    go_ret
    exact ⟨rfl, Hb3.out⟩

end Go.Proofs.Ytijcaefpainhcaa

/- The document’s Merge. Condition: the map is in memory.
-/
import Derived.Test.YtnfnjhnfpcbdfaaAtK
namespace Go.Proofs.Ytnfnjhnfpcbdfaa
open Go.RowKit
open Go.Lib (strCells compareBytes)

def mergeK (l : List Pt) (i : Nat) (k : Nat) : List Pt := if k ≤ i then l.take k else l.take i ++ (l.take k).drop (i + 1)
theorem mergeK_len (l : List Pt) (i : Nat) (k : Nat) : (mergeK l i k).length ≤ k + 1 := by unfold mergeK; split <;> simp only [List.length_append, List.length_drop, List.length_take] <;> omega
theorem mergeK_step {l : List Pt} {i k : Nat} {p : Pt} (hp : l[k]? = some p) (hk : k ≠ i) : mergeK l i (k + 1) = mergeK l i k ++ [p] := by
  have hkl := (List.getElem?_eq_some_iff.1 hp).1
  unfold mergeK
  rw [take_snocP hp]
  by_cases h : k < i
  · rw [if_pos (by omega), if_pos (by omega)]
  · rw [if_neg (by omega), if_neg (by omega), List.drop_append_of_le_length (by rw [List.length_take]; omega), List.append_assoc]
theorem mergeK_at {l : List Pt} {i : Nat} : mergeK l i (i + 1) = mergeK l i i := by
  unfold mergeK
  rw [if_neg (by omega), if_pos (Nat.le_refl _), List.drop_of_length_le (by rw [List.length_take]; omega), List.append_nil]
theorem merge_nil {l : List Pt} (h : RightP l) : mergeP l ⟨#[]⟩ = none := by
  obtain ⟨p, hp⟩ : ∃ p, l[0]? = some p := ⟨_, List.getElem?_eq_getElem (by have := h.one; omega)⟩
  have h1 : 0 = holdN l (⟨#[]⟩ : ByteArray).data.toList := begins_hold h (hold_is h _) hp (h.head p hp)
  unfold mergeP
  rw [← h1]
  exact if_pos (.inl rfl)
theorem merge_none {l : List Pt} {s : ByteArray} {i : Nat} {p : Pt} (hi : holdN l s.data.toList = i) (hp : l[i]? = some p) (h : i = 0 ∨ p.lb ≠ s.data.toList ∨ p.n ≠ (ptAt l (i - 1)).n) : mergeP l s = none := by
  unfold mergeP
  rw [hi, ptAt_of hp]
  exact if_pos h
theorem merge_some {l : List Pt} {s : ByteArray} {i n : Nat} {p : Pt} (hi : holdN l s.data.toList = i) (hp : l[i]? = some p) (hl : l.length = n) (h : ¬ (i = 0 ∨ p.lb ≠ s.data.toList ∨ p.n ≠ (ptAt l (i - 1)).n)) : mergeP l s = some (mergeK l i n) := by
  subst hl
  have hil := (List.getElem?_eq_some_iff.1 hp).1
  unfold mergeK
  rw [if_neg (by omega), List.take_length]
  unfold mergeP
  rw [hi, ptAt_of hp]
  exact if_neg h
set_option maxRecDepth 100000 in
set_option maxHeartbeats 12800000 in
theorem refMerge_any (ep : Int) (A : Option Addr) (n c C : Nat) (l : List Pt) (s : ByteArray) (w : World) (h : HasPts w C A n l) (hC : C ≤ w.heap.size) (hn : n ≤ maxLen) (hs : ∀ p ∈ l, p.lo.size ≤ maxLen) :
    Calls Try.prog 34 #[.agg #[.int .i64 ep, .slice A n c], .string s] w (MapPost (goT ep l (mergeP l s)) w) := by
  have Hc := Lib.hid (refCheck_any ep A n c C l ((w.alloc (.cells #[.int .i64 ep, .slice A n c] 24)).alloc (.cells #[.int .i64 0, .slice none 0 0] 24)) ((h.alloc hC _).alloc (by simp; omega) _) (by simp; omega) hn hs)
  have HM := Lib.hid (fun wx (hx : Below ((w.alloc (.cells #[.int .i64 ep, .slice A n c] 24)).alloc (.cells #[.int .i64 0, .slice none 0 0] 24)).heap.size ((w.alloc (.cells #[.int .i64 ep, .slice A n c] 24)).alloc (.cells #[.int .i64 0, .slice none 0 0] 24)) wx) => go_boxes hx)
  have HA : Hid (∀ wx, Below ((w.alloc (.cells #[.int .i64 ep, .slice A n c] 24)).alloc (.cells #[.int .i64 0, .slice none 0 0] 24)).heap.size ((w.alloc (.cells #[.int .i64 ep, .slice A n c] 24)).alloc (.cells #[.int .i64 0, .slice none 0 0] 24)) wx → HasPts wx C A n l) := Lib.hid fun wx hx => h.belowOf (go_boxes hx).2.2.1 hC
  have HF := Lib.hid (fun wx (hx : Below ((w.alloc (.cells #[.int .i64 ep, .slice A n c] 24)).alloc (.cells #[.int .i64 0, .slice none 0 0] 24)).heap.size ((w.alloc (.cells #[.int .i64 ep, .slice A n c] 24)).alloc (.cells #[.int .i64 0, .slice none 0 0] 24)) wx) => refFind_any ep A n c C l s wx (h.belowOf (go_boxes hx).2.2.1 hC) (Nat.le_trans hC (go_boxes hx).2.2.1.size) hn hs)
  have HBg := Lib.hid (fun wx (hx : Below ((w.alloc (.cells #[.int .i64 ep, .slice A n c] 24)).alloc (.cells #[.int .i64 0, .slice none 0 0] 24)).heap.size ((w.alloc (.cells #[.int .i64 ep, .slice A n c] 24)).alloc (.cells #[.int .i64 0, .slice none 0 0] 24)) wx) hr => refBegins_any ep A n c C l s wx (h.belowOf (go_boxes hx).2.2.1 hC) (Nat.le_trans hC (go_boxes hx).2.2.1.size) hr)
  have Hl := Lib.hid h.1
  obtain ⟨z, hz⟩ : ∃ z, checkT ep l = z := ⟨_, rfl⟩
  have Hz := Lib.hid hz
  obtain ⟨m, hm⟩ : ∃ m, goT ep l (mergeP l s) = m := ⟨_, rfl⟩
  have Hm := Lib.hid hm
  rw [hm]
  unfold CheckPost at Hc
  rw [hz] at Hc
  clear h hs hz hm
  go_enter Try.func34, Try.ntmps34
  go_wp2_with fail
  refine Hc.out.mono ?_
  rintro e w1 ⟨rfl, hb1⟩
  have Hb1 := Lib.hid hb1
  obtain ⟨hx1, hx2, hbw, hsz1⟩ := HM.out w1 hb1
  have HW1 := Lib.hid hbw
  have HX1 := Lib.hid hx2
  have q0 : w1.cell? ⟨w.heap.size, 0, none⟩ = some (.int .i64 ep) := hx1.cell 0
  have q1 : w1.cell? ⟨w.heap.size, 1, none⟩ = some (.slice A n c) := hx1.cell 1
  have r0 : w1.cell? ⟨w.heap.size + 1, 0, none⟩ = some (.int .i64 0) := hx2.cell 0
  have r1 : w1.cell? ⟨w.heap.size + 1, 1, none⟩ = some (.slice none 0 0) := hx2.cell 1
  have f0 : w1.frozen? ⟨w.heap.size + 1, 0, none⟩ = false := hx2.frozen 0
  have f1 : w1.frozen? ⟨w.heap.size + 1, 1, none⟩ = false := hx2.frozen 1
  clear hx1 hx2 hbw
  by_cases h0 : z = 0
  · subst h0
    have HR : Hid (1 ≤ ep ∧ ep ≤ 1099511627776 ∧ RightP l) := Lib.hid (check_zero.1 Hz.out)
    have HC0 : Hid (¬ checkT ep l ≠ 0) := Lib.hid fun h => h Hz.out
    have hn8 : n ≤ 8 := by have := HR.out.2.2.most; have := Hl.out; omega
    obtain ⟨a, rfl⟩ : ∃ a, A = some a := by
      obtain ⟨a, -, h9, -⟩ := (HA.out w1 hb1).at_ (i := 0) (by have := HR.out.2.2.one; have := Hl.out; omega)
      exact ⟨a, h9⟩
    have HHi := Lib.hid (hold_is HR.out.2.2 s.data.toList)
    obtain ⟨i, hi⟩ : ∃ i, holdN l s.data.toList = i := ⟨_, rfl⟩
    have Hi := Lib.hid hi
    rw [hi] at HHi
    obtain ⟨pi, hpi⟩ : ∃ p, l[i]? = some p := ⟨_, HHi.out.1.choose_spec.1⟩
    have Hpi := Lib.hid hpi
    have hin : i < n := by have := (List.getElem?_eq_some_iff.1 hpi).1; have := Hl.out; omega
    have hFe : findT ep l s.data.toList = (i, true) := by unfold findT; rw [if_pos Hz.out, hi]
    rw [hFe] at HF
    clear hFe hi hpi hb1 Hc
    have hbe0 : begT l s = if pi.lb = s.data.toList then (i : Int) else -1 := by unfold begT; rw [Hi.out, ptAt_of Hpi.out]
    obtain ⟨bt, hbt⟩ : ∃ bt, begT l s = bt := ⟨_, rfl⟩
    rw [hbt] at hbe0 HBg
    have HBT := Lib.hid hbe0
    clear hbe0 hbt
    go_wp2_with fail
    refine (HBg.out w1 Hb1.out HR.out.2.2).mono ?_
    rintro e w2 ⟨rfl, b2⟩
    have Hb2 := Lib.hid (Hb1.out.trans (b2.mono Hb1.out.size))
    clear q0 q1 r0 r1 f0 f1 b2
    obtain ⟨hx1, hx2, hbw, hsz2⟩ := HM.out w2 Hb2.out
    have Hw5 := Lib.hid hbw
    have HX2 := Lib.hid hx2
    have q0 : w2.cell? ⟨w.heap.size, 0, none⟩ = some (.int .i64 ep) := hx1.cell 0
    have q1 : w2.cell? ⟨w.heap.size, 1, none⟩ = some (.slice (some a) n c) := hx1.cell 1
    have r0 : w2.cell? ⟨w.heap.size + 1, 0, none⟩ = some (.int .i64 0) := hx2.cell 0
    have r1 : w2.cell? ⟨w.heap.size + 1, 1, none⟩ = some (.slice none 0 0) := hx2.cell 1
    have f0 : w2.frozen? ⟨w.heap.size + 1, 0, none⟩ = false := hx2.frozen 0
    have f1 : w2.frozen? ⟨w.heap.size + 1, 1, none⟩ = false := hx2.frozen 1
    clear hx1 hx2 hbw
    by_cases hs0 : s = ⟨#[]⟩
    · subst hs0
      go_wp2
      go_quiet (fail)
      have Hb5 := Lib.hid (below_dr Hb2.out nq)
      generalize World.drewN w2 nq = w5 at Hb5 ⊢
      clear q0 q1 r0 r1 f0 f1
      obtain ⟨hx1, hx2, hbw, hsz5⟩ := HM.out w5 Hb5.out
      have HW5 := Lib.hid hbw
      have HX5 := Lib.hid hx2
      have q0 : w5.cell? ⟨w.heap.size, 0, none⟩ = some (.int .i64 ep) := hx1.cell 0
      have q1 : w5.cell? ⟨w.heap.size, 1, none⟩ = some (.slice (some a) n c) := hx1.cell 1
      have r0 : w5.cell? ⟨w.heap.size + 1, 0, none⟩ = some (.int .i64 0) := hx2.cell 0
      have r1 : w5.cell? ⟨w.heap.size + 1, 1, none⟩ = some (.slice none 0 0) := hx2.cell 1
      have f0 : w5.frozen? ⟨w.heap.size + 1, 0, none⟩ = false := hx2.frozen 0
      have f1 : w5.frozen? ⟨w.heap.size + 1, 1, none⟩ = false := hx2.frozen 1
      clear hx1 hx2 hbw
      have hrn := merge_nil HR.out.2.2
      obtain rfl : m = (0, [], 14) := by rw [← Hm.out]; unfold goT; rw [if_neg HC0.out, hrn]
      obtain ⟨p0, p1, hbe⟩ := go_res (.int .i64 0) (.slice none 0 0) HX5.out HW5.out
      have HBE := Lib.hid hbe
      obtain ⟨W3, hW3⟩ : ∃ W3, ((w5.setCell ⟨w.heap.size + 1, 0, none⟩ (.int .i64 0)).setCell ⟨w.heap.size + 1, 1, none⟩ (.slice none 0 0)) = W3 := ⟨_, rfl⟩
      rw [hW3] at p0 p1 HBE
      clear hbe hrn
      go_wp2
      refine bodyPost_ret (v := .tuple #[.agg #[.int .i64 0, .slice none 0 0], .int .i64 14]) ?_ rfl (MapPost.err 14 HBE.out)
      simp [results, Try.results34, go_sem, p0, p1]
    have hnil := text_nil hs0
    by_cases hb1 : bt < 1
    · have hd1 : decide (bt < 1) = true := decide_eq_true hb1
      have Hb1' := Lib.hid hb1
      go_wp2
      go_quiet (fail)
      have Hb5 := Lib.hid (below_dr Hb2.out nq)
      generalize World.drewN w2 nq = w5 at Hb5 ⊢
      clear q0 q1 r0 r1 f0 f1
      obtain ⟨hx1, hx2, hbw, hsz5⟩ := HM.out w5 Hb5.out
      have HW5 := Lib.hid hbw
      have HX5 := Lib.hid hx2
      have q0 : w5.cell? ⟨w.heap.size, 0, none⟩ = some (.int .i64 ep) := hx1.cell 0
      have q1 : w5.cell? ⟨w.heap.size, 1, none⟩ = some (.slice (some a) n c) := hx1.cell 1
      have r0 : w5.cell? ⟨w.heap.size + 1, 0, none⟩ = some (.int .i64 0) := hx2.cell 0
      have r1 : w5.cell? ⟨w.heap.size + 1, 1, none⟩ = some (.slice none 0 0) := hx2.cell 1
      have f0 : w5.frozen? ⟨w.heap.size + 1, 0, none⟩ = false := hx2.frozen 0
      have f1 : w5.frozen? ⟨w.heap.size + 1, 1, none⟩ = false := hx2.frozen 1
      clear hx1 hx2 hbw
      have hrn := merge_none Hi.out Hpi.out (by have h8 := HBT.out; split at h8; exact .inl (by have := Hb1'.out; omega); exact .inr (.inl (by assumption)))
      obtain rfl : m = (0, [], 14) := by rw [← Hm.out]; unfold goT; rw [if_neg HC0.out, hrn]
      obtain ⟨p0, p1, hbe⟩ := go_res (.int .i64 0) (.slice none 0 0) HX5.out HW5.out
      have HBE := Lib.hid hbe
      obtain ⟨W3, hW3⟩ : ∃ W3, ((w5.setCell ⟨w.heap.size + 1, 0, none⟩ (.int .i64 0)).setCell ⟨w.heap.size + 1, 1, none⟩ (.slice none 0 0)) = W3 := ⟨_, rfl⟩
      rw [hW3] at p0 p1 HBE
      clear hbe hrn
      go_wp2
      refine bodyPost_ret (v := .tuple #[.agg #[.int .i64 0, .slice none 0 0], .int .i64 14]) ?_ rfl (MapPost.err 14 HBE.out)
      simp [results, Try.results34, go_sem, p0, p1]
    have hd1 : decide (bt < 1) = false := decide_eq_false hb1
    have hlb : pi.lb = s.data.toList := by
      by_cases h9 : pi.lb = s.data.toList
      · exact h9
      · have h8 := HBT.out; rw [if_neg h9] at h8; omega
    obtain rfl : bt = (i : Int) := by have h8 := HBT.out; rw [if_pos hlb] at h8; exact h8
    have Hlb := Lib.hid hlb
    obtain ⟨j, hj⟩ : ∃ j, i - 1 = j := ⟨_, rfl⟩
    obtain ⟨a', p, ha, -, hp, -, c1⟩ := (HA.out w2 Hb2.out).at_ hin
    injection ha with ha
    subst ha
    obtain rfl : p = pi := by have h9 := Hpi.out; rw [hp] at h9; injection h9
    obtain ⟨a', q, ha, -, hq, -, e1⟩ := (HA.out w2 Hb2.out).at_ (i := j) (by omega)
    injection ha with ha
    subst ha
    have hqn : (ptAt l (i - 1)).n = q.n := by rw [hj, ptAt_of hq]
    have Hqn := Lib.hid hqn
    obtain ⟨plo, pn⟩ := p
    obtain ⟨qlo, qn⟩ := q
    simp only at c1 e1
    have hij : (i : Int) - 1 = (j : Int) := by omega
    have hwj : IntKind.i64.wrap ((i : Int) - 1) = (j : Int) := by rw [hij]; exact IntWalk.i64_in _ (by omega)
    have hwj2 : IntKind.i64.wrap (j : Int) = (j : Int) := IntWalk.i64_in _ (by omega)
    have hi0 : (0 : Int) ≤ (i : Int) := by omega
    have hi1 : (i : Int) < (n : Int) := by omega
    have hj0 : (0 : Int) ≤ (j : Int) := by omega
    have hj1 : (j : Int) < (n : Int) := by omega
    have Hi1 : Hid (1 ≤ i) := Lib.hid (by omega)
    clear hp hq hlb hqn hj
    by_cases hpn : pn = qn
    · have hd : (pn == qn) = true := by simpa using hpn
      have hdn : (pn != qn) = false := by simpa using hpn
      have hsome := merge_some (s := s) Hi.out Hpi.out Hl.out (by rintro (h9 | h9 | h9); exact absurd h9 (by have := Hi1.out; omega); exact h9 Hlb.out; exact h9 (by rw [Hqn.out]; exact hpn))
      have Hsome := Lib.hid hsome
      clear hpn hsome
      go_wp2
      go_quiet (fail)
      have Hb5 := Lib.hid (below_dr Hb2.out nq)
      generalize World.drewN w2 nq = w5 at Hb5 ⊢
      clear q0 q1 r0 r1 f0 f1
      obtain ⟨hx1, hx2, hbw, hsz5⟩ := HM.out w5 Hb5.out
      have HW5 := Lib.hid hbw
      have HX5 := Lib.hid hx2
      have q0 : w5.cell? ⟨w.heap.size, 0, none⟩ = some (.int .i64 ep) := hx1.cell 0
      have q1 : w5.cell? ⟨w.heap.size, 1, none⟩ = some (.slice (some a) n c) := hx1.cell 1
      have r0 : w5.cell? ⟨w.heap.size + 1, 0, none⟩ = some (.int .i64 0) := hx2.cell 0
      have r1 : w5.cell? ⟨w.heap.size + 1, 1, none⟩ = some (.slice none 0 0) := hx2.cell 1
      have f0 : w5.frozen? ⟨w.heap.size + 1, 0, none⟩ = false := hx2.frozen 0
      have f1 : w5.frozen? ⟨w.heap.size + 1, 1, none⟩ = false := hx2.frozen 1
      clear hx1 hx2 hbw
      by_cases he : ep = 1099511627776
      · have hde : (ep == 1099511627776) = true := by simpa using he
        obtain rfl : m = (0, [], 4) := by rw [← Hm.out]; unfold goT; rw [if_neg HC0.out, Hsome.out]; exact if_pos he
        obtain ⟨p0, p1, hbe⟩ := go_res (.int .i64 0) (.slice none 0 0) HX5.out HW5.out
        have HBE := Lib.hid hbe
        obtain ⟨W3, hW3⟩ : ∃ W3, ((w5.setCell ⟨w.heap.size + 1, 0, none⟩ (.int .i64 0)).setCell ⟨w.heap.size + 1, 1, none⟩ (.slice none 0 0)) = W3 := ⟨_, rfl⟩
        rw [hW3] at p0 p1 HBE
        clear hbe he
        go_wp2
        refine bodyPost_ret (v := .tuple #[.agg #[.int .i64 0, .slice none 0 0], .int .i64 4]) ?_ rfl (MapPost.err 4 HBE.out)
        simp [results, Try.results34, go_sem, p0, p1]
      have hde : (ep == 1099511627776) = false := by simpa using he
      obtain rfl : m = (ep + 1, mergeK l i n, 0) := by rw [← Hm.out]; unfold goT; rw [if_neg HC0.out, Hsome.out]; exact if_neg he
      have hwe : IntKind.i64.wrap (ep + 1) = ep + 1 := IntWalk.i64_in _ (by have := HR.out; omega)
      obtain ⟨g, hg⟩ : ∃ g, w5.heap.size = g := ⟨_, rfl⟩
      have HBo : Hid (Box (w5.alloc (.cells #[.int .i64 (ep + 1), .slice none 0 0] 24)) g 24 #[.int .i64 (ep + 1), .slice none 0 0] ∧ Below g w5 (w5.alloc (.cells #[.int .i64 (ep + 1), .slice none 0 0] 24)) ∧ g + 1 ≤ (w5.alloc (.cells #[.int .i64 (ep + 1), .slice none 0 0] 24)).heap.size) := Lib.hid (by subst hg; exact ⟨Box.made _ _ _, below_box _, by simp⟩)
      have Hgw : Hid (w.heap.size + 2 ≤ g) := Lib.hid (by omega)
      have Hg := Lib.hid hg
      have HK : Hid (∀ wx, Below g w5 wx → HasPts wx C (some a) n l ∧ (wx.cell? ⟨w.heap.size, 0, none⟩ = some (.int .i64 ep) ∧ wx.cell? ⟨w.heap.size, 1, none⟩ = some (.slice (some a) n c)) ∧ Box wx (w.heap.size + 1) 24 #[.int .i64 0, .slice none 0 0] ∧ Below w.heap.size w wx) := Lib.hid fun wx hx => by
        have h1 := Hb5.out.trans (hx.mono (by have := Hb5.out.size; omega))
        obtain ⟨hx1, hx2, hbw, -⟩ := HM.out wx h1
        exact ⟨HA.out wx h1, ⟨hx1.cell 0, hx1.cell 1⟩, hx2, hbw⟩
      clear he r0 r1 f0 f1 
      go_wp2
      go_loopw [9] (fun iv wr => ∃ (k : Nat) (v : Value), k ≤ n ∧ iv = .int .i64 (k : Int) ∧ OwnPts wr (g + 1) v (mergeK l i k) ∧ Box wr g 24 #[.int .i64 (ep + 1), v] ∧ Below g w5 wr ∧ g + 1 ≤ wr.heap.size) (fun iv _ => n - (intOf iv).toNat)
      case atStart => exact ⟨0, _, by omega, rfl, by rw [(show mergeK l i 0 = [] from if_pos (Nat.zero_le _))]; exact OwnPts.nil _ _, HBo.out.1, HBo.out.2.1, HBo.out.2.2⟩
      case round =>
        obtain ⟨k, v, hk, rfl, ho, hbx, hb, hgs⟩ := hrel
        have Hb := Lib.hid hb
        have HBx := Lib.hid hbx
        have Ho := Lib.hid ho
        have q1 := (HK.out wr hb).2.1.2
        have HLl : Hid ((mergeK l i k).length ≤ k + 1) := Lib.hid (mergeK_len l i k)
        obtain ⟨Ao, co, rfl, -, -, -⟩ := ho.slice
        obtain ⟨N, hN⟩ : ∃ N, (mergeK l i k).length = N := ⟨_, rfl⟩
        have HN := Lib.hid hN
        rw [hN] at hbx HBx Ho HLl
        have y0 : wr.cell? ⟨g, 0, none⟩ = some (.int .i64 (ep + 1)) := hbx.cell 0
        have y1 : wr.cell? ⟨g, 1, none⟩ = some (.slice Ao N co) := hbx.cell 1
        have hnb : (Value.slice Ao N co).ownBlock ≠ some g := fun e => by have := (Ho.out.lt _ e).1; omega
        have Hnb := Lib.hid hnb
        by_cases hlt : k < n
        · obtain ⟨a', p, ha, hab, hp, c0, c1⟩ := (HK.out wr hb).1.at_ hlt
          injection ha with ha
          subst ha
          have Hp := Lib.hid hp
          obtain ⟨plo1, pn1⟩ := p
          simp only at c0 c1
          have hk0 : (0 : Int) ≤ (k : Int) := by omega
          have hk1 : (k : Int) < (n : Int) := by omega
          clear hp hab hb hbx ho hN hnb
          have HOp : Hid (∀ wx, Below wr.heap.size wr wx → wx.ownsRow (g + 1) 46 2 (.slice Ao N co) N (ptCells (mergeK l i k))) := Lib.hid fun wx hx => by
            have h9 := Ho.out.below hx
            unfold OwnPts at h9
            rw [HN.out] at h9
            exact h9
          have HBp : Hid (∀ wx, Below wr.heap.size wr wx → Box wx g 24 #[.int .i64 (ep + 1), .slice Ao N co] ∧ Below g w5 wx ∧ g + 1 ≤ wx.heap.size) := Lib.hid fun wx hx => ⟨HBx.out.below hx HBx.out.lt, Hb.out.trans (hx.mono (by omega)), by have := hx.size; omega⟩
          by_cases hki : k = i
          · subst hki
            have hdk : ((k : Int) != (k : Int)) = false := by simp
            rw [← mergeK_at] at Ho HN
            go_wp2
            go_roundw
            case rel => exact ⟨k + 1, _, by omega, by go_num, Ho.out, HBx.out, Hb.out, hgs⟩
            case measure => simp [intOf]; omega
          · have hdk : ((k : Int) != (i : Int)) = true := by simpa using (by omega : ¬ (k : Int) = (i : Int))
            have b5 : Below wr.heap.size wr (wr.drew.alloc (.cells #[.string plo1, .int .i64 pn1] 46)) := (Below.refl wr.heap.size wr).drew.alloc (Nat.le_refl _) (Obj.cells #[.string plo1, .int .i64 pn1] 46)
            have b6 : Below wr.heap.size wr (wr.alloc (.cells #[.string plo1, .int .i64 pn1] 46)).drew := (below_box (w := wr) (Obj.cells #[.string plo1, .int .i64 pn1] 46)).drew
            have b7 : Below wr.heap.size wr (wr.alloc (.cells #[.string plo1, .int .i64 pn1] 46)) := below_box (w := wr) (Obj.cells #[.string plo1, .int .i64 pn1] 46)
            have HBOa := Lib.hid (And.intro (HBp.out _ b5) (HOp.out _ b5))
            have HBOb := Lib.hid (And.intro (HBp.out _ b6) (HOp.out _ b6))
            have HLita := Lib.hid (Has.lit wr.drew #[.string plo1, .int .i64 pn1] 46)
            have HLitb := Lib.hid (Has.lit wr #[.string plo1, .int .i64 pn1] 46)
            have y1p : (wr.alloc (.cells #[.string plo1, .int .i64 pn1] 46)).cell? ⟨g, 1, none⟩ = some (.slice Ao N co) := (HBp.out _ b7).1.cell 1
            have q1p : (wr.alloc (.cells #[.string plo1, .int .i64 pn1] 46)).cell? ⟨w.heap.size, 1, none⟩ = some (.slice (some a) n c) := (HK.out _ (Hb.out.trans (b7.mono (by omega)))).2.1.2
            clear b5 b6 b7
            go_wp2
            go_region_law (first | (refine step_append_hasN (by rfl) _ _ _ (by rfl) 46 pt_elem (by omega) Try.underlying22 (by rfl) HBOa.out.2 (by rfl) HLita.out (ptCells_one [⟨plo1, pn1⟩]) (by have := HLl.out; simp only [maxLen]; omega) (by have := HLl.out; omega) HBOa.out.1.2.2 ?_; intro v7 w7 o7 g7 z7; obtain ⟨A7, c7, rfl, -, -, -⟩ := own_sliceN o7; obtain ⟨y7, x7, h8⟩ := app_step (q := ⟨plo1, pn1⟩) HN.out HBOa.out.1.1 HBOa.out.1.2.1 HBOa.out.1.2.2 Hnb.out HBOa.out.2 o7 g7; have H8 := Lib.hid h8; clear o7 g7 z7 h8) | (refine step_append_hasN (by rfl) _ _ _ (by rfl) 46 pt_elem (by omega) Try.underlying22 (by rfl) HBOb.out.2 (by rfl) HLitb.out (ptCells_one [⟨plo1, pn1⟩]) (by have := HLl.out; simp only [maxLen]; omega) (by have := HLl.out; omega) HBOb.out.1.2.2 ?_; intro v7 w7 o7 g7 z7; obtain ⟨A7, c7, rfl, -, -, -⟩ := own_sliceN o7; obtain ⟨y7, x7, h8⟩ := app_step (q := ⟨plo1, pn1⟩) HN.out HBOb.out.1.1 HBOb.out.1.2.1 HBOb.out.1.2.2 Hnb.out HBOb.out.2 o7 g7; have H8 := Lib.hid h8; clear o7 g7 z7 h8))
            all_goals
              rw [← mergeK_step Hp.out hki] at H8
              go_wp2
              go_roundw
              case rel => exact ⟨k + 1, _, by omega, by go_num, H8.out.1, H8.out.2.1, H8.out.2.2.1, H8.out.2.2.2⟩
              case measure => simp [intOf]; omega
        · obtain rfl : n = k := by omega
          have hx2 := (HK.out wr hb).2.2
          have r0 : wr.cell? ⟨w.heap.size + 1, 0, none⟩ = some (.int .i64 0) := hx2.1.cell 0
          have r1 : wr.cell? ⟨w.heap.size + 1, 1, none⟩ = some (.slice none 0 0) := hx2.1.cell 1
          have f0 : wr.frozen? ⟨w.heap.size + 1, 0, none⟩ = false := hx2.1.frozen 0
          have f1 : wr.frozen? ⟨w.heap.size + 1, 1, none⟩ = false := hx2.1.frozen 1
          obtain ⟨p0, p1, hbe⟩ := go_res (.int .i64 (ep + 1)) (.slice Ao N co) hx2.1 hx2.2
          have hno : (Value.slice Ao N co).ownBlock ≠ some (w.heap.size + 1) := fun e => by have := (Ho.out.lt _ e).1; have := Hgw.out; omega
          have HBE := Lib.hid (And.intro hbe (((Ho.out.far (i := 0) (u := .int .i64 (ep + 1)) hno).far (i := 1) (u := .slice Ao N co) hno).base (B' := w.heap.size) (by have := Hgw.out; omega)))
          obtain ⟨W3, hW3⟩ : ∃ W3, ((wr.setCell ⟨w.heap.size + 1, 0, none⟩ (.int .i64 (ep + 1))).setCell ⟨w.heap.size + 1, 1, none⟩ (.slice Ao N co)) = W3 := ⟨_, rfl⟩
          rw [hW3] at p0 p1 HBE
          clear hb ho hbx hx2 hbe hno hN hnb
          go_wp2
          refine bodyPost_ret (v := .tuple #[.agg #[.int .i64 (ep + 1), .slice Ao N co], .int .i64 0]) ?_ rfl ⟨_, rfl, HBE.out.2, HBE.out.1⟩
          simp [results, Try.results34, go_sem, p0, p1]
    · have hd : (pn == qn) = false := by simpa using hpn
      have hdn : (pn != qn) = true := by simpa using hpn
      go_wp2
      go_quiet (fail)
      have Hb5 := Lib.hid (below_dr Hb2.out nq)
      generalize World.drewN w2 nq = w5 at Hb5 ⊢
      clear q0 q1 r0 r1 f0 f1
      obtain ⟨hx1, hx2, hbw, hsz5⟩ := HM.out w5 Hb5.out
      have HW5 := Lib.hid hbw
      have HX5 := Lib.hid hx2
      have q0 : w5.cell? ⟨w.heap.size, 0, none⟩ = some (.int .i64 ep) := hx1.cell 0
      have q1 : w5.cell? ⟨w.heap.size, 1, none⟩ = some (.slice (some a) n c) := hx1.cell 1
      have r0 : w5.cell? ⟨w.heap.size + 1, 0, none⟩ = some (.int .i64 0) := hx2.cell 0
      have r1 : w5.cell? ⟨w.heap.size + 1, 1, none⟩ = some (.slice none 0 0) := hx2.cell 1
      have f0 : w5.frozen? ⟨w.heap.size + 1, 0, none⟩ = false := hx2.frozen 0
      have f1 : w5.frozen? ⟨w.heap.size + 1, 1, none⟩ = false := hx2.frozen 1
      clear hx1 hx2 hbw
      have hrn := merge_none (s := s) Hi.out Hpi.out (.inr (.inr (by rw [Hqn.out]; exact hpn)))
      obtain rfl : m = (0, [], 14) := by rw [← Hm.out]; unfold goT; rw [if_neg HC0.out, hrn]
      obtain ⟨p0, p1, hbe⟩ := go_res (.int .i64 0) (.slice none 0 0) HX5.out HW5.out
      have HBE := Lib.hid hbe
      obtain ⟨W3, hW3⟩ : ∃ W3, ((w5.setCell ⟨w.heap.size + 1, 0, none⟩ (.int .i64 0)).setCell ⟨w.heap.size + 1, 1, none⟩ (.slice none 0 0)) = W3 := ⟨_, rfl⟩
      rw [hW3] at p0 p1 HBE
      clear hbe hrn hpn
      go_wp2
      refine bodyPost_ret (v := .tuple #[.agg #[.int .i64 0, .slice none 0 0], .int .i64 14]) ?_ rfl (MapPost.err 14 HBE.out)
      simp [results, Try.results34, go_sem, p0, p1]
  · have h0' : (z == 0) = false := by simpa using h0
    have h0'' : (z != 0) = true := by simpa using h0
    obtain rfl : m = (0, [], z) := by rw [← Hm.out]; unfold goT; rw [Hz.out, if_pos h0]
    obtain ⟨p0, p1, hbe⟩ := go_res (.int .i64 0) (.slice none 0 0) HX1.out HW1.out
    have HBE := Lib.hid hbe
    obtain ⟨W3, hW3⟩ : ∃ W3, ((w1.setCell ⟨w.heap.size + 1, 0, none⟩ (.int .i64 0)).setCell ⟨w.heap.size + 1, 1, none⟩ (.slice none 0 0)) = W3 := ⟨_, rfl⟩
    rw [hW3] at p0 p1 HBE
    clear h0 hb1 hbe
    go_wp2
    refine bodyPost_ret (v := .tuple #[.agg #[.int .i64 0, .slice none 0 0], .int .i64 z]) ?_ rfl (MapPost.err z HBE.out)
    simp [results, Try.results34, go_sem, p0, p1]
end Go.Proofs.Ytnfnjhnfpcbdfaa

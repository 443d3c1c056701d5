/- The document’s Split. Condition: the map is in memory.
-/
import Derived.Test.YtnfnjhnfpcbdfaaAtL
namespace Go.Proofs.Ytnfnjhnfpcbdfaa
open Go.RowKit
open Go.Lib (strCells compareBytes)

def splitK (l : List Pt) (i : Nat) (c : Pt) (k : Nat) : List Pt := if k ≤ i then l.take k else l.take (i + 1) ++ c :: (l.take k).drop (i + 1)
theorem splitK_len (l : List Pt) (i : Nat) (c : Pt) (k : Nat) : (splitK l i c k).length ≤ k + 1 := by unfold splitK; split <;> simp only [List.length_append, List.length_cons, List.length_drop, List.length_take] <;> omega
theorem splitK_step {l : List Pt} {i k : Nat} {c p : Pt} (hp : l[k]? = some p) (hk : k ≠ i) : splitK l i c (k + 1) = splitK l i c k ++ [p] := by
  have hkl := (List.getElem?_eq_some_iff.1 hp).1
  unfold splitK
  rw [take_snocP hp]
  by_cases h : k < i
  · rw [if_pos (by omega), if_pos (by omega)]
  · rw [if_neg (by omega), if_neg (by omega), List.drop_append_of_le_length (by rw [List.length_take]; omega), List.append_assoc, List.cons_append]
theorem splitK_at {l : List Pt} {i : Nat} {c p : Pt} (hp : l[i]? = some p) : splitK l i c (i + 1) = splitK l i c i ++ [p] ++ [c] := by
  unfold splitK
  rw [if_neg (by omega), if_pos (Nat.le_refl _), List.drop_of_length_le (by rw [List.length_take]; omega), take_snocP hp]
theorem split_nil {l : List Pt} (h : RightP l) : splitP l ⟨#[]⟩ = none := by
  obtain ⟨p, hp⟩ : ∃ p, l[0]? = some p := ⟨_, List.getElem?_eq_getElem (by have := h.one; omega)⟩
  have h1 : 0 = holdN l (⟨#[]⟩ : ByteArray).data.toList := begins_hold h (hold_is h _) hp (h.head p hp)
  unfold splitP
  rw [← h1, ptAt_of hp]
  exact if_pos (.inl (h.head p hp))
theorem split_none {l : List Pt} {s : ByteArray} {i : Nat} {p : Pt} (hi : holdN l s.data.toList = i) (hp : l[i]? = some p) (h : p.lb = s.data.toList ∨ 100 < s.data.toList.length ∨ l.length = 8) : splitP l s = none := by
  unfold splitP
  rw [hi, ptAt_of hp]
  exact if_pos h
theorem split_some {l : List Pt} {s : ByteArray} {i n : Nat} {p : Pt} (hi : holdN l s.data.toList = i) (hp : l[i]? = some p) (hl : l.length = n) (h : ¬ (p.lb = s.data.toList ∨ 100 < s.data.toList.length ∨ l.length = 8)) : splitP l s = some (splitK l i ⟨s, p.n⟩ n) := by
  subst hl
  have hil := (List.getElem?_eq_some_iff.1 hp).1
  unfold splitK
  rw [if_neg (by omega), List.take_length]
  unfold splitP
  rw [hi, ptAt_of hp]
  exact if_neg h
theorem size_list (s : ByteArray) : s.data.toList.length = s.size := by simp
set_option maxRecDepth 100000 in
set_option maxHeartbeats 12800000 in
theorem refSplit_any (ep : Int) (A : Option Addr) (n c C : Nat) (l : List Pt) (s : ByteArray) (w : World) (h : HasPts w C A n l) (hC : C ≤ w.heap.size) (hn : n ≤ maxLen) (hs : ∀ p ∈ l, p.lo.size ≤ maxLen) :
    Calls Try.prog 33 #[.agg #[.int .i64 ep, .slice A n c], .string s] w (MapPost (goT ep l (splitP l s)) w) := by
  have Hc := Lib.hid (refCheck_any ep A n c C l ((w.alloc (.cells #[.int .i64 ep, .slice A n c] 24)).alloc (.cells #[.int .i64 0, .slice none 0 0] 24)) ((h.alloc hC _).alloc (by simp; omega) _) (by simp; omega) hn hs)
  have HM := Lib.hid (fun wx (hx : Below ((w.alloc (.cells #[.int .i64 ep, .slice A n c] 24)).alloc (.cells #[.int .i64 0, .slice none 0 0] 24)).heap.size ((w.alloc (.cells #[.int .i64 ep, .slice A n c] 24)).alloc (.cells #[.int .i64 0, .slice none 0 0] 24)) wx) => go_boxes hx)
  have HA : Hid (∀ wx, Below ((w.alloc (.cells #[.int .i64 ep, .slice A n c] 24)).alloc (.cells #[.int .i64 0, .slice none 0 0] 24)).heap.size ((w.alloc (.cells #[.int .i64 ep, .slice A n c] 24)).alloc (.cells #[.int .i64 0, .slice none 0 0] 24)) wx → HasPts wx C A n l) := Lib.hid fun wx hx => h.belowOf (go_boxes hx).2.2.1 hC
  have HF := Lib.hid (fun wx (hx : Below ((w.alloc (.cells #[.int .i64 ep, .slice A n c] 24)).alloc (.cells #[.int .i64 0, .slice none 0 0] 24)).heap.size ((w.alloc (.cells #[.int .i64 ep, .slice A n c] 24)).alloc (.cells #[.int .i64 0, .slice none 0 0] 24)) wx) => refFind_any ep A n c C l s wx (h.belowOf (go_boxes hx).2.2.1 hC) (Nat.le_trans hC (go_boxes hx).2.2.1.size) hn hs)
  have HBg := Lib.hid (fun wx (hx : Below ((w.alloc (.cells #[.int .i64 ep, .slice A n c] 24)).alloc (.cells #[.int .i64 0, .slice none 0 0] 24)).heap.size ((w.alloc (.cells #[.int .i64 ep, .slice A n c] 24)).alloc (.cells #[.int .i64 0, .slice none 0 0] 24)) wx) hr => refBegins_any ep A n c C l s wx (h.belowOf (go_boxes hx).2.2.1 hC) (Nat.le_trans hC (go_boxes hx).2.2.1.size) hr)
  have Hl := Lib.hid h.1
  obtain ⟨z, hz⟩ : ∃ z, checkT ep l = z := ⟨_, rfl⟩
  have Hz := Lib.hid hz
  obtain ⟨m, hm⟩ : ∃ m, goT ep l (splitP l s) = m := ⟨_, rfl⟩
  have Hm := Lib.hid hm
  rw [hm]
  unfold CheckPost at Hc
  rw [hz] at Hc
  clear h hs hz hm
  go_enter Try.func33, Try.ntmps33
  go_wp2_with fail
  refine Hc.out.mono ?_
  rintro e w1 ⟨rfl, hb1⟩
  have Hb1 := Lib.hid hb1
  obtain ⟨hx1, hx2, hbw, hsz1⟩ := HM.out w1 hb1
  have HW1 := Lib.hid hbw
  have HX1 := Lib.hid hx2
  have q0 : w1.cell? ⟨w.heap.size, 0, none⟩ = some (.int .i64 ep) := hx1.cell 0
  have q1 : w1.cell? ⟨w.heap.size, 1, none⟩ = some (.slice A n c) := hx1.cell 1
  have r0 : w1.cell? ⟨w.heap.size + 1, 0, none⟩ = some (.int .i64 0) := hx2.cell 0
  have r1 : w1.cell? ⟨w.heap.size + 1, 1, none⟩ = some (.slice none 0 0) := hx2.cell 1
  have f0 : w1.frozen? ⟨w.heap.size + 1, 0, none⟩ = false := hx2.frozen 0
  have f1 : w1.frozen? ⟨w.heap.size + 1, 1, none⟩ = false := hx2.frozen 1
  clear hx1 hx2 hbw
  by_cases h0 : z = 0
  · subst h0
    have HR : Hid (1 ≤ ep ∧ ep ≤ 1099511627776 ∧ RightP l) := Lib.hid (check_zero.1 Hz.out)
    have HC0 : Hid (¬ checkT ep l ≠ 0) := Lib.hid fun h => h Hz.out
    have hn8 : n ≤ 8 := by have := HR.out.2.2.most; have := Hl.out; omega
    obtain ⟨a, rfl⟩ : ∃ a, A = some a := by
      obtain ⟨a, -, h9, -⟩ := (HA.out w1 hb1).at_ (i := 0) (by have := HR.out.2.2.one; have := Hl.out; omega)
      exact ⟨a, h9⟩
    have HHi := Lib.hid (hold_is HR.out.2.2 s.data.toList)
    obtain ⟨i, hi⟩ : ∃ i, holdN l s.data.toList = i := ⟨_, rfl⟩
    have Hi := Lib.hid hi
    rw [hi] at HHi
    obtain ⟨pi, hpi⟩ : ∃ p, l[i]? = some p := ⟨_, HHi.out.1.choose_spec.1⟩
    have Hpi := Lib.hid hpi
    have hin : i < n := by have := (List.getElem?_eq_some_iff.1 hpi).1; have := Hl.out; omega
    have hFe : findT ep l s.data.toList = (i, true) := by unfold findT; rw [if_pos Hz.out, hi]
    rw [hFe] at HF
    clear hFe hi hpi hb1 Hc
    have hbe0 : begT l s = if pi.lb = s.data.toList then (i : Int) else -1 := by unfold begT; rw [Hi.out, ptAt_of Hpi.out]
    obtain ⟨bt, hbt⟩ : ∃ bt, begT l s = bt := ⟨_, rfl⟩
    rw [hbt] at hbe0 HBg
    have HBT := Lib.hid hbe0
    clear hbe0 hbt
    by_cases hs0 : s = ⟨#[]⟩
    · subst hs0
      have hrn := split_nil HR.out.2.2
      obtain rfl : m = (0, [], 14) := by rw [← Hm.out]; unfold goT; rw [if_neg HC0.out, hrn]
      obtain ⟨p0, p1, hbe⟩ := go_res (.int .i64 0) (.slice none 0 0) HX1.out HW1.out
      have HBE := Lib.hid hbe
      obtain ⟨W3, hW3⟩ : ∃ W3, ((w1.setCell ⟨w.heap.size + 1, 0, none⟩ (.int .i64 0)).setCell ⟨w.heap.size + 1, 1, none⟩ (.slice none 0 0)) = W3 := ⟨_, rfl⟩
      rw [hW3] at p0 p1 HBE
      clear hbe hrn
      go_wp2
      refine bodyPost_ret (v := .tuple #[.agg #[.int .i64 0, .slice none 0 0], .int .i64 14]) ?_ rfl (MapPost.err 14 HBE.out)
      simp [results, Try.results33, go_sem, p0, p1]
    have hnil := text_nil hs0
    clear hs0
    by_cases h100 : 100 < s.size
    · have h100' : (100 : Int) < (s.size : Int) := by omega
      have hrn := split_none Hi.out Hpi.out (.inr (.inl (by rw [size_list]; exact h100)))
      obtain rfl : m = (0, [], 14) := by rw [← Hm.out]; unfold goT; rw [if_neg HC0.out, hrn]
      obtain ⟨p0, p1, hbe⟩ := go_res (.int .i64 0) (.slice none 0 0) HX1.out HW1.out
      have HBE := Lib.hid hbe
      obtain ⟨W3, hW3⟩ : ∃ W3, ((w1.setCell ⟨w.heap.size + 1, 0, none⟩ (.int .i64 0)).setCell ⟨w.heap.size + 1, 1, none⟩ (.slice none 0 0)) = W3 := ⟨_, rfl⟩
      rw [hW3] at p0 p1 HBE
      clear hbe hrn
      go_wp2
      refine bodyPost_ret (v := .tuple #[.agg #[.int .i64 0, .slice none 0 0], .int .i64 14]) ?_ rfl (MapPost.err 14 HBE.out)
      simp [results, Try.results33, go_sem, p0, p1]
    have h100' : ¬ (100 : Int) < (s.size : Int) := by omega
    go_wp2_with fail
    refine (HBg.out w1 Hb1.out HR.out.2.2).mono ?_
    rintro e w2 ⟨rfl, b2⟩
    have Hb2 := Lib.hid (Hb1.out.trans (b2.mono Hb1.out.size))
    clear q0 q1 r0 r1 f0 f1 b2
    obtain ⟨hx1, hx2, hbw, hsz2⟩ := HM.out w2 Hb2.out
    have Hw3 := Lib.hid hbw
    have HX2 := Lib.hid hx2
    have q0 : w2.cell? ⟨w.heap.size, 0, none⟩ = some (.int .i64 ep) := hx1.cell 0
    have q1 : w2.cell? ⟨w.heap.size, 1, none⟩ = some (.slice (some a) n c) := hx1.cell 1
    have r0 : w2.cell? ⟨w.heap.size + 1, 0, none⟩ = some (.int .i64 0) := hx2.cell 0
    have r1 : w2.cell? ⟨w.heap.size + 1, 1, none⟩ = some (.slice none 0 0) := hx2.cell 1
    have f0 : w2.frozen? ⟨w.heap.size + 1, 0, none⟩ = false := hx2.frozen 0
    have f1 : w2.frozen? ⟨w.heap.size + 1, 1, none⟩ = false := hx2.frozen 1
    clear hx1 hx2 hbw
    by_cases hb1 : 0 ≤ bt
    · have hlb : pi.lb = s.data.toList := by
        by_cases h9 : pi.lb = s.data.toList
        · exact h9
        · have h8 := HBT.out; rw [if_neg h9] at h8; omega
      have Hlb := Lib.hid hlb
      clear hlb
      have hrn := split_none Hi.out Hpi.out (.inl Hlb.out)
      obtain rfl : m = (0, [], 14) := by rw [← Hm.out]; unfold goT; rw [if_neg HC0.out, hrn]
      obtain ⟨p0, p1, hbe⟩ := go_res (.int .i64 0) (.slice none 0 0) HX2.out Hw3.out
      have HBE := Lib.hid hbe
      obtain ⟨W3, hW3⟩ : ∃ W3, ((w2.setCell ⟨w.heap.size + 1, 0, none⟩ (.int .i64 0)).setCell ⟨w.heap.size + 1, 1, none⟩ (.slice none 0 0)) = W3 := ⟨_, rfl⟩
      rw [hW3] at p0 p1 HBE
      clear hbe hrn
      go_wp2
      refine bodyPost_ret (v := .tuple #[.agg #[.int .i64 0, .slice none 0 0], .int .i64 14]) ?_ rfl (MapPost.err 14 HBE.out)
      simp [results, Try.results33, go_sem, p0, p1]
    have hlb : pi.lb ≠ s.data.toList := fun h9 => by have h8 := HBT.out; rw [if_pos h9] at h8; omega
    have Hlb := Lib.hid hlb
    clear hlb
    by_cases h8 : 8 ≤ n
    · have h8' : (8 : Int) ≤ (n : Int) := by omega
      have hrn := split_none Hi.out Hpi.out (.inr (.inr (by have := Hl.out; omega)))
      obtain rfl : m = (0, [], 14) := by rw [← Hm.out]; unfold goT; rw [if_neg HC0.out, hrn]
      obtain ⟨p0, p1, hbe⟩ := go_res (.int .i64 0) (.slice none 0 0) HX2.out Hw3.out
      have HBE := Lib.hid hbe
      obtain ⟨W3, hW3⟩ : ∃ W3, ((w2.setCell ⟨w.heap.size + 1, 0, none⟩ (.int .i64 0)).setCell ⟨w.heap.size + 1, 1, none⟩ (.slice none 0 0)) = W3 := ⟨_, rfl⟩
      rw [hW3] at p0 p1 HBE
      clear hbe hrn
      go_wp2
      refine bodyPost_ret (v := .tuple #[.agg #[.int .i64 0, .slice none 0 0], .int .i64 14]) ?_ rfl (MapPost.err 14 HBE.out)
      simp [results, Try.results33, go_sem, p0, p1]
    have h8' : ¬ (8 : Int) ≤ (n : Int) := by omega
    obtain ⟨plo, pn⟩ := pi
    have Hsome : Hid (splitP l s = some (splitK l i ⟨s, pn⟩ n)) := Lib.hid (split_some (s := s) Hi.out Hpi.out Hl.out (by rintro (h9 | h9 | h9); exact Hlb.out h9; rw [size_list] at h9; omega; have := Hl.out; omega))
    by_cases he : ep = 1099511627776
    · have hde : (ep == 1099511627776) = true := by simpa using he
      obtain rfl : m = (0, [], 4) := by rw [← Hm.out]; unfold goT; rw [if_neg HC0.out, Hsome.out]; exact if_pos he
      obtain ⟨p0, p1, hbe⟩ := go_res (.int .i64 0) (.slice none 0 0) HX2.out Hw3.out
      have HBE := Lib.hid hbe
      obtain ⟨W3, hW3⟩ : ∃ W3, ((w2.setCell ⟨w.heap.size + 1, 0, none⟩ (.int .i64 0)).setCell ⟨w.heap.size + 1, 1, none⟩ (.slice none 0 0)) = W3 := ⟨_, rfl⟩
      rw [hW3] at p0 p1 HBE
      clear hbe he
      go_wp2
      refine bodyPost_ret (v := .tuple #[.agg #[.int .i64 0, .slice none 0 0], .int .i64 4]) ?_ rfl (MapPost.err 4 HBE.out)
      simp [results, Try.results33, go_sem, p0, p1]
    go_wp2_with fail
    refine (HF.out w2 Hb2.out).mono ?_
    rintro e w3 ⟨rfl, b3⟩
    have Hb3 := Lib.hid (Hb2.out.trans (b3.mono Hb2.out.size))
    clear q0 q1 r0 r1 f0 f1 b3
    obtain ⟨hx1, hx2, hbw, hsz3⟩ := HM.out w3 Hb3.out
    have HW3 := Lib.hid hbw
    have HX3 := Lib.hid hx2
    have q0 : w3.cell? ⟨w.heap.size, 0, none⟩ = some (.int .i64 ep) := hx1.cell 0
    have q1 : w3.cell? ⟨w.heap.size, 1, none⟩ = some (.slice (some a) n c) := hx1.cell 1
    have r0 : w3.cell? ⟨w.heap.size + 1, 0, none⟩ = some (.int .i64 0) := hx2.cell 0
    have r1 : w3.cell? ⟨w.heap.size + 1, 1, none⟩ = some (.slice none 0 0) := hx2.cell 1
    have f0 : w3.frozen? ⟨w.heap.size + 1, 0, none⟩ = false := hx2.frozen 0
    have f1 : w3.frozen? ⟨w.heap.size + 1, 1, none⟩ = false := hx2.frozen 1
    clear hx1 hx2 hbw
    have hde : (ep == 1099511627776) = false := by simpa using he
    obtain rfl : m = (ep + 1, splitK l i ⟨s, pn⟩ n, 0) := by rw [← Hm.out]; unfold goT; rw [if_neg HC0.out, Hsome.out]; exact if_neg he
    have hwe : IntKind.i64.wrap (ep + 1) = ep + 1 := IntWalk.i64_in _ (by have := HR.out; omega)
    obtain ⟨g, hg⟩ : ∃ g, w3.heap.size = g := ⟨_, rfl⟩
    have HBo : Hid (Box (w3.alloc (.cells #[.int .i64 (ep + 1), .slice none 0 0] 24)) g 24 #[.int .i64 (ep + 1), .slice none 0 0] ∧ Below g w3 (w3.alloc (.cells #[.int .i64 (ep + 1), .slice none 0 0] 24)) ∧ g + 1 ≤ (w3.alloc (.cells #[.int .i64 (ep + 1), .slice none 0 0] 24)).heap.size) := Lib.hid (by subst hg; exact ⟨Box.made _ _ _, below_box _, by simp⟩)
    have Hgw : Hid (w.heap.size + 2 ≤ g) := Lib.hid (by omega)
    have Hg := Lib.hid hg
    have HK : Hid (∀ wx, Below g w3 wx → HasPts wx C (some a) n l ∧ (wx.cell? ⟨w.heap.size, 0, none⟩ = some (.int .i64 ep) ∧ wx.cell? ⟨w.heap.size, 1, none⟩ = some (.slice (some a) n c)) ∧ Box wx (w.heap.size + 1) 24 #[.int .i64 0, .slice none 0 0] ∧ Below w.heap.size w wx) := Lib.hid fun wx hx => by
      have h1 := Hb3.out.trans (hx.mono (by have := Hb3.out.size; omega))
      obtain ⟨hx1, hx2, hbw, -⟩ := HM.out wx h1
      exact ⟨HA.out wx h1, ⟨hx1.cell 0, hx1.cell 1⟩, hx2, hbw⟩
    clear he r0 r1 f0 f1 
    go_wp2
    go_loopw [10] (fun iv wr => ∃ (k : Nat) (v : Value), k ≤ n ∧ iv = .int .i64 (k : Int) ∧ OwnPts wr (g + 1) v (splitK l i ⟨s, pn⟩ k) ∧ Box wr g 24 #[.int .i64 (ep + 1), v] ∧ Below g w3 wr ∧ g + 1 ≤ wr.heap.size) (fun iv _ => n - (intOf iv).toNat)
    case atStart => exact ⟨0, _, by omega, rfl, by rw [(show splitK l i ⟨s, pn⟩ 0 = [] from if_pos (Nat.zero_le _))]; exact OwnPts.nil _ _, HBo.out.1, HBo.out.2.1, HBo.out.2.2⟩
    case round =>
      obtain ⟨k, v, hk, rfl, ho, hbx, hb, hgs⟩ := hrel
      have Hb := Lib.hid hb
      have HBx := Lib.hid hbx
      have Ho := Lib.hid ho
      have q1 := (HK.out wr hb).2.1.2
      have HLl : Hid ((splitK l i ⟨s, pn⟩ k).length ≤ k + 1) := Lib.hid (splitK_len l i ⟨s, pn⟩ k)
      obtain ⟨Ao, co, rfl, -, -, -⟩ := ho.slice
      obtain ⟨N, hN⟩ : ∃ N, (splitK l i ⟨s, pn⟩ k).length = N := ⟨_, rfl⟩
      have HN := Lib.hid hN
      rw [hN] at hbx HBx Ho HLl
      have y0 : wr.cell? ⟨g, 0, none⟩ = some (.int .i64 (ep + 1)) := hbx.cell 0
      have y1 : wr.cell? ⟨g, 1, none⟩ = some (.slice Ao N co) := hbx.cell 1
      have hnb : (Value.slice Ao N co).ownBlock ≠ some g := fun e => by have := (Ho.out.lt _ e).1; omega
      have Hnb := Lib.hid hnb
      by_cases hlt : k < n
      · obtain ⟨a', p, ha, hab, hp, c0, c1⟩ := (HK.out wr hb).1.at_ hlt
        injection ha with ha
        subst ha
        have Hp := Lib.hid hp
        obtain ⟨plo1, pn1⟩ := p
        simp only at c0 c1
        have hk0 : (0 : Int) ≤ (k : Int) := by omega
        have hk1 : (k : Int) < (n : Int) := by omega
        clear hp hab hb hbx ho hN hnb
        have HOp : Hid (∀ wx, Below wr.heap.size wr wx → wx.ownsRow (g + 1) 46 2 (.slice Ao N co) N (ptCells (splitK l i ⟨s, pn⟩ k))) := Lib.hid fun wx hx => by
          have h9 := Ho.out.below hx
          unfold OwnPts at h9
          rw [HN.out] at h9
          exact h9
        have HBp : Hid (∀ wx, Below wr.heap.size wr wx → Box wx g 24 #[.int .i64 (ep + 1), .slice Ao N co] ∧ Below g w3 wx ∧ g + 1 ≤ wx.heap.size) := Lib.hid fun wx hx => ⟨HBx.out.below hx HBx.out.lt, Hb.out.trans (hx.mono (by omega)), by have := hx.size; omega⟩
        have b5 : Below wr.heap.size wr (wr.drew.alloc (.cells #[.string plo1, .int .i64 pn1] 46)) := (Below.refl wr.heap.size wr).drew.alloc (Nat.le_refl _) (Obj.cells #[.string plo1, .int .i64 pn1] 46)
        have b6 : Below wr.heap.size wr (wr.alloc (.cells #[.string plo1, .int .i64 pn1] 46)).drew := (below_box (w := wr) (Obj.cells #[.string plo1, .int .i64 pn1] 46)).drew
        have b7 : Below wr.heap.size wr (wr.alloc (.cells #[.string plo1, .int .i64 pn1] 46)) := below_box (w := wr) (Obj.cells #[.string plo1, .int .i64 pn1] 46)
        have HBOa := Lib.hid (And.intro (HBp.out _ b5) (HOp.out _ b5))
        have HBOb := Lib.hid (And.intro (HBp.out _ b6) (HOp.out _ b6))
        have HLita := Lib.hid (Has.lit wr.drew #[.string plo1, .int .i64 pn1] 46)
        have HLitb := Lib.hid (Has.lit wr #[.string plo1, .int .i64 pn1] 46)
        have y1p : (wr.alloc (.cells #[.string plo1, .int .i64 pn1] 46)).cell? ⟨g, 1, none⟩ = some (.slice Ao N co) := (HBp.out _ b7).1.cell 1
        have q1p : (wr.alloc (.cells #[.string plo1, .int .i64 pn1] 46)).cell? ⟨w.heap.size, 1, none⟩ = some (.slice (some a) n c) := (HK.out _ (Hb.out.trans (b7.mono (by omega)))).2.1.2
        clear b5 b6 b7
        go_wp2
        go_region_law (first | (refine step_append_hasN (by rfl) _ _ _ (by rfl) 46 pt_elem (by omega) Try.underlying22 (by rfl) HBOa.out.2 (by rfl) HLita.out (ptCells_one [⟨plo1, pn1⟩]) (by have := HLl.out; simp only [maxLen]; omega) (by have := HLl.out; omega) HBOa.out.1.2.2 ?_; intro v7 w7 o7 g7 z7; obtain ⟨A7, c7, rfl, -, -, -⟩ := own_sliceN o7; obtain ⟨y7, x7, h8⟩ := app_step (q := ⟨plo1, pn1⟩) HN.out HBOa.out.1.1 HBOa.out.1.2.1 HBOa.out.1.2.2 Hnb.out HBOa.out.2 o7 g7; have H8 := Lib.hid h8; clear o7 g7 z7 h8) | (refine step_append_hasN (by rfl) _ _ _ (by rfl) 46 pt_elem (by omega) Try.underlying22 (by rfl) HBOb.out.2 (by rfl) HLitb.out (ptCells_one [⟨plo1, pn1⟩]) (by have := HLl.out; simp only [maxLen]; omega) (by have := HLl.out; omega) HBOb.out.1.2.2 ?_; intro v7 w7 o7 g7 z7; obtain ⟨A7, c7, rfl, -, -, -⟩ := own_sliceN o7; obtain ⟨y7, x7, h8⟩ := app_step (q := ⟨plo1, pn1⟩) HN.out HBOb.out.1.1 HBOb.out.1.2.1 HBOb.out.1.2.2 Hnb.out HBOb.out.2 o7 g7; have H8 := Lib.hid h8; clear o7 g7 z7 h8))
        all_goals
          clear y7 x7
          by_cases hki : k = i
          · subst hki
            have hdk : ((k : Int) == (k : Int)) = true := by simp
            obtain ⟨rfl, rfl⟩ : plo1 = plo ∧ pn1 = pn := by have h9 := Hp.out; rw [Hpi.out] at h9; injection h9 with h9; injection h9 with h9 h8; exact ⟨h9.symm, h8.symm⟩
            generalize hN8 : N + 1 = N8 at H8 ⊢
            generalize World.setCell w7 ⟨g, 1, none⟩ (.slice A7 N8 c7) = w8 at H8 ⊢
            have Ho8 := Lib.hid H8.out.1
            have HBx8 := Lib.hid H8.out.2.1
            have Hb8 := Lib.hid H8.out.2.2.1
            have hgs8 := H8.out.2.2.2
            have HN8 : Hid ((splitK l k ⟨s, pn1⟩ k ++ ([⟨plo1, pn1⟩] : List Pt)).length = N8) := Lib.hid (by rw [List.length_append, HN.out]; exact hN8)
            have HLl8 : Hid (N8 ≤ k + 2) := Lib.hid (by have := HLl.out; omega)
            have Hnb8 : Hid ((Value.slice A7 N8 c7).ownBlock ≠ some g) := Lib.hid (fun e => by have := (Ho8.out.lt _ e).1; omega)
            have y18 : w8.cell? ⟨g, 1, none⟩ = some (.slice A7 N8 c7) := HBx8.out.cell 1
            have q18 := (HK.out w8 Hb8.out).2.1.2
            obtain ⟨a', p, ha, -, hp, e0, e1⟩ := (HK.out w8 Hb8.out).1.at_ hlt
            injection ha with ha
            subst ha
            obtain rfl : p = ⟨plo1, pn1⟩ := by have h9 := Hp.out; rw [hp] at h9; injection h9
            simp only at e0 e1
            clear hp hN8 H8
            have HOq : Hid (∀ wx, Below w8.heap.size w8 wx → wx.ownsRow (g + 1) 46 2 (.slice A7 N8 c7) N8 (ptCells (splitK l k ⟨s, pn1⟩ k ++ [⟨plo1, pn1⟩]))) := Lib.hid fun wx hx => by
              have h9 := Ho8.out.below hx
              unfold OwnPts at h9
              rw [HN8.out] at h9
              exact h9
            have HBq : Hid (∀ wx, Below w8.heap.size w8 wx → Box wx g 24 #[.int .i64 (ep + 1), .slice A7 N8 c7] ∧ Below g w3 wx ∧ g + 1 ≤ wx.heap.size) := Lib.hid fun wx hx => ⟨HBx8.out.below hx HBx8.out.lt, Hb8.out.trans (hx.mono (by omega)), by have := hx.size; omega⟩
            have b5 : Below w8.heap.size w8 (w8.drew.alloc (.cells #[.string s, .int .i64 pn1] 46)) := (Below.refl w8.heap.size w8).drew.alloc (Nat.le_refl _) (Obj.cells #[.string s, .int .i64 pn1] 46)
            have b6 : Below w8.heap.size w8 (w8.alloc (.cells #[.string s, .int .i64 pn1] 46)).drew := (below_box (w := w8) (Obj.cells #[.string s, .int .i64 pn1] 46)).drew
            have b7 : Below w8.heap.size w8 (w8.alloc (.cells #[.string s, .int .i64 pn1] 46)) := below_box (w := w8) (Obj.cells #[.string s, .int .i64 pn1] 46)
            have HBOc := Lib.hid (And.intro (HBq.out _ b5) (HOq.out _ b5))
            have HBOd := Lib.hid (And.intro (HBq.out _ b6) (HOq.out _ b6))
            have HLitc := Lib.hid (Has.lit w8.drew #[.string s, .int .i64 pn1] 46)
            have HLitd := Lib.hid (Has.lit w8 #[.string s, .int .i64 pn1] 46)
            have y1s : (w8.alloc (.cells #[.string s, .int .i64 pn1] 46)).cell? ⟨g, 1, none⟩ = some (.slice A7 N8 c7) := (HBq.out _ b7).1.cell 1
            have q1s : (w8.alloc (.cells #[.string s, .int .i64 pn1] 46)).cell? ⟨w.heap.size, 1, none⟩ = some (.slice (some a) n c) := (HK.out _ (Hb8.out.trans (b7.mono (by omega)))).2.1.2
            clear b5 b6 b7
            go_wp2
            go_region_law (first | (refine step_append_hasN (by rfl) _ _ _ (by rfl) 46 pt_elem (by omega) Try.underlying22 (by rfl) HBOc.out.2 (by rfl) HLitc.out (ptCells_one [⟨s, pn1⟩]) (by have := HLl8.out; simp only [maxLen]; omega) (by have := HLl8.out; omega) HBOc.out.1.2.2 ?_; intro v9 w9 o7 g7 z7; obtain ⟨A9, c9, rfl, -, -, -⟩ := own_sliceN o7; obtain ⟨y9, x9, h8⟩ := app_step (q := ⟨s, pn1⟩) HN8.out HBOc.out.1.1 HBOc.out.1.2.1 HBOc.out.1.2.2 Hnb8.out HBOc.out.2 o7 g7; have H9 := Lib.hid h8; clear o7 g7 z7 h8) | (refine step_append_hasN (by rfl) _ _ _ (by rfl) 46 pt_elem (by omega) Try.underlying22 (by rfl) HBOd.out.2 (by rfl) HLitd.out (ptCells_one [⟨s, pn1⟩]) (by have := HLl8.out; simp only [maxLen]; omega) (by have := HLl8.out; omega) HBOd.out.1.2.2 ?_; intro v9 w9 o7 g7 z7; obtain ⟨A9, c9, rfl, -, -, -⟩ := own_sliceN o7; obtain ⟨y9, x9, h8⟩ := app_step (q := ⟨s, pn1⟩) HN8.out HBOd.out.1.1 HBOd.out.1.2.1 HBOd.out.1.2.2 Hnb8.out HBOd.out.2 o7 g7; have H9 := Lib.hid h8; clear o7 g7 z7 h8))
            all_goals
              rw [← splitK_at Hp.out] at H9
              go_wp2
              go_roundw
              case rel => exact ⟨k + 1, _, by omega, by go_num, H9.out.1, H9.out.2.1, H9.out.2.2.1, H9.out.2.2.2⟩
              case measure => simp [intOf]; omega
          · have hdk : ((k : Int) == (i : Int)) = false := by simpa using (by omega : ¬ (k : Int) = (i : Int))
            rw [← splitK_step Hp.out hki] at H8
            go_wp2
            go_roundw
            case rel => exact ⟨k + 1, _, by omega, by go_num, H8.out.1, H8.out.2.1, H8.out.2.2.1, H8.out.2.2.2⟩
            case measure => simp [intOf]; omega
      · obtain rfl : n = k := by omega
        have hx2 := (HK.out wr hb).2.2
        have r0 : wr.cell? ⟨w.heap.size + 1, 0, none⟩ = some (.int .i64 0) := hx2.1.cell 0
        have r1 : wr.cell? ⟨w.heap.size + 1, 1, none⟩ = some (.slice none 0 0) := hx2.1.cell 1
        have f0 : wr.frozen? ⟨w.heap.size + 1, 0, none⟩ = false := hx2.1.frozen 0
        have f1 : wr.frozen? ⟨w.heap.size + 1, 1, none⟩ = false := hx2.1.frozen 1
        obtain ⟨p0, p1, hbe⟩ := go_res (.int .i64 (ep + 1)) (.slice Ao N co) hx2.1 hx2.2
        have hno : (Value.slice Ao N co).ownBlock ≠ some (w.heap.size + 1) := fun e => by have := (Ho.out.lt _ e).1; have := Hgw.out; omega
        have HBE := Lib.hid (And.intro hbe (((Ho.out.far (i := 0) (u := .int .i64 (ep + 1)) hno).far (i := 1) (u := .slice Ao N co) hno).base (B' := w.heap.size) (by have := Hgw.out; omega)))
        obtain ⟨W3, hW3⟩ : ∃ W3, ((wr.setCell ⟨w.heap.size + 1, 0, none⟩ (.int .i64 (ep + 1))).setCell ⟨w.heap.size + 1, 1, none⟩ (.slice Ao N co)) = W3 := ⟨_, rfl⟩
        rw [hW3] at p0 p1 HBE
        clear hb ho hbx hx2 hbe hno hN hnb
        go_wp2
        refine bodyPost_ret (v := .tuple #[.agg #[.int .i64 (ep + 1), .slice Ao N co], .int .i64 0]) ?_ rfl ⟨_, rfl, HBE.out.2, HBE.out.1⟩
        simp [results, Try.results33, go_sem, p0, p1]
  · have h0' : (z == 0) = false := by simpa using h0
    have h0'' : (z != 0) = true := by simpa using h0
    obtain rfl : m = (0, [], z) := by rw [← Hm.out]; unfold goT; rw [Hz.out, if_pos h0]
    obtain ⟨p0, p1, hbe⟩ := go_res (.int .i64 0) (.slice none 0 0) HX1.out HW1.out
    have HBE := Lib.hid hbe
    obtain ⟨W3, hW3⟩ : ∃ W3, ((w1.setCell ⟨w.heap.size + 1, 0, none⟩ (.int .i64 0)).setCell ⟨w.heap.size + 1, 1, none⟩ (.slice none 0 0)) = W3 := ⟨_, rfl⟩
    rw [hW3] at p0 p1 HBE
    clear h0 hb1 hbe
    go_wp2
    refine bodyPost_ret (v := .tuple #[.agg #[.int .i64 0, .slice none 0 0], .int .i64 z]) ?_ rfl (MapPost.err z HBE.out)
    simp [results, Try.results33, go_sem, p0, p1]
end Go.Proofs.Ytnfnjhnfpcbdfaa

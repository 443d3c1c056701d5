/- The document’s Move. Condition: the map is in memory.
-/
import Derived.Test.YtnfnjhnfpcbdfaaAtJ
import Derived.Test.YtnfnjhnfpcbdfaaGoB
namespace Go.Proofs.Ytnfnjhnfpcbdfaa
open Go.RowKit
open Go.Lib (strCells compareBytes)
/-- a part goes to the end of the parts of a map in its box -/
theorem app_step {w5 w7 V : World} {g N : Nat} {Ao A7 : Option Addr} {co c7 : Nat} {e1 : Value} {L : List Pt} {q : Pt} (hN : L.length = N) (hB : Box w5 g 24 #[e1, .slice Ao N co]) (hb : Below g V w5) (hs : g + 1 ≤ w5.heap.size)
    (hnb : (Value.slice Ao N co).ownBlock ≠ some g) (o : w5.ownsRow (g + 1) 46 2 (.slice Ao N co) N (ptCells L)) (o7 : w7.ownsRow (g + 1) 46 2 (.slice A7 (N + 1) c7) (N + 1) (ptCells L ++ ptCells [q])) (g7 : w5.grownBy w7 (Value.slice Ao N co).ownBlock) :
    w7.cell? ⟨g, 1, none⟩ = some (.slice Ao N co) ∧ w7.frozen? ⟨g, 1, none⟩ = false ∧ (OwnPts (w7.setCell ⟨g, 1, none⟩ (.slice A7 (N + 1) c7)) (g + 1) (.slice A7 (N + 1) c7) (L ++ [q]) ∧ Box (w7.setCell ⟨g, 1, none⟩ (.slice A7 (N + 1) c7)) g 24 #[e1, .slice A7 (N + 1) c7] ∧ Below g V (w7.setCell ⟨g, 1, none⟩ (.slice A7 (N + 1) c7)) ∧ g + 1 ≤ (w7.setCell ⟨g, 1, none⟩ (.slice A7 (N + 1) c7)).heap.size) := by
  have hB7 : Box w7 g 24 #[e1, .slice Ao N co] := hB.grown g7 (fun e => hnb e.symm)
  have h7 : OwnPts w7 (g + 1) (.slice A7 (N + 1) c7) (L ++ [q]) := by
    unfold OwnPts
    rw [List.length_append, hN, ptCells_app]
    exact o7
  have hb7 : Below g V w7 := hb.grown g7 (by omega) fun k e => by have := (o.lt k e).1; omega
  have hs7 := g7.size
  refine ⟨hB7.cell 1, hB7.frozen 1, h7.far fun e => by have := (o7.lt _ e).1; omega, by have h8 := hB7.set_ 1 (.slice A7 (N + 1) c7); simpa using h8, hb7.setCell (Nat.le_refl _) _, ?_⟩
  have h8 : (w7.setCell ⟨g, 1, none⟩ (.slice A7 (N + 1) c7)).heap.size = w7.heap.size := by simp
  omega

def moveK (l : List Pt) (i : Nat) (c : Pt) (k : Nat) : List Pt := (l.set i c).take k
theorem moveK_len (l : List Pt) (i : Nat) (c : Pt) (k : Nat) : (moveK l i c k).length ≤ k + 1 := by unfold moveK; rw [List.length_take]; omega
theorem moveK_step {l : List Pt} {i k : Nat} {c p : Pt} (hp : l[k]? = some p) (hk : k ≠ i) : moveK l i c (k + 1) = moveK l i c k ++ [p] := take_snocP (by rw [List.getElem?_set_ne (Ne.symm hk)]; exact hp)
theorem moveK_at {l : List Pt} {i : Nat} {c p : Pt} (hp : l[i]? = some p) : moveK l i c (i + 1) = moveK l i c i ++ [c] := take_snocP (by rw [List.getElem?_set_self (List.getElem?_eq_some_iff.1 hp).1])
theorem moveK_end {l : List Pt} {i : Nat} {c : Pt} : moveK l i c l.length = l.set i c := List.take_of_length_le (by rw [List.length_set]; exact Nat.le_refl _)
theorem move_none {l : List Pt} {s : ByteArray} {node : Int} {i : Nat} {p : Pt} (hi : holdN l s.data.toList = i) (hp : l[i]? = some p) (h : ¬ (1 ≤ node ∧ node ≤ 4) ∨ p.n = node) : moveP l s node = none := by
  unfold moveP
  rw [hi, ptAt_of hp]
  exact if_pos h
theorem move_some {l : List Pt} {s : ByteArray} {node : Int} {i n : Nat} {p : Pt} (hi : holdN l s.data.toList = i) (hp : l[i]? = some p) (hl : l.length = n) (h : 1 ≤ node ∧ node ≤ 4) (h2 : p.n ≠ node) : moveP l s node = some (moveK l i ⟨p.lo, node⟩ n) := by
  subst hl
  rw [moveK_end]
  unfold moveP
  rw [hi, ptAt_of hp]
  exact if_neg fun h9 => h9.elim (fun h8 => h8 h) h2
set_option maxRecDepth 100000 in
set_option maxHeartbeats 12800000 in
theorem refMove_any (ep : Int) (A : Option Addr) (n c C : Nat) (l : List Pt) (s : ByteArray) (node : Int) (w : World) (h : HasPts w C A n l) (hC : C ≤ w.heap.size) (hn : n ≤ maxLen) (hs : ∀ p ∈ l, p.lo.size ≤ maxLen) :
    Calls Try.prog 35 #[.agg #[.int .i64 ep, .slice A n c], .string s, .int .i64 node] w (MapPost (goT ep l (moveP l s node)) w) := by
  have Hc := Lib.hid (refCheck_any ep A n c C l ((w.alloc (.cells #[.int .i64 ep, .slice A n c] 24)).alloc (.cells #[.int .i64 0, .slice none 0 0] 24)) ((h.alloc hC _).alloc (by simp; omega) _) (by simp; omega) hn hs)
  have HM := Lib.hid (fun wx (hx : Below ((w.alloc (.cells #[.int .i64 ep, .slice A n c] 24)).alloc (.cells #[.int .i64 0, .slice none 0 0] 24)).heap.size ((w.alloc (.cells #[.int .i64 ep, .slice A n c] 24)).alloc (.cells #[.int .i64 0, .slice none 0 0] 24)) wx) => go_boxes hx)
  have HA : Hid (∀ wx, Below ((w.alloc (.cells #[.int .i64 ep, .slice A n c] 24)).alloc (.cells #[.int .i64 0, .slice none 0 0] 24)).heap.size ((w.alloc (.cells #[.int .i64 ep, .slice A n c] 24)).alloc (.cells #[.int .i64 0, .slice none 0 0] 24)) wx → HasPts wx C A n l) := Lib.hid fun wx hx => h.belowOf (go_boxes hx).2.2.1 hC
  have HF := Lib.hid (fun wx (hx : Below ((w.alloc (.cells #[.int .i64 ep, .slice A n c] 24)).alloc (.cells #[.int .i64 0, .slice none 0 0] 24)).heap.size ((w.alloc (.cells #[.int .i64 ep, .slice A n c] 24)).alloc (.cells #[.int .i64 0, .slice none 0 0] 24)) wx) => refFind_any ep A n c C l s wx (h.belowOf (go_boxes hx).2.2.1 hC) (Nat.le_trans hC (go_boxes hx).2.2.1.size) hn hs)
  have HBg := Lib.hid (fun wx (hx : Below ((w.alloc (.cells #[.int .i64 ep, .slice A n c] 24)).alloc (.cells #[.int .i64 0, .slice none 0 0] 24)).heap.size ((w.alloc (.cells #[.int .i64 ep, .slice A n c] 24)).alloc (.cells #[.int .i64 0, .slice none 0 0] 24)) wx) hr => refBegins_any ep A n c C l s wx (h.belowOf (go_boxes hx).2.2.1 hC) (Nat.le_trans hC (go_boxes hx).2.2.1.size) hr)
  have Hl := Lib.hid h.1
  obtain ⟨z, hz⟩ : ∃ z, checkT ep l = z := ⟨_, rfl⟩
  have Hz := Lib.hid hz
  obtain ⟨m, hm⟩ : ∃ m, goT ep l (moveP l s node) = m := ⟨_, rfl⟩
  have Hm := Lib.hid hm
  rw [hm]
  unfold CheckPost at Hc
  rw [hz] at Hc
  clear h hs hz hm
  go_enter Try.func35, Try.ntmps35
  go_wp2_with fail
  refine Hc.out.mono ?_
  rintro e w1 ⟨rfl, hb1⟩
  have Hb1 := Lib.hid hb1
  obtain ⟨hx1, hx2, hbw, hsz1⟩ := HM.out w1 hb1
  have HW1 := Lib.hid hbw
  have HX1 := Lib.hid hx2
  have q0 : w1.cell? ⟨w.heap.size, 0, none⟩ = some (.int .i64 ep) := hx1.cell 0
  have q1 : w1.cell? ⟨w.heap.size, 1, none⟩ = some (.slice A n c) := hx1.cell 1
  have r0 : w1.cell? ⟨w.heap.size + 1, 0, none⟩ = some (.int .i64 0) := hx2.cell 0
  have r1 : w1.cell? ⟨w.heap.size + 1, 1, none⟩ = some (.slice none 0 0) := hx2.cell 1
  have f0 : w1.frozen? ⟨w.heap.size + 1, 0, none⟩ = false := hx2.frozen 0
  have f1 : w1.frozen? ⟨w.heap.size + 1, 1, none⟩ = false := hx2.frozen 1
  clear hx1 hx2 hbw
  by_cases h0 : z = 0
  · subst h0
    have HR : Hid (1 ≤ ep ∧ ep ≤ 1099511627776 ∧ RightP l) := Lib.hid (check_zero.1 Hz.out)
    have HC0 : Hid (¬ checkT ep l ≠ 0) := Lib.hid fun h => h Hz.out
    have hn8 : n ≤ 8 := by have := HR.out.2.2.most; have := Hl.out; omega
    obtain ⟨a, rfl⟩ : ∃ a, A = some a := by
      obtain ⟨a, -, h9, -⟩ := (HA.out w1 hb1).at_ (i := 0) (by have := HR.out.2.2.one; have := Hl.out; omega)
      exact ⟨a, h9⟩
    have HHi := Lib.hid (hold_is HR.out.2.2 s.data.toList)
    obtain ⟨i, hi⟩ : ∃ i, holdN l s.data.toList = i := ⟨_, rfl⟩
    have Hi := Lib.hid hi
    rw [hi] at HHi
    obtain ⟨pi, hpi⟩ : ∃ p, l[i]? = some p := ⟨_, HHi.out.1.choose_spec.1⟩
    have Hpi := Lib.hid hpi
    have hin : i < n := by have := (List.getElem?_eq_some_iff.1 hpi).1; have := Hl.out; omega
    have hFe : findT ep l s.data.toList = (i, true) := by unfold findT; rw [if_pos Hz.out, hi]
    rw [hFe] at HF
    clear hFe hi hpi hb1 Hc
    go_wp2_with fail
    refine (HF.out w1 Hb1.out).mono ?_
    rintro e w2 ⟨rfl, b2⟩
    have Hb2 := Lib.hid (Hb1.out.trans (b2.mono Hb1.out.size))
    clear q0 q1 r0 r1 f0 f1 b2
    obtain ⟨hx1, hx2, hbw, hsz2⟩ := HM.out w2 Hb2.out
    have Hw2 := Lib.hid hbw
    have HX2 := Lib.hid hx2
    have q0 : w2.cell? ⟨w.heap.size, 0, none⟩ = some (.int .i64 ep) := hx1.cell 0
    have q1 : w2.cell? ⟨w.heap.size, 1, none⟩ = some (.slice (some a) n c) := hx1.cell 1
    have r0 : w2.cell? ⟨w.heap.size + 1, 0, none⟩ = some (.int .i64 0) := hx2.cell 0
    have r1 : w2.cell? ⟨w.heap.size + 1, 1, none⟩ = some (.slice none 0 0) := hx2.cell 1
    have f0 : w2.frozen? ⟨w.heap.size + 1, 0, none⟩ = false := hx2.frozen 0
    have f1 : w2.frozen? ⟨w.heap.size + 1, 1, none⟩ = false := hx2.frozen 1
    clear hx1 hx2 hbw
    obtain ⟨a', p, ha, -, hp, -, c1⟩ := (HA.out w2 Hb2.out).at_ hin
    injection ha with ha
    subst ha
    obtain rfl : p = pi := by have h9 := Hpi.out; rw [hp] at h9; injection h9
    obtain ⟨plo, pn⟩ := p
    simp only at c1
    have hi0 : (0 : Int) ≤ (i : Int) := by omega
    have hi1 : (i : Int) < (n : Int) := by omega
    clear hp
    by_cases hn1 : node < 1
    · have hrn := move_none (node := node) Hi.out Hpi.out (.inl (by omega))
      obtain rfl : m = (0, [], 14) := by rw [← Hm.out]; unfold goT; rw [if_neg HC0.out, hrn]
      obtain ⟨p0, p1, hbe⟩ := go_res (.int .i64 0) (.slice none 0 0) HX2.out Hw2.out
      have HBE := Lib.hid hbe
      obtain ⟨W3, hW3⟩ : ∃ W3, ((w2.setCell ⟨w.heap.size + 1, 0, none⟩ (.int .i64 0)).setCell ⟨w.heap.size + 1, 1, none⟩ (.slice none 0 0)) = W3 := ⟨_, rfl⟩
      rw [hW3] at p0 p1 HBE
      clear hbe hrn
      go_wp2
      refine bodyPost_ret (v := .tuple #[.agg #[.int .i64 0, .slice none 0 0], .int .i64 14]) ?_ rfl (MapPost.err 14 HBE.out)
      simp [results, Try.results35, go_sem, p0, p1]
    by_cases hn4 : 4 < node
    · have hrn := move_none (node := node) Hi.out Hpi.out (.inl (by omega))
      obtain rfl : m = (0, [], 14) := by rw [← Hm.out]; unfold goT; rw [if_neg HC0.out, hrn]
      obtain ⟨p0, p1, hbe⟩ := go_res (.int .i64 0) (.slice none 0 0) HX2.out Hw2.out
      have HBE := Lib.hid hbe
      obtain ⟨W3, hW3⟩ : ∃ W3, ((w2.setCell ⟨w.heap.size + 1, 0, none⟩ (.int .i64 0)).setCell ⟨w.heap.size + 1, 1, none⟩ (.slice none 0 0)) = W3 := ⟨_, rfl⟩
      rw [hW3] at p0 p1 HBE
      clear hbe hrn
      go_wp2
      refine bodyPost_ret (v := .tuple #[.agg #[.int .i64 0, .slice none 0 0], .int .i64 14]) ?_ rfl (MapPost.err 14 HBE.out)
      simp [results, Try.results35, go_sem, p0, p1]
    by_cases hpn : pn = node
    · have hd : (pn == node) = true := by simpa using hpn
      have hrn := move_none (node := node) Hi.out Hpi.out (.inr hpn)
      obtain rfl : m = (0, [], 14) := by rw [← Hm.out]; unfold goT; rw [if_neg HC0.out, hrn]
      obtain ⟨p0, p1, hbe⟩ := go_res (.int .i64 0) (.slice none 0 0) HX2.out Hw2.out
      have HBE := Lib.hid hbe
      obtain ⟨W3, hW3⟩ : ∃ W3, ((w2.setCell ⟨w.heap.size + 1, 0, none⟩ (.int .i64 0)).setCell ⟨w.heap.size + 1, 1, none⟩ (.slice none 0 0)) = W3 := ⟨_, rfl⟩
      rw [hW3] at p0 p1 HBE
      clear hbe hrn hpn
      go_wp2
      refine bodyPost_ret (v := .tuple #[.agg #[.int .i64 0, .slice none 0 0], .int .i64 14]) ?_ rfl (MapPost.err 14 HBE.out)
      simp [results, Try.results35, go_sem, p0, p1]
    have hd : (pn == node) = false := by simpa using hpn
    have hsome := move_some (node := node) Hi.out Hpi.out Hl.out ⟨by omega, by omega⟩ hpn
    clear hpn
    by_cases he : ep = 1099511627776
    · have hde : (ep == 1099511627776) = true := by simpa using he
      obtain rfl : m = (0, [], 4) := by rw [← Hm.out]; unfold goT; rw [if_neg HC0.out, hsome]; exact if_pos he
      obtain ⟨p0, p1, hbe⟩ := go_res (.int .i64 0) (.slice none 0 0) HX2.out Hw2.out
      have HBE := Lib.hid hbe
      obtain ⟨W3, hW3⟩ : ∃ W3, ((w2.setCell ⟨w.heap.size + 1, 0, none⟩ (.int .i64 0)).setCell ⟨w.heap.size + 1, 1, none⟩ (.slice none 0 0)) = W3 := ⟨_, rfl⟩
      rw [hW3] at p0 p1 HBE
      clear hbe he hsome
      go_wp2
      refine bodyPost_ret (v := .tuple #[.agg #[.int .i64 0, .slice none 0 0], .int .i64 4]) ?_ rfl (MapPost.err 4 HBE.out)
      simp [results, Try.results35, go_sem, p0, p1]
    have hde : (ep == 1099511627776) = false := by simpa using he
    obtain rfl : m = (ep + 1, moveK l i ⟨plo, node⟩ n, 0) := by rw [← Hm.out]; unfold goT; rw [if_neg HC0.out, hsome]; exact if_neg he
    have hwe : IntKind.i64.wrap (ep + 1) = ep + 1 := IntWalk.i64_in _ (by have := HR.out; omega)
    obtain ⟨g, hg⟩ : ∃ g, w2.heap.size = g := ⟨_, rfl⟩
    have HBo : Hid (Box (w2.alloc (.cells #[.int .i64 (ep + 1), .slice none 0 0] 24)) g 24 #[.int .i64 (ep + 1), .slice none 0 0] ∧ Below g w2 (w2.alloc (.cells #[.int .i64 (ep + 1), .slice none 0 0] 24)) ∧ g + 1 ≤ (w2.alloc (.cells #[.int .i64 (ep + 1), .slice none 0 0] 24)).heap.size) := Lib.hid (by subst hg; exact ⟨Box.made _ _ _, below_box _, by simp⟩)
    have Hgw : Hid (w.heap.size + 2 ≤ g) := Lib.hid (by omega)
    have Hg := Lib.hid hg
    have HK : Hid (∀ wx, Below g w2 wx → HasPts wx C (some a) n l ∧ (wx.cell? ⟨w.heap.size, 0, none⟩ = some (.int .i64 ep) ∧ wx.cell? ⟨w.heap.size, 1, none⟩ = some (.slice (some a) n c)) ∧ Box wx (w.heap.size + 1) 24 #[.int .i64 0, .slice none 0 0] ∧ Below w.heap.size w wx) := Lib.hid fun wx hx => by
      have h1 := Hb2.out.trans (hx.mono (by have := Hb2.out.size; omega))
      obtain ⟨hx1, hx2, hbw, -⟩ := HM.out wx h1
      exact ⟨HA.out wx h1, ⟨hx1.cell 0, hx1.cell 1⟩, hx2, hbw⟩
    clear he hsome r0 r1 f0 f1 
    go_wp2
    go_loopw [12] (fun iv wr => ∃ (k : Nat) (v : Value), k ≤ n ∧ iv = .int .i64 (k : Int) ∧ OwnPts wr (g + 1) v (moveK l i ⟨plo, node⟩ k) ∧ Box wr g 24 #[.int .i64 (ep + 1), v] ∧ Below g w2 wr ∧ g + 1 ≤ wr.heap.size) (fun iv _ => n - (intOf iv).toNat)
    case atStart => exact ⟨0, _, by omega, rfl, by rw [(show moveK l i ⟨plo, node⟩ 0 = [] from rfl)]; exact OwnPts.nil _ _, HBo.out.1, HBo.out.2.1, HBo.out.2.2⟩
    case round =>
      obtain ⟨k, v, hk, rfl, ho, hbx, hb, hgs⟩ := hrel
      have Hb := Lib.hid hb
      have HBx := Lib.hid hbx
      have Ho := Lib.hid ho
      have q1 := (HK.out wr hb).2.1.2
      have HLl : Hid ((moveK l i ⟨plo, node⟩ k).length ≤ k + 1) := Lib.hid (moveK_len l i ⟨plo, node⟩ k)
      obtain ⟨Ao, co, rfl, -, -, -⟩ := ho.slice
      obtain ⟨N, hN⟩ : ∃ N, (moveK l i ⟨plo, node⟩ k).length = N := ⟨_, rfl⟩
      have HN := Lib.hid hN
      rw [hN] at hbx HBx Ho HLl
      have y0 : wr.cell? ⟨g, 0, none⟩ = some (.int .i64 (ep + 1)) := hbx.cell 0
      have y1 : wr.cell? ⟨g, 1, none⟩ = some (.slice Ao N co) := hbx.cell 1
      have hnb : (Value.slice Ao N co).ownBlock ≠ some g := fun e => by have := (Ho.out.lt _ e).1; omega
      have Hnb := Lib.hid hnb
      by_cases hlt : k < n
      · obtain ⟨a', p, ha, hab, hp, c0, c1⟩ := (HK.out wr hb).1.at_ hlt
        injection ha with ha
        subst ha
        have Hp := Lib.hid hp
        obtain ⟨plo1, pn1⟩ := p
        simp only at c0 c1
        have hk0 : (0 : Int) ≤ (k : Int) := by omega
        have hk1 : (k : Int) < (n : Int) := by omega
        clear hp hab hb hbx ho hN hnb
        have HOp : Hid (∀ wx, Below wr.heap.size wr wx → wx.ownsRow (g + 1) 46 2 (.slice Ao N co) N (ptCells (moveK l i ⟨plo, node⟩ k))) := Lib.hid fun wx hx => by
          have h9 := Ho.out.below hx
          unfold OwnPts at h9
          rw [HN.out] at h9
          exact h9
        have HBp : Hid (∀ wx, Below wr.heap.size wr wx → Box wx g 24 #[.int .i64 (ep + 1), .slice Ao N co] ∧ Below g w2 wx ∧ g + 1 ≤ wx.heap.size) := Lib.hid fun wx hx => ⟨HBx.out.below hx HBx.out.lt, Hb.out.trans (hx.mono (by omega)), by have := hx.size; omega⟩
        have HA1 := Lib.hid ((below_box (w := wr) (Obj.cells #[.string plo1, .int .i64 pn1] 46)))
        have y1p : (wr.alloc (.cells #[.string plo1, .int .i64 pn1] 46)).cell? ⟨g, 1, none⟩ = some (.slice Ao N co) := (HBp.out _ HA1.out).1.cell 1
        by_cases hki : k = i
        · subst hki
          have hdk : ((k : Int) == (k : Int)) = true := by simp
          obtain ⟨rfl, rfl⟩ : plo1 = plo ∧ pn1 = pn := by have h9 := Hp.out; rw [Hpi.out] at h9; injection h9 with h9; injection h9 with h9 h8; exact ⟨h9.symm, h8.symm⟩
          have HS2 := Lib.hid ((below_box (w := wr) (Obj.cells #[.string plo1, .int .i64 node] 46)))
          have y1q : (wr.alloc (.cells #[.string plo1, .int .i64 node] 46)).cell? ⟨g, 1, none⟩ = some (.slice Ao N co) := (HBp.out _ HS2.out).1.cell 1
          have b5 : Below wr.heap.size wr (((wr.alloc (.cells #[.string plo1, .int .i64 node] 46)).alloc (.cells #[.string plo1, .int .i64 node] 46))) := HS2.out.alloc HS2.out.size _
          have hB5 := HBp.out _ b5
          have hO5 := HOp.out _ b5
          have HBO5 := Lib.hid (And.intro hB5 hO5)
          have HLt := Has.lit (wr.alloc (.cells #[.string plo1, .int .i64 node] 46)) #[.string plo1, .int .i64 node] 46
          simp only [World.size_alloc] at HLt
          have HLit := Lib.hid HLt
          clear hB5 hO5 b5 HLt
          go_wp2_with (at_builtin; go_loud (refine wpList_append_hasN rfl (.tmp 69) (.tmp 71) _ rfl 46 pt_elem (by omega) Try.underlying22 rfl HBO5.out.2 rfl HLit.out (ptCells_one [⟨plo1, node⟩]) (by have := HLl.out; simp only [maxLen]; omega) (by have := HLl.out; omega) HBO5.out.1.2.2 ?_; intro v7 w7 o7 g7 z7; obtain ⟨A7, c7, rfl, -, -, -⟩ := own_sliceN o7; obtain ⟨y7, x7, h8⟩ := app_step (q := ⟨plo1, node⟩) HN.out HBO5.out.1.1 HBO5.out.1.2.1 HBO5.out.1.2.2 Hnb.out HBO5.out.2 o7 g7; have H8 := Lib.hid h8; clear o7 g7 z7 h8))
          rw [← moveK_at Hpi.out] at H8
          go_roundw
          case rel => exact ⟨k + 1, _, by omega, by go_num, H8.out.1, H8.out.2.1, H8.out.2.2.1, H8.out.2.2.2⟩
          case measure => simp [intOf]; omega
        · have hdk : ((k : Int) == (i : Int)) = false := by simpa using (by omega : ¬ (k : Int) = (i : Int))
          have b5 : Below wr.heap.size wr (((wr.alloc (.cells #[.string plo1, .int .i64 pn1] 46)).alloc (.cells #[.string plo1, .int .i64 pn1] 46))) := HA1.out.alloc HA1.out.size _
          have hB5 := HBp.out _ b5
          have hO5 := HOp.out _ b5
          have HBO5 := Lib.hid (And.intro hB5 hO5)
          have HLt := Has.lit (wr.alloc (.cells #[.string plo1, .int .i64 pn1] 46)) #[.string plo1, .int .i64 pn1] 46
          simp only [World.size_alloc] at HLt
          have HLit := Lib.hid HLt
          clear hB5 hO5 b5 HLt
          go_wp2_with (at_builtin; go_loud (refine wpList_append_hasN rfl (.tmp 69) (.tmp 71) _ rfl 46 pt_elem (by omega) Try.underlying22 rfl HBO5.out.2 rfl HLit.out (ptCells_one [⟨plo1, pn1⟩]) (by have := HLl.out; simp only [maxLen]; omega) (by have := HLl.out; omega) HBO5.out.1.2.2 ?_; intro v7 w7 o7 g7 z7; obtain ⟨A7, c7, rfl, -, -, -⟩ := own_sliceN o7; obtain ⟨y7, x7, h8⟩ := app_step (q := ⟨plo1, pn1⟩) HN.out HBO5.out.1.1 HBO5.out.1.2.1 HBO5.out.1.2.2 Hnb.out HBO5.out.2 o7 g7; have H8 := Lib.hid h8; clear o7 g7 z7 h8))
          rw [← moveK_step Hp.out hki] at H8
          go_roundw
          case rel => exact ⟨k + 1, _, by omega, by go_num, H8.out.1, H8.out.2.1, H8.out.2.2.1, H8.out.2.2.2⟩
          case measure => simp [intOf]; omega
      · obtain rfl : n = k := by omega
        have hx2 := (HK.out wr hb).2.2
        have r0 : wr.cell? ⟨w.heap.size + 1, 0, none⟩ = some (.int .i64 0) := hx2.1.cell 0
        have r1 : wr.cell? ⟨w.heap.size + 1, 1, none⟩ = some (.slice none 0 0) := hx2.1.cell 1
        have f0 : wr.frozen? ⟨w.heap.size + 1, 0, none⟩ = false := hx2.1.frozen 0
        have f1 : wr.frozen? ⟨w.heap.size + 1, 1, none⟩ = false := hx2.1.frozen 1
        obtain ⟨p0, p1, hbe⟩ := go_res (.int .i64 (ep + 1)) (.slice Ao N co) hx2.1 hx2.2
        have hno : (Value.slice Ao N co).ownBlock ≠ some (w.heap.size + 1) := fun e => by have := (Ho.out.lt _ e).1; have := Hgw.out; omega
        have HBE := Lib.hid (And.intro hbe (((Ho.out.far (i := 0) (u := .int .i64 (ep + 1)) hno).far (i := 1) (u := .slice Ao N co) hno).base (B' := w.heap.size) (by have := Hgw.out; omega)))
        obtain ⟨W3, hW3⟩ : ∃ W3, ((wr.setCell ⟨w.heap.size + 1, 0, none⟩ (.int .i64 (ep + 1))).setCell ⟨w.heap.size + 1, 1, none⟩ (.slice Ao N co)) = W3 := ⟨_, rfl⟩
        rw [hW3] at p0 p1 HBE
        clear hb ho hbx hx2 hbe hno hN hnb
        go_wp2
        refine bodyPost_ret (v := .tuple #[.agg #[.int .i64 (ep + 1), .slice Ao N co], .int .i64 0]) ?_ rfl ⟨_, rfl, HBE.out.2, HBE.out.1⟩
        simp [results, Try.results35, go_sem, p0, p1]
  · have h0' : (z == 0) = false := by simpa using h0
    have h0'' : (z != 0) = true := by simpa using h0
    obtain rfl : m = (0, [], z) := by rw [← Hm.out]; unfold goT; rw [Hz.out, if_pos h0]
    obtain ⟨p0, p1, hbe⟩ := go_res (.int .i64 0) (.slice none 0 0) HX1.out HW1.out
    have HBE := Lib.hid hbe
    obtain ⟨W3, hW3⟩ : ∃ W3, ((w1.setCell ⟨w.heap.size + 1, 0, none⟩ (.int .i64 0)).setCell ⟨w.heap.size + 1, 1, none⟩ (.slice none 0 0)) = W3 := ⟨_, rfl⟩
    rw [hW3] at p0 p1 HBE
    clear h0 hb1 hbe
    go_wp2
    refine bodyPost_ret (v := .tuple #[.agg #[.int .i64 0, .slice none 0 0], .int .i64 z]) ?_ rfl (MapPost.err z HBE.out)
    simp [results, Try.results35, go_sem, p0, p1]
end Go.Proofs.Ytnfnjhnfpcbdfaa

/- A road's method begins. Condition: the road is in memory, and each end took a beginning of what the other one sent. -/
import Derived.Test.YtaljojjpgkmiiaaMWalk
import Derived.RegionTactic
import Derived.BigQuiet
import Derived.Test.YtaljojjpgkmiiaaMSesP
namespace Go.Proofs.Ytaljojjpgkmiiaa
open Go.RowKit
open Go.Lib (strCells)

/-- a box that was laid ahead of a call, behind it -/
theorem box_behind {w w1 : World} {t : TypeId} {cs : Array Value} (hb : Below (w.alloc (.cells cs t)).heap.size (w.alloc (.cells cs t)) w1) : Box w1 w.heap.size t cs :=
  (Box.made w t cs).below hb (by simp)

theorem results_box {fn : Func} {s : Tmp} (h : fn.results = #[.cell s 119]) {tmps : Array Value} {g : Nat} (hs : tmps.getD s undef = .pointer (some ⟨g, 0, none⟩)) {w : World} {a b c d e : Value}
    (hb : Box w g 119 #[a, b, c, d, e]) : (results fn tmps).run Try.prog w = .ok (.agg #[a, b, c, d, e]) w := by
  have c0 := hb.cell 0
  have c1 := hb.cell 1
  have c2 := hb.cell 2
  have c3 := hb.cell 3
  have c4 := hb.cell 4
  simp only [List.getElem?_toArray, List.getElem?_cons_zero, List.getElem?_cons_succ] at c0 c1 c2 c3 c4
  have hs2 : tmps[s]?.getD undef = .pointer (some ⟨g, 0, none⟩) := by simpa using hs
  simp [results, h, hs2, go_sem, c0, c1, c2, c3, c4]
theorem Box.drew {w : World} {g : Nat} {t : TypeId} {cs : Array Value} (h : Box w g t cs) : Box w.drew g t cs := h
theorem Box.five {w : World} {g : Nat} {t : TypeId} {a b c d e a' b' c' d' e' : Value} (h : Box w g t #[a, b, c, d, e]) :
    Box (((((w.setCell ⟨g, 0, none⟩ a').setCell ⟨g, 1, none⟩ b').setCell ⟨g, 2, none⟩ c').setCell ⟨g, 3, none⟩ d').setCell ⟨g, 4, none⟩ e') g t #[a', b', c', d', e'] := by
  have := ((((h.set_ 0 a').set_ 1 b').set_ 2 c').set_ 3 d').set_ 4 e'
  simpa using this
theorem below_five {w0 w : World} {g B : Nat} (h : Below B w0 w) (hg : B ≤ g) (a' b' c' d' e' : Value) :
    Below B w0 (((((w.setCell ⟨g, 0, none⟩ a').setCell ⟨g, 1, none⟩ b').setCell ⟨g, 2, none⟩ c').setCell ⟨g, 3, none⟩ d').setCell ⟨g, 4, none⟩ e') :=
  ((((h.setCell hg _).setCell hg _).setCell hg _).setCell hg _).setCell hg _

set_option maxHeartbeats 12800000 in
set_option maxRecDepth 100000 in
theorem refText_any (A : Option Addr) (n c B : Nat) (p most : Int) (l : List UInt8) (w : World) (h : HasBytes w B A n l) (hB : B ≤ w.heap.size) (hn : n ≤ 4611686018427387904) (hnc : n ≤ c) :
    Calls Try.prog 105 #[.slice A n c, .int .i64 p, .int .i64 most] w fun e w' =>
      e = .returned (got 0 (getText l p most).1 (.slice none 0 0) (getText l p most).2.1 (getText l p most).2.2) ∧ Below w.heap.size w w' := by
  have hl := h.len
  obtain ⟨r, hr⟩ : ∃ r, getNum l p = r := ⟨_, rfl⟩
  obtain ⟨x, u, e⟩ := r
  have hcall := fun W (hW : HasBytes W B A n l) (hBW : B ≤ W.heap.size) => refNum_any A n c B p l W hW hBW (by omega)
  rw [hr] at hcall
  have hT : getText l p most = if e ≠ 0 then ([], 0, e) else if most < x then ([], 0, 4) else if l.length - u < x then ([], 0, 2) else ((l.drop u).take x, u + x, 0) := by
    simp only [getText, hr]
  rw [hl] at hT
  have hcall2 := Lib.hid hcall
  clear hcall
  by_cases he : e = 0
  · subst he
    have hbd := getNum_bound (l := l) (p := p) (by rw [hr])
    rw [hr] at hbd
    simp only [hl] at hbd
    rw [if_neg (by omega)] at hT
    have Hl := Lib.hid hl
    clear hl hr
    by_cases hm : most < x
    · rw [if_pos hm] at hT
      have HT := Lib.hid hT
      clear hT
      go_enter Try.func105, Try.ntmps105
      go_wp2_with fail
      refine (hcall2.out _ (h.alloc hB _) (le_alloc hB _)).mono ?_
      rintro e w1 ⟨rfl, hb1⟩
      have hbx := Lib.hid (box_behind hb1)
      have c0 := hbx.out.cell 0
      have c1 := hbx.out.cell 1
      have c2 := hbx.out.cell 2
      have c3 := hbx.out.cell 3
      have c4 := hbx.out.cell 4
      have fz := hbx.out.frozen
      have hlt := hbx.out.lt
      have Hb1 := Lib.hid (((Below.refl _ _).alloc (Nat.le_refl _) _).trans (hb1.mono (by simp)))
      clear hb1
      simp only [List.getElem?_toArray, List.getElem?_cons_zero, List.getElem?_cons_succ] at c0 c1 c2 c3 c4
      unfold got
      go_wp2
      refine bodyPost_ret (results_box rfl rfl (hbx.out.five.alloc _)) rfl ?_
      rw [HT.out]
      exact ⟨rfl, (below_five Hb1.out (Nat.le_refl _) _ _ _ _ _).alloc (by simp; omega) _⟩
    · rw [if_neg hm] at hT
      by_cases hs : n - u < x
      · rw [if_pos hs] at hT
        have HT := Lib.hid hT
        clear hT
        go_enter Try.func105, Try.ntmps105
        go_wp2_with fail
        refine (hcall2.out _ (h.alloc hB _) (le_alloc hB _)).mono ?_
        rintro e w1 ⟨rfl, hb1⟩
        have hbx := Lib.hid (box_behind hb1)
        have c0 := hbx.out.cell 0
        have c1 := hbx.out.cell 1
        have c2 := hbx.out.cell 2
        have c3 := hbx.out.cell 3
        have c4 := hbx.out.cell 4
        have fz := hbx.out.frozen
        have hlt := hbx.out.lt
        have Hb1 := Lib.hid (((Below.refl _ _).alloc (Nat.le_refl _) _).trans (hb1.mono (by simp)))
        clear hb1
        simp only [List.getElem?_toArray, List.getElem?_cons_zero, List.getElem?_cons_succ] at c0 c1 c2 c3 c4
        unfold got
        go_wp2
        refine bodyPost_ret (results_box rfl rfl (hbx.out.five.alloc _)) rfl ?_
        rw [HT.out]
        exact ⟨rfl, (below_five Hb1.out (Nat.le_refl _) _ _ _ _ _).alloc (by simp; omega) _⟩
      · rw [if_neg hs] at hT
        have HT := Lib.hid hT
        clear hT
        have hux : u + x ≤ n := by omega
        have hcv : ∃ A', (if c = u then A else A.map (·.add u)) = A' ∧ ∀ W cap, HasBytes W B A n l → (convert 76 9 (.slice A' x cap)).run Try.prog W = .ok (.string ⟨((l.drop u).take x).toArray⟩) W :=
          ⟨_, rfl, fun W cap hW => run_string_of (P := Try.prog) ((hW.part (by omega) hnc).head (k := x) (by omega)) cap 76 9 5 Try.underlying76 Try.underlying5 Try.underlying9⟩
        obtain ⟨A', hA, hcv⟩ := hcv
        have Hcv := Lib.hid hcv
        clear hcv
        go_enter Try.func105, Try.ntmps105
        go_wp2_with fail
        refine (hcall2.out _ (h.alloc hB _) (le_alloc hB _)).mono ?_
        rintro e w1 ⟨rfl, hb1⟩
        have hbx := Lib.hid (box_behind hb1)
        have c0 := hbx.out.cell 0
        have c1 := hbx.out.cell 1
        have c2 := hbx.out.cell 2
        have c3 := hbx.out.cell 3
        have c4 := hbx.out.cell 4
        have fz := hbx.out.frozen
        have hlt := hbx.out.lt
        have Hb1 := Lib.hid (((Below.refl _ _).alloc (Nat.le_refl _) _).trans (hb1.mono (by simp)))
        clear hb1
        simp only [List.getElem?_toArray, List.getElem?_cons_zero, List.getElem?_cons_succ] at c0 c1 c2 c3 c4
        unfold got
        have hcv : ∀ o cap, (convert 76 9 (.slice A' (u + x - u) cap)).run Try.prog (w1.alloc o).drew = .ok (.string ⟨((l.drop u).take x).toArray⟩) (w1.alloc o).drew := fun o cap => by
          rw [Nat.add_sub_cancel_left]
          exact Hcv.out (w1.alloc o).drew cap ((h.belowOf Hb1.out hB).alloc (by omega) o)
        have hcv2 : ∀ o cap, (convert 76 9 (.slice A' x cap)).run Try.prog (w1.alloc o).drew = .ok (.string ⟨((l.drop u).take x).toArray⟩) (w1.alloc o).drew := fun o cap =>
          Hcv.out (w1.alloc o).drew cap ((h.belowOf Hb1.out hB).alloc (by omega) o)
        go_wp2
        go_region
        all_goals
          go_wp2
          refine bodyPost_ret (results_box rfl rfl (hbx.out.five.alloc _).drew) rfl ?_
          rw [HT.out]
          exact ⟨rfl, ((below_five Hb1.out (Nat.le_refl _) _ _ _ _ _).alloc (by simp; omega) _).drew⟩
  · rw [if_pos he] at hT
    have hgt : 0 < e := by omega
    have h3 := getNum_e_lt l p
    have h0 := getNum_err (l := l) (p := p) (by rw [hr]; exact he)
    rw [hr] at h3 h0
    simp only [Prod.mk.injEq, and_true] at h3 h0
    obtain ⟨rfl, rfl⟩ := h0
    have hei : ((e : Int) == 0) = false := by simp; omega
    have HT := Lib.hid hT
    clear hT hl hr
    go_enter Try.func105, Try.ntmps105
    go_wp2_with fail
    refine (hcall2.out _ (h.alloc hB _) (le_alloc hB _)).mono ?_
    rintro e w1 ⟨rfl, hb1⟩
    have hbx := Lib.hid (box_behind hb1)
    have c0 := hbx.out.cell 0
    have c1 := hbx.out.cell 1
    have c2 := hbx.out.cell 2
    have c3 := hbx.out.cell 3
    have c4 := hbx.out.cell 4
    have fz := hbx.out.frozen
    have hlt := hbx.out.lt
    have Hb1 := Lib.hid (((Below.refl _ _).alloc (Nat.le_refl _) _).trans (hb1.mono (by simp)))
    clear hb1
    simp only [List.getElem?_toArray, List.getElem?_cons_zero, List.getElem?_cons_succ] at c0 c1 c2 c3 c4
    unfold got
    go_wp2
    refine bodyPost_ret (results_box rfl rfl (hbx.out.five.alloc _)) rfl ?_
    rw [HT.out]
    exact ⟨rfl, (below_five Hb1.out (Nat.le_refl _) _ _ _ _ _).alloc (by simp; omega) _⟩

end Go.Proofs.Ytaljojjpgkmiiaa

namespace Go.Proofs.Ytaljojjpgkmiiaa
open Go.RowKit
open Go.Lib (strCells)

section
variable {w w' : World} {g B n : Nat} {t e : TypeId} {cs : Array Value} {v : Value} {xs : List Value}
theorem own_box_apart (hown : w.ownsRow B e 1 v n xs) (hb : Box w g t cs) (hne : e ≠ t) : v.ownBlock ≠ some g := by
  rcases hown.2 with ⟨rfl, _⟩ | ⟨g', cap, cur, rfl, _, hh, _⟩
  · simp [Value.ownBlock]
  · intro he
    have hg : g' = g := by simpa [Value.ownBlock] using he
    subst hg
    unfold Box at hb
    rw [hb] at hh
    injection hh with hh
    injection hh with _ ht
    exact hne ht.symm
theorem own_setCell (hown : w.ownsRow B e 1 v n xs) (hb : Box w g t cs) (hne : e ≠ t) (i : Nat) (u : Value) : (w.setCell ⟨g, i, none⟩ u).ownsRow B e 1 v n xs := by
  have hg : w.grownBy (w.setCell ⟨g, i, none⟩ u) (some g) := ⟨rfl, rfl, rfl, by simp [World.setCell], fun k _ hk => Below.heap_setCell w ⟨g, i, none⟩ u k (fun e => hk (by rw [e]))⟩
  exact hown.kept hg (.inr (own_box_apart hown hb hne))
theorem Box.grownOwn (hb : Box w g t cs) (hown : w.ownsRow B e 1 v n xs) (hne : e ≠ t) (hg : w.grownBy w' v.ownBlock) : Box w' g t cs :=
  hb.grown hg (fun h => own_box_apart hown hb hne h.symm)
theorem Box.at5 {a b c d f : Value} (h : Box w g t #[a, b, c, d, f]) : w.cell? ⟨g, 0, none⟩ = some a ∧ w.cell? ⟨g, 1, none⟩ = some b ∧ w.cell? ⟨g, 2, none⟩ = some c ∧ w.cell? ⟨g, 3, none⟩ = some d ∧ w.cell? ⟨g, 4, none⟩ = some f :=
  ⟨h.cell 0, h.cell 1, h.cell 2, h.cell 3, h.cell 4⟩
theorem own_five (hown : w.ownsRow B e 1 v n xs) {a b c d f : Value} (hb : Box w g t #[a, b, c, d, f]) (hne : e ≠ t) (a' b' c' d' f' : Value) :
    (((((w.setCell ⟨g, 0, none⟩ a').setCell ⟨g, 1, none⟩ b').setCell ⟨g, 2, none⟩ c').setCell ⟨g, 3, none⟩ d').setCell ⟨g, 4, none⟩ f').ownsRow B e 1 v n xs :=
  own_setCell (own_setCell (own_setCell (own_setCell (own_setCell hown hb hne 0 a') (hb.set_ 0 a') hne 1 b') ((hb.set_ 0 a').set_ 1 b') hne 2 c') (((hb.set_ 0 a').set_ 1 b').set_ 2 c') hne 3 d') ((((hb.set_ 0 a').set_ 1 b').set_ 2 c').set_ 3 d') hne 4 f'
end

theorem Has.oneAt (w : World) (u : Value) (t : TypeId) (w' : World) (g : Nat) (hg : w.heap.size = g) (hw : w' = w.alloc (.cells #[u] t)) : Has w' w'.heap.size (some ⟨g, 0, none⟩) 1 [u] := by
  subst hg
  exact Has.one w u t w' hw

/-- the document's GetTexts: the list is a row of the call's own -/
def GivesGot (B : Nat) (r : List (List UInt8) × Nat × Nat) (w : World) (e : Ending) (w' : World) : Prop :=
  ∃ lv, e = .returned (got 0 [] lv r.2.1 r.2.2) ∧ w'.ownsRow B 9 1 lv r.1.length (strVals r.1) ∧ Below B w w'
theorem givesGot_err {B : Nat} {w w' : World} {r : List (List UInt8) × Nat × Nat} {e : Nat} (h : r = ([], 0, e)) (hb : Below B w w') :
    GivesGot B r w (.returned (got 0 [] (.slice none 0 0) 0 e)) w' := by
  subst h
  exact ⟨_, rfl, World.ownsRow_nil _ _ _ _, hb⟩
def zeroBox : Array Value := #[.int .i64 0, .string ⟨#[]⟩, .slice none 0 0, .int .i64 0, .int .i64 0]

set_option maxHeartbeats 1600000 in
set_option maxRecDepth 100000 in
theorem refTexts_any (A : Option Addr) (n c C : Nat) (p count most : Int) (l : List UInt8) (w : World) (h : HasBytes w C A n l) (hC : C ≤ w.heap.size) (hn : n ≤ 1000000) (hnc : n ≤ c) :
    Calls Try.prog 72 #[.slice A n c, .int .i64 p, .int .i64 count, .int .i64 most] w (GivesGot w.heap.size (getTexts l p count most) w) := by
  have hl := h.len
  obtain ⟨r, hr⟩ : ∃ r, getNum l p = r := ⟨_, rfl⟩
  obtain ⟨x, u, e⟩ := r
  have hcall := fun W (hW : HasBytes W C A n l) (hBW : C ≤ W.heap.size) => refNum_any A n c C p l W hW hBW (by omega)
  rw [hr] at hcall
  have hT : getTexts l p count most = if e ≠ 0 then ([], 0, e) else if count < x then ([], 0, 4) else getTextsFrom l most x u := by
    simp only [getTexts, hr]
  have hcall2 := Lib.hid hcall
  clear hcall
  by_cases he : e = 0
  · subst he
    have hbd := getNum_bound (l := l) (p := p) (by rw [hr])
    rw [hr] at hbd
    simp only [hl] at hbd
    rw [if_neg (by omega)] at hT
    have Hl := Lib.hid hl
    clear hl hr
    by_cases hm : count < x
    · rw [if_pos hm] at hT
      have HT := Lib.hid hT
      clear hT
      go_enter Try.func72, Try.ntmps72
      go_wp2_with fail
      refine (hcall2.out _ (h.alloc hC _) (le_alloc hC _)).mono ?_
      rintro e w1 ⟨rfl, hb1⟩
      have hbx := Lib.hid (box_behind hb1)
      obtain ⟨c0, c1, c2, c3, c4⟩ := hbx.out.at5
      have fz := hbx.out.frozen
      have hlt := hbx.out.lt
      have Hb1 := Lib.hid (((Below.refl _ _).alloc (Nat.le_refl _) _).trans (hb1.mono (by simp)))
      clear hb1
      unfold got
      go_wp2
      refine bodyPost_ret (results_box rfl rfl (hbx.out.five.alloc _)) rfl ?_
      exact givesGot_err HT.out ((below_five Hb1.out (Nat.le_refl _) _ _ _ _ _).alloc (by simp; omega) _)
    · rw [if_neg hm] at hT
      have HT := Lib.hid hT
      clear hT
      go_enter Try.func72, Try.ntmps72
      go_wp2_with fail
      refine (hcall2.out _ (h.alloc hC _) (le_alloc hC _)).mono ?_
      rintro e w1 ⟨rfl, hb1⟩
      have hbx := Lib.hid (box_behind hb1)
      obtain ⟨c0, c1, c2, c3, c4⟩ := hbx.out.at5
      have fz := hbx.out.frozen
      have hlt := hbx.out.lt
      have Hb1 := Lib.hid (((Below.refl _ _).alloc (Nat.le_refl _) _).trans (hb1.mono (by simp)))
      clear hb1
      unfold got
      go_wp2
      go_loopw [11, 12] (fun i _ wr => ∃ (k q : Nat) (pre : List (List UInt8)) (lv : Value), k ≤ x ∧ k ≤ q ∧ q ≤ n ∧ i = .int .i64 (k : Int) ∧ pre.length = k ∧ getTextsFrom l most x u = joinTexts pre (getTextsFrom l most (x - k) q) ∧
        Box wr w.heap.size 119 #[.int .i64 0, .string ⟨#[]⟩, .slice none 0 0, .int .i64 0, .int .i64 0] ∧
        Box wr w1.heap.size 119 #[.int .i64 (x : Int), .string ⟨#[]⟩, .slice none 0 0, .int .i64 (u : Int), .int .i64 0] ∧
        Box wr (w1.heap.size + 1) 119 #[.int .i64 0, .string ⟨#[]⟩, lv, .int .i64 (q : Int), .int .i64 0] ∧
        wr.ownsRow w.heap.size 9 1 lv k (strVals pre) ∧ Below w.heap.size w wr) (fun i _ _ => x - (intOf i).toNat)
      case atStart =>
        refine ⟨0, u, [], .slice none 0 0, by omega, by omega, by omega, rfl, rfl, texts_start _ _ _ _, (hbx.out.alloc _).alloc _, (Box.made _ _ _).alloc _, ?_, World.ownsRow_nil _ _ _ _, (Hb1.out.alloc (by omega) _).alloc (by simp; omega) _⟩
        have := Box.made (w1.alloc (.cells #[.int .i64 (x : Int), .string ⟨#[]⟩, .slice none 0 0, .int .i64 (u : Int), .int .i64 0] 119)) 119 #[.int .i64 0, .string ⟨#[]⟩, .slice none 0 0, .int .i64 (u : Int), .int .i64 0]
        simpa using this
      case round =>
        obtain ⟨k, q, pre, lv, hk, hkq, hq, rfl, hpre, hj, hx8, hx9, hx10, hown, hbr⟩ := hrel
        have Hj := Lib.hid hj
        have Hp := Lib.hid hpre
        clear hj hpre c0 c1 c2 c3 c4 fz
        have hBr : w.heap.size ≤ wr.heap.size := hbr.size
        have hz10 := hx10.lt
        obtain ⟨a0, a1, a2, a3, a4⟩ := hx9.at5
        obtain ⟨b0, b1, b2, b3, b4⟩ := hx10.at5
        by_cases hlt' : k < x
        · obtain ⟨g, hg⟩ : ∃ g, getText l q most = g := ⟨_, rfl⟩
          obtain ⟨s, q', e⟩ := g
          have hcl := refText_any A n c C q most l wr (h.belowOf hbr hC) (by omega) (by omega) hnc
          rw [hg] at hcl
          have hcl2 := Lib.hid hcl
          clear hcl
          obtain ⟨m', hm'⟩ : ∃ m', x - k = m' + 1 := ⟨x - k - 1, by omega⟩
          by_cases he : e = 0
          · subst he
            have hbt := getText_bound (l := l) (p := q) (most := most) (by rw [hg])
            rw [hg] at hbt
            simp only [Hl.out] at hbt
            have Hst := Lib.hid (texts_step (m := m') (pre := pre) hg)
            have Hm := Lib.hid hm'
            clear hm' hg
            go_wp2_with fail
            refine hcl2.out.mono ?_
            rintro e w2 ⟨rfl, hb2⟩
            have Hx8 := Lib.hid (hx8.below hb2 (by omega))
            have Hx9 := Lib.hid (hx9.below hb2 (by omega))
            have Hx10 := Lib.hid (hx10.below hb2 (by omega))
            have Hbr2 := Lib.hid (hbr.trans (hb2.mono hBr))
            have Hown2 := Lib.hid (show w2.ownsRow w.heap.size 9 1 lv k (strVals pre) from hown.kept (row := none) ⟨hb2.os, hb2.tape, hb2.output, hb2.size, fun i hi _ => hb2.block i hi⟩ (by cases lv.ownBlock <;> simp))
            have hsz2 := hb2.size
            clear a0 a1 a2 a3 a4 b0 b1 b2 b3 b4 hx8 hx9 hx10 hb2 hown hbr
            obtain ⟨b0, b1, b2, b3, b4⟩ := Hx10.out.at5
            have Z := Lib.hid (show (w2.alloc (.cells #[.int .i64 0, .string ⟨s.toArray⟩, .slice none 0 0, .int .i64 (q' : Int), .int .i64 0] 119)).heap.size = w2.heap.size + 1 from by simp)
            have hz2 : w1.heap.size + 1 < w2.heap.size := by omega
            unfold got
            go_wp2_with
              (at_builtin
               refine wpList_append_has rfl (.tmp 46) (.tmp 49) _ rfl 9 str_elem Try.underlying27 rfl ((Hown2.out.alloc _).alloc _) rfl (Has.oneAt _ _ _ _ _ Z.out rfl) (one_string _) (by simp only [maxLen]; omega) (by omega) (le_alloc (le_alloc (Nat.le_trans hBr hsz2) _) _) ?_
               intro lv' w3 hown3 hg3 _
               have K10 := Lib.hid (((Hx10.out.alloc _).alloc _).grownOwn ((Hown2.out.alloc _).alloc _) (by decide) hg3)
               have K9 := Lib.hid (((Hx9.out.alloc _).alloc _).grownOwn ((Hown2.out.alloc _).alloc _) (by decide) hg3)
               have K8 := Lib.hid (((Hx8.out.alloc _).alloc _).grownOwn ((Hown2.out.alloc _).alloc _) (by decide) hg3)
               have K12 := Lib.hid (((Box.made w2 _ _).alloc _).grownOwn ((Hown2.out.alloc _).alloc _) (by decide) hg3)
               have Kb := Lib.hid (below_own ((Hbr2.out.alloc (Nat.le_trans hBr hsz2) _).alloc (le_alloc (Nat.le_trans hBr hsz2) _) _) ((Hown2.out.alloc _).alloc _) hg3 (le_alloc (le_alloc (Nat.le_trans hBr hsz2) _) _))
               obtain ⟨LA, LC, rfl, hLn, hLc, hLh⟩ := own_slice hown3
               have Ko := Lib.hid hown3
               clear hg3 b0 b1 b2 b3 b4 hown3 hLn hLc hLh
               obtain ⟨d0, d1, d2, d3, d4⟩ := K10.out.at5
               obtain ⟨f0, f1, f2, f3, f4⟩ := K12.out.at5
               have fz := K10.out.frozen
               have hz3 := K12.out.lt)
            go_roundw
            case rel =>
              refine ⟨k + 1, q', pre ++ [s], .slice LA (k + 1) LC, by omega, by omega, by omega, by go_num, by rw [List.length_append, Hp.out]; rfl, ?_, (K8.out.far (by simp; omega) _).far (by simp; omega) _, (K9.out.far (by simp) _).far (by simp) _, ?_, ?_, (Kb.out.setCell (by simp; omega) _).setCell (by simp; omega) _⟩
              · rw [Hj.out, Hm.out, Hst.out]
                congr 2
                have := Hm.out
                omega
              · have := (K10.out.set_ 2 (.slice LA (k + 1) LC)).set_ 3 (.int .i64 (q' : Int))
                simpa using this
              · have hk1 : strVals (pre ++ [s]) = strVals pre ++ [.string ⟨s.toArray⟩] := by simp [strVals]
                rw [hk1]
                exact own_setCell (own_setCell Ko.out K10.out (by decide) 2 _) (K10.out.set_ 2 _) (by decide) 3 _
            case measure => simp [intOf]; omega
          · have h0 := getText_err (l := l) (p := q) (most := most) (by rw [hg]; exact he)
            rw [hg] at h0
            simp only [Prod.mk.injEq, and_true] at h0
            have Hbad : Hid (getTexts l p count most = ([], 0, e)) := by
              have := texts_bad (m := m') (pre := pre) (by rw [hg]) he
              exact Lib.hid (by rw [HT.out, Hj.out, hm', this])
            obtain ⟨rfl, rfl⟩ := h0
            have hei : ((e : Int) == 0) = false := by simp; omega
            have hgt : 0 < e := by omega
            clear hm' hg
            go_wp2_with fail
            refine hcl2.out.mono ?_
            rintro e w2 ⟨rfl, hb2⟩
            have Hx8 := Lib.hid (hx8.below hb2 (by omega))
            have Hbr2 := Lib.hid (hbr.trans (hb2.mono hBr))
            have hsz2 := hb2.size
            clear a0 a1 a2 a3 a4 b0 b1 b2 b3 b4 hx8 hx9 hx10 hb2 hown hbr
            obtain ⟨b0, b1, b2, b3, b4⟩ := Hx8.out.at5
            have fz := Hx8.out.frozen
            have hz2 : w.heap.size < w2.heap.size := by omega
            unfold got
            go_wp2
            refine bodyPost_ret (results_box rfl rfl (Hx8.out.five.alloc _)) rfl ?_
            exact givesGot_err Hbad.out ((below_five Hbr2.out (Nat.le_refl _) _ _ _ _ _).alloc (by simp; omega) _)
        · obtain rfl : k = x := by omega
          have hd := texts_done l most q pre
          have Hd : Hid (getTexts l p count most = (pre, q, 0)) := Lib.hid (by rw [HT.out, Hj.out, Nat.sub_self, hd])
          obtain ⟨LA, LC, rfl, hLn, hLc, hLh⟩ := own_slice hown
          have Hx8 := Lib.hid hx8
          have Hown := Lib.hid hown
          have Hbr := Lib.hid hbr
          obtain ⟨d0, d1, d2, d3, d4⟩ := hx8.at5
          have fz := hx8.frozen
          clear hd hLn hLc hLh hown hbr hx8 hx9 hx10
          go_wp2
          refine bodyPost_ret (results_box rfl rfl Hx8.out.five) rfl ?_
          unfold GivesGot
          rw [Hd.out]
          exact ⟨_, rfl, by rw [Hp.out]; exact own_five Hown.out Hx8.out (by decide) _ _ _ _ _, below_five Hbr.out (Nat.le_refl _) _ _ _ _ _⟩
  · rw [if_pos he] at hT
    have hgt : 0 < e := by omega
    have h3 := getNum_e_lt l p
    have h0 := getNum_err (l := l) (p := p) (by rw [hr]; exact he)
    rw [hr] at h3 h0
    simp only [Prod.mk.injEq, and_true] at h3 h0
    obtain ⟨rfl, rfl⟩ := h0
    have hei : ((e : Int) == 0) = false := by simp; omega
    have HT := Lib.hid hT
    clear hT hl hr
    go_enter Try.func72, Try.ntmps72
    go_wp2_with fail
    refine (hcall2.out _ (h.alloc hC _) (le_alloc hC _)).mono ?_
    rintro e w1 ⟨rfl, hb1⟩
    have hbx := Lib.hid (box_behind hb1)
    obtain ⟨c0, c1, c2, c3, c4⟩ := hbx.out.at5
    have fz := hbx.out.frozen
    have hlt := hbx.out.lt
    have Hb1 := Lib.hid (((Below.refl _ _).alloc (Nat.le_refl _) _).trans (hb1.mono (by simp)))
    clear hb1
    unfold got
    go_wp2
    refine bodyPost_ret (results_box rfl rfl (hbx.out.five.alloc _)) rfl ?_
    exact givesGot_err HT.out ((below_five Hb1.out (Nat.le_refl _) _ _ _ _ _).alloc (by simp; omega) _)

end Go.Proofs.Ytaljojjpgkmiiaa

namespace Go.Proofs.Ytaljojjpgkmiiaa
open Go.RowKit
open Go.Lib (strCells)

theorem below_drews {B : Nat} {a w : World} (h : Below B a w) (n : Nat) : Below B a (w.drewN n) := ⟨h.os, h.tape, h.output, h.size, h.block⟩
theorem strVals_raw (ss : List ByteArray) : strVals (raw ss) = ss.map Value.string := by simp [strVals, raw]
theorem strVals_at {L : List (List UInt8)} {k : Nat} (h : k < L.length) : (strVals L).getD k undef = .string ⟨(L[k]?.getD []).toArray⟩ := by simp [strVals, h]

set_option maxHeartbeats 400000 in
theorem sameTexts_true (A A' : Option Addr) (n c c' C C' : Nat) (L : List (List UInt8)) (w : World) (ha : Has w C A n (strVals L)) (hb : Has w C' A' n (strVals L)) (hn : n ≤ 4611686018427387904) :
    Calls Try.prog 76 #[.slice A n c, .slice A' n c'] w fun e w' => e = .returned (.bool true) ∧ Below w.heap.size w w' := by
  have Hl : Hid (L.length = n) := Lib.hid (by have := ha.1; rwa [strVals, List.length_map] at this)
  go_enter Try.func76, Try.ntmps76
  go_wp2
  go_loopw [5] (fun i wr => ∃ k : Nat, k ≤ n ∧ i = .int .i64 (k : Int) ∧ ∃ m, wr = w.drewN m) (fun i _ => n - (intOf i).toNat)
  case atStart => exact ⟨0, by omega, rfl, 0, rfl⟩
  case round =>
    obtain ⟨k, hk, rfl, m, rfl⟩ := hrel
    by_cases hlt : k < n
    · obtain ⟨a, rfl, hab, hc⟩ := ha.cell hlt
      obtain ⟨b, rfl, hbb, hd⟩ := hb.cell hlt
      rw [strVals_at (by have := Hl.out; omega)] at hc hd
      go_wp2
      go_quiet (fail)
      go_wp2
      go_roundw
      case rel => exact ⟨k + 1, by omega, by go_num, _, rfl⟩
      case measure => simp [intOf]; omega
    · go_wp2
      go_ret
      exact ⟨rfl, below_drews (Below.refl _ _) _⟩

end Go.Proofs.Ytaljojjpgkmiiaa

namespace Go.Proofs.Ytaljojjpgkmiiaa
open Go.RowKit

section
variable {w : World} {B rb sb mb d : Nat} {g : Nat → Nat} {u : Nat → Value} {E : Nat → SE} {X : Nat → List ByteArray} {N : List NEn}
set_option maxRecDepth 100000 in
set_option maxHeartbeats 12800000 in
theorem begins_any (h : Road w B rb sb mb g u E X N d) (hp : ∀ i, i < 2 → X (4 + i) = (X (2 + (1 - i))).take (X (4 + i)).length ∧ (X (4 + i)).length ≤ (X (2 + (1 - i))).length) (hl : ∀ i, i < 2 → (X (2 + i)).length ≤ 1000000) : Calls Try.prog 41 #[.pointer (some ⟨rb, 0, none⟩)] w fun e w' => e = .returned (.bool true) ∧ Below w.heap.size w w' := by
  have Hh := Lib.hid h
  have HP := Lib.hid hp
  have HXl2 : Hid (∀ i, i < 2 → (X (2 + i)).length ≤ 1000000) := Lib.hid hl
  have HXl : Hid (∀ i, i < 2 → (X (4 + i)).length ≤ 1000000) := Lib.hid fun i hi => Nat.le_trans (hp i hi).2 (hl (1 - i) (by omega))
  clear h hp hl
  go_enter Try.func41, Try.ntmps41
  go_wp2
  go_loopw [3] (fun i wr => ∃ k : Nat, k ≤ 2 ∧ i = .int .i64 (k : Int) ∧ Hid (Below w.heap.size w wr)) (fun i _ => 2 - (intOf i).toNat)
  case atStart => exact ⟨0, by omega, rfl, Lib.hid (Below.refl _ _)⟩
  case round =>
    obtain ⟨k, hk, rfl, HB⟩ := hrel
    have HRd := Lib.hid (Hh.out.below HB.out)
    by_cases hlt : k < 2
    · rcases (show k = 0 ∨ k = 1 by omega) with rfl | rfl
      · obtain ⟨At, ct, hat, hct, -, hht⟩ := (HRd.out.rows 4 (by omega) (by omega)).slice
        obtain ⟨As, cs, has, hcs, -, hhs⟩ := (HRd.out.rows 3 (by omega) (by omega)).slice
        obtain ⟨p1, p2⟩ := HP.out 0 (by omega)
        have p1 : X 4 = (X 3).take (X 4).length := p1
        have p2 : (X 4).length ≤ (X 3).length := p2
        obtain ⟨n, hn⟩ : ∃ n, (X 4).length = n := ⟨_, rfl⟩
        obtain ⟨m, hm⟩ : ∃ m, (X 3).length = m := ⟨_, rfl⟩
        rw [hn] at hat hct hht p1 p2
        rw [hm] at has hcs hhs p2
        have hl := HXl.out 0
        have hl : (X 4).length ≤ 1000000 := hl (by omega)
        have hl2 := HXl2.out 1
        have hl2 : (X 3).length ≤ 1000000 := hl2 (by omega)
        rw [hn] at hl
        rw [hm] at hl2
        have c1 : wr.cell? ⟨rb, 4, none⟩ = some (.slice At n ct) := (HRd.out.box.cell 4).trans (congrArg some hat)
        have c2 : wr.cell? ⟨rb, 3, none⟩ = some (.slice As m cs) := (HRd.out.box.cell 3).trans (congrArg some has)
        have Hs : Hid (∀ q, Calls Try.prog 76 #[.slice At n ct, .slice As n cs] (wr.drewN q) fun e w' => e = .returned (.bool true) ∧ Below (wr.drewN q).heap.size (wr.drewN q) w') := Lib.hid fun q => by
          have h1 := Has.below hht (below_nq wr q)
          have h2 := (Has.below hhs (below_nq wr q)).take p2
          rw [← List.map_take, ← p1] at h2
          rw [← strVals_raw] at h1 h2
          exact sameTexts_true At As n ct cs wr.heap.size wr.heap.size (raw (X 4)) (wr.drewN q) h1 h2 (by omega)
        have e1 : ¬ (m : Int) < (n : Int) := by omega
        have e2 : n ≤ cs := by omega
        have HBq := Lib.hid (fun q => HB.out.trans ((below_nq wr q).mono HB.out.size))
        clear hat hct hht has hcs hhs p1 hn hm hl hl2
        go_wp2
        go_quiet (fail)
        go_wp2_with fail
        refine (Hs.out _).mono ?_
        rintro e w3 ⟨rfl, b3⟩
        have H3 := Lib.hid ((HBq.out _).trans (b3.mono (HBq.out _).size))
        clear b3
        go_wp2
        go_roundw
        case rel => exact ⟨1, by omega, by go_num, H3⟩
        case measure => simp [intOf]
      · obtain ⟨At, ct, hat, hct, -, hht⟩ := (HRd.out.rows 5 (by omega) (by omega)).slice
        obtain ⟨As, cs, has, hcs, -, hhs⟩ := (HRd.out.rows 2 (by omega) (by omega)).slice
        obtain ⟨p1, p2⟩ := HP.out 1 (by omega)
        have p1 : X 5 = (X 2).take (X 5).length := p1
        have p2 : (X 5).length ≤ (X 2).length := p2
        obtain ⟨n, hn⟩ : ∃ n, (X 5).length = n := ⟨_, rfl⟩
        obtain ⟨m, hm⟩ : ∃ m, (X 2).length = m := ⟨_, rfl⟩
        rw [hn] at hat hct hht p1 p2
        rw [hm] at has hcs hhs p2
        have hl := HXl.out 1
        have hl : (X 5).length ≤ 1000000 := hl (by omega)
        have hl2 := HXl2.out 0
        have hl2 : (X 2).length ≤ 1000000 := hl2 (by omega)
        rw [hn] at hl
        rw [hm] at hl2
        have c1 : wr.cell? ⟨rb, 5, none⟩ = some (.slice At n ct) := (HRd.out.box.cell 5).trans (congrArg some hat)
        have c2 : wr.cell? ⟨rb, 2, none⟩ = some (.slice As m cs) := (HRd.out.box.cell 2).trans (congrArg some has)
        have Hs : Hid (∀ q, Calls Try.prog 76 #[.slice At n ct, .slice As n cs] (wr.drewN q) fun e w' => e = .returned (.bool true) ∧ Below (wr.drewN q).heap.size (wr.drewN q) w') := Lib.hid fun q => by
          have h1 := Has.below hht (below_nq wr q)
          have h2 := (Has.below hhs (below_nq wr q)).take p2
          rw [← List.map_take, ← p1] at h2
          rw [← strVals_raw] at h1 h2
          exact sameTexts_true At As n ct cs wr.heap.size wr.heap.size (raw (X 5)) (wr.drewN q) h1 h2 (by omega)
        have e1 : ¬ (m : Int) < (n : Int) := by omega
        have e2 : n ≤ cs := by omega
        have HBq := Lib.hid (fun q => HB.out.trans ((below_nq wr q).mono HB.out.size))
        clear hat hct hht has hcs hhs p1 hn hm hl hl2
        go_wp2
        go_quiet (fail)
        go_wp2_with fail
        refine (Hs.out _).mono ?_
        rintro e w3 ⟨rfl, b3⟩
        have H3 := Lib.hid ((HBq.out _).trans (b3.mono (HBq.out _).size))
        clear b3
        go_wp2
        go_roundw
        case rel => exact ⟨2, by omega, by go_num, H3⟩
        case measure => simp [intOf]
    · obtain rfl : k = 2 := by omega
      go_wp2
      go_ret
      exact ⟨rfl, HB.out⟩
end
end Go.Proofs.Ytaljojjpgkmiiaa

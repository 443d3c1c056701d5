/- The document's GetTexts gives what the readers of the plain text (SpecPack) give. Condition: the bytes are in memory, a million at most. -/
import Derived.Test.YtaljojjpgkmiiaaWalkT
import Derived.Test.YtaljojjpgkmiiaaPakG
namespace Go.Proofs.Ytaljojjpgkmiiaa
open Go.RowKit
open Go.Lib (strCells)

section
variable {w w' : World} {g B n : Nat} {t e : TypeId} {cs : Array Value} {v : Value} {xs : List Value}
theorem own_box_apart (hown : w.ownsRow B e 1 v n xs) (hb : Box w g t cs) (hne : e ≠ t) : v.ownBlock ≠ some g := by
  rcases hown.2 with ⟨rfl, _⟩ | ⟨g', cap, cur, rfl, _, hh, _⟩
  · simp [Value.ownBlock]
  · intro he
    have hg : g' = g := by simpa [Value.ownBlock] using he
    subst hg
    unfold Box at hb
    rw [hb] at hh
    injection hh with hh
    injection hh with _ ht
    exact hne ht.symm
theorem own_setCell (hown : w.ownsRow B e 1 v n xs) (hb : Box w g t cs) (hne : e ≠ t) (i : Nat) (u : Value) : (w.setCell ⟨g, i, none⟩ u).ownsRow B e 1 v n xs := by
  have hg : w.grownBy (w.setCell ⟨g, i, none⟩ u) (some g) := ⟨rfl, rfl, rfl, by simp [World.setCell], fun k _ hk => Below.heap_setCell w ⟨g, i, none⟩ u k (fun e => hk (by rw [e]))⟩
  exact hown.kept hg (.inr (own_box_apart hown hb hne))
theorem Box.grownOwn (hb : Box w g t cs) (hown : w.ownsRow B e 1 v n xs) (hne : e ≠ t) (hg : w.grownBy w' v.ownBlock) : Box w' g t cs :=
  hb.grown hg (fun h => own_box_apart hown hb hne h.symm)
theorem Box.at5 {a b c d f : Value} (h : Box w g t #[a, b, c, d, f]) : w.cell? ⟨g, 0, none⟩ = some a ∧ w.cell? ⟨g, 1, none⟩ = some b ∧ w.cell? ⟨g, 2, none⟩ = some c ∧ w.cell? ⟨g, 3, none⟩ = some d ∧ w.cell? ⟨g, 4, none⟩ = some f :=
  ⟨h.cell 0, h.cell 1, h.cell 2, h.cell 3, h.cell 4⟩
theorem own_five (hown : w.ownsRow B e 1 v n xs) {a b c d f : Value} (hb : Box w g t #[a, b, c, d, f]) (hne : e ≠ t) (a' b' c' d' f' : Value) :
    (((((w.setCell ⟨g, 0, none⟩ a').setCell ⟨g, 1, none⟩ b').setCell ⟨g, 2, none⟩ c').setCell ⟨g, 3, none⟩ d').setCell ⟨g, 4, none⟩ f').ownsRow B e 1 v n xs :=
  own_setCell (own_setCell (own_setCell (own_setCell (own_setCell hown hb hne 0 a') (hb.set_ 0 a') hne 1 b') ((hb.set_ 0 a').set_ 1 b') hne 2 c') (((hb.set_ 0 a').set_ 1 b').set_ 2 c') hne 3 d') ((((hb.set_ 0 a').set_ 1 b').set_ 2 c').set_ 3 d') hne 4 f'
end

theorem Has.oneAt (w : World) (u : Value) (t : TypeId) (w' : World) (g : Nat) (hg : w.heap.size = g) (hw : w' = w.alloc (.cells #[u] t)) : Has w' w'.heap.size (some ⟨g, 0, none⟩) 1 [u] := by
  subst hg
  exact Has.one w u t w' hw

/-- the document's GetTexts: the list is a row of the call's own -/
def GivesGot (B : Nat) (r : List (List UInt8) × Nat × Nat) (w : World) (e : Ending) (w' : World) : Prop :=
  ∃ lv, e = .returned (got 0 [] lv r.2.1 r.2.2) ∧ w'.ownsRow B 9 1 lv r.1.length (strVals r.1) ∧ Below B w w'
theorem givesGot_err {B : Nat} {w w' : World} {r : List (List UInt8) × Nat × Nat} {e : Nat} (h : r = ([], 0, e)) (hb : Below B w w') :
    GivesGot B r w (.returned (got 0 [] (.slice none 0 0) 0 e)) w' := by
  subst h
  exact ⟨_, rfl, World.ownsRow_nil _ _ _ _, hb⟩
def zeroBox : Array Value := #[.int .i64 0, .string ⟨#[]⟩, .slice none 0 0, .int .i64 0, .int .i64 0]

set_option maxHeartbeats 1600000 in
set_option maxRecDepth 100000 in
theorem refTexts_any (A : Option Addr) (n c C : Nat) (p count most : Int) (l : List UInt8) (w : World) (h : HasBytes w C A n l) (hC : C ≤ w.heap.size) (hn : n ≤ 1000000) (hnc : n ≤ c) :
    Calls Try.prog 72 #[.slice A n c, .int .i64 p, .int .i64 count, .int .i64 most] w (GivesGot w.heap.size (getTexts l p count most) w) := by
  have hl := h.len
  obtain ⟨r, hr⟩ : ∃ r, getNum l p = r := ⟨_, rfl⟩
  obtain ⟨x, u, e⟩ := r
  have hcall := fun W (hW : HasBytes W C A n l) (hBW : C ≤ W.heap.size) => refNum_any A n c C p l W hW hBW (by omega)
  rw [hr] at hcall
  have hT : getTexts l p count most = if e ≠ 0 then ([], 0, e) else if count < x then ([], 0, 4) else getTextsFrom l most x u := by
    simp only [getTexts, hr]
  have hcall2 := Lib.hid hcall
  clear hcall
  by_cases he : e = 0
  · subst he
    have hbd := getNum_bound (l := l) (p := p) (by rw [hr])
    rw [hr] at hbd
    simp only [hl] at hbd
    rw [if_neg (by omega)] at hT
    have Hl := Lib.hid hl
    clear hl hr
    by_cases hm : count < x
    · rw [if_pos hm] at hT
      have HT := Lib.hid hT
      clear hT
      go_enter Try.func72, Try.ntmps72
      go_wp2_with fail
      refine (hcall2.out _ (h.alloc hC _) (le_alloc hC _)).mono ?_
      rintro e w1 ⟨rfl, hb1⟩
      have hbx := Lib.hid (box_behind hb1)
      obtain ⟨c0, c1, c2, c3, c4⟩ := hbx.out.at5
      have fz := hbx.out.frozen
      have hlt := hbx.out.lt
      have Hb1 := Lib.hid (((Below.refl _ _).alloc (Nat.le_refl _) _).trans (hb1.mono (by simp)))
      clear hb1
      unfold got
      go_wp2
      refine bodyPost_ret (results_box rfl rfl (hbx.out.five.alloc _)) rfl ?_
      exact givesGot_err HT.out ((below_five Hb1.out (Nat.le_refl _) _ _ _ _ _).alloc (by simp; omega) _)
    · rw [if_neg hm] at hT
      have HT := Lib.hid hT
      clear hT
      go_enter Try.func72, Try.ntmps72
      go_wp2_with fail
      refine (hcall2.out _ (h.alloc hC _) (le_alloc hC _)).mono ?_
      rintro e w1 ⟨rfl, hb1⟩
      have hbx := Lib.hid (box_behind hb1)
      obtain ⟨c0, c1, c2, c3, c4⟩ := hbx.out.at5
      have fz := hbx.out.frozen
      have hlt := hbx.out.lt
      have Hb1 := Lib.hid (((Below.refl _ _).alloc (Nat.le_refl _) _).trans (hb1.mono (by simp)))
      clear hb1
      unfold got
      go_wp2
      go_loopw [11, 12] (fun i _ wr => ∃ (k q : Nat) (pre : List (List UInt8)) (lv : Value), k ≤ x ∧ k ≤ q ∧ q ≤ n ∧ i = .int .i64 (k : Int) ∧ pre.length = k ∧ getTextsFrom l most x u = joinTexts pre (getTextsFrom l most (x - k) q) ∧
        Box wr w.heap.size 119 #[.int .i64 0, .string ⟨#[]⟩, .slice none 0 0, .int .i64 0, .int .i64 0] ∧
        Box wr w1.heap.size 119 #[.int .i64 (x : Int), .string ⟨#[]⟩, .slice none 0 0, .int .i64 (u : Int), .int .i64 0] ∧
        Box wr (w1.heap.size + 1) 119 #[.int .i64 0, .string ⟨#[]⟩, lv, .int .i64 (q : Int), .int .i64 0] ∧
        wr.ownsRow w.heap.size 9 1 lv k (strVals pre) ∧ Below w.heap.size w wr) (fun i _ _ => x - (intOf i).toNat)
      case atStart =>
        refine ⟨0, u, [], .slice none 0 0, by omega, by omega, by omega, rfl, rfl, texts_start _ _ _ _, (hbx.out.alloc _).alloc _, (Box.made _ _ _).alloc _, ?_, World.ownsRow_nil _ _ _ _, (Hb1.out.alloc (by omega) _).alloc (by simp; omega) _⟩
        have := Box.made (w1.alloc (.cells #[.int .i64 (x : Int), .string ⟨#[]⟩, .slice none 0 0, .int .i64 (u : Int), .int .i64 0] 119)) 119 #[.int .i64 0, .string ⟨#[]⟩, .slice none 0 0, .int .i64 (u : Int), .int .i64 0]
        simpa using this
      case round =>
        obtain ⟨k, q, pre, lv, hk, hkq, hq, rfl, hpre, hj, hx8, hx9, hx10, hown, hbr⟩ := hrel
        have Hj := Lib.hid hj
        have Hp := Lib.hid hpre
        clear hj hpre c0 c1 c2 c3 c4 fz
        have hBr : w.heap.size ≤ wr.heap.size := hbr.size
        have hz10 := hx10.lt
        obtain ⟨a0, a1, a2, a3, a4⟩ := hx9.at5
        obtain ⟨b0, b1, b2, b3, b4⟩ := hx10.at5
        by_cases hlt' : k < x
        · obtain ⟨g, hg⟩ : ∃ g, getText l q most = g := ⟨_, rfl⟩
          obtain ⟨s, q', e⟩ := g
          have hcl := refText_any A n c C q most l wr (h.belowOf hbr hC) (by omega) (by omega) hnc
          rw [hg] at hcl
          have hcl2 := Lib.hid hcl
          clear hcl
          obtain ⟨m', hm'⟩ : ∃ m', x - k = m' + 1 := ⟨x - k - 1, by omega⟩
          by_cases he : e = 0
          · subst he
            have hbt := getText_bound (l := l) (p := q) (most := most) (by rw [hg])
            rw [hg] at hbt
            simp only [Hl.out] at hbt
            have Hst := Lib.hid (texts_step (m := m') (pre := pre) hg)
            have Hm := Lib.hid hm'
            clear hm' hg
            go_wp2_with fail
            refine hcl2.out.mono ?_
            rintro e w2 ⟨rfl, hb2⟩
            have Hx8 := Lib.hid (hx8.below hb2 (by omega))
            have Hx9 := Lib.hid (hx9.below hb2 (by omega))
            have Hx10 := Lib.hid (hx10.below hb2 (by omega))
            have Hbr2 := Lib.hid (hbr.trans (hb2.mono hBr))
            have Hown2 := Lib.hid (show w2.ownsRow w.heap.size 9 1 lv k (strVals pre) from hown.kept (row := none) ⟨hb2.os, hb2.tape, hb2.output, hb2.size, fun i hi _ => hb2.block i hi⟩ (by cases lv.ownBlock <;> simp))
            have hsz2 := hb2.size
            clear a0 a1 a2 a3 a4 b0 b1 b2 b3 b4 hx8 hx9 hx10 hb2 hown hbr
            obtain ⟨b0, b1, b2, b3, b4⟩ := Hx10.out.at5
            have Z := Lib.hid (show (w2.alloc (.cells #[.int .i64 0, .string ⟨s.toArray⟩, .slice none 0 0, .int .i64 (q' : Int), .int .i64 0] 119)).heap.size = w2.heap.size + 1 from by simp)
            have hz2 : w1.heap.size + 1 < w2.heap.size := by omega
            unfold got
            go_wp2_with
              (at_builtin
               refine wpList_append_has rfl (.tmp 46) (.tmp 49) _ rfl 9 str_elem Try.underlying27 rfl ((Hown2.out.alloc _).alloc _) rfl (Has.oneAt _ _ _ _ _ Z.out rfl) (one_string _) (by simp only [maxLen]; omega) (by omega) (le_alloc (le_alloc (Nat.le_trans hBr hsz2) _) _) ?_
               intro lv' w3 hown3 hg3 _
               have K10 := Lib.hid (((Hx10.out.alloc _).alloc _).grownOwn ((Hown2.out.alloc _).alloc _) (by decide) hg3)
               have K9 := Lib.hid (((Hx9.out.alloc _).alloc _).grownOwn ((Hown2.out.alloc _).alloc _) (by decide) hg3)
               have K8 := Lib.hid (((Hx8.out.alloc _).alloc _).grownOwn ((Hown2.out.alloc _).alloc _) (by decide) hg3)
               have K12 := Lib.hid (((Box.made w2 _ _).alloc _).grownOwn ((Hown2.out.alloc _).alloc _) (by decide) hg3)
               have Kb := Lib.hid (below_own ((Hbr2.out.alloc (Nat.le_trans hBr hsz2) _).alloc (le_alloc (Nat.le_trans hBr hsz2) _) _) ((Hown2.out.alloc _).alloc _) hg3 (le_alloc (le_alloc (Nat.le_trans hBr hsz2) _) _))
               obtain ⟨LA, LC, rfl, hLn, hLc, hLh⟩ := own_slice hown3
               have Ko := Lib.hid hown3
               clear hg3 b0 b1 b2 b3 b4 hown3 hLn hLc hLh
               obtain ⟨d0, d1, d2, d3, d4⟩ := K10.out.at5
               obtain ⟨f0, f1, f2, f3, f4⟩ := K12.out.at5
               have fz := K10.out.frozen
               have hz3 := K12.out.lt)
            go_roundw
            case rel =>
              refine ⟨k + 1, q', pre ++ [s], .slice LA (k + 1) LC, by omega, by omega, by omega, by go_num, by rw [List.length_append, Hp.out]; rfl, ?_, (K8.out.far (by simp; omega) _).far (by simp; omega) _, (K9.out.far (by simp) _).far (by simp) _, ?_, ?_, (Kb.out.setCell (by simp; omega) _).setCell (by simp; omega) _⟩
              · rw [Hj.out, Hm.out, Hst.out]
                congr 2
                have := Hm.out
                omega
              · have := (K10.out.set_ 2 (.slice LA (k + 1) LC)).set_ 3 (.int .i64 (q' : Int))
                simpa using this
              · have hk1 : strVals (pre ++ [s]) = strVals pre ++ [.string ⟨s.toArray⟩] := by simp [strVals]
                rw [hk1]
                exact own_setCell (own_setCell Ko.out K10.out (by decide) 2 _) (K10.out.set_ 2 _) (by decide) 3 _
            case measure => simp [intOf]; omega
          · have h0 := getText_err (l := l) (p := q) (most := most) (by rw [hg]; exact he)
            rw [hg] at h0
            simp only [Prod.mk.injEq, and_true] at h0
            have Hbad : Hid (getTexts l p count most = ([], 0, e)) := by
              have := texts_bad (m := m') (pre := pre) (by rw [hg]) he
              exact Lib.hid (by rw [HT.out, Hj.out, hm', this])
            obtain ⟨rfl, rfl⟩ := h0
            have hei : ((e : Int) == 0) = false := by simp; omega
            have hgt : 0 < e := by omega
            clear hm' hg
            go_wp2_with fail
            refine hcl2.out.mono ?_
            rintro e w2 ⟨rfl, hb2⟩
            have Hx8 := Lib.hid (hx8.below hb2 (by omega))
            have Hbr2 := Lib.hid (hbr.trans (hb2.mono hBr))
            have hsz2 := hb2.size
            clear a0 a1 a2 a3 a4 b0 b1 b2 b3 b4 hx8 hx9 hx10 hb2 hown hbr
            obtain ⟨b0, b1, b2, b3, b4⟩ := Hx8.out.at5
            have fz := Hx8.out.frozen
            have hz2 : w.heap.size < w2.heap.size := by omega
            unfold got
            go_wp2
            refine bodyPost_ret (results_box rfl rfl (Hx8.out.five.alloc _)) rfl ?_
            exact givesGot_err Hbad.out ((below_five Hbr2.out (Nat.le_refl _) _ _ _ _ _).alloc (by simp; omega) _)
        · obtain rfl : k = x := by omega
          have hd := texts_done l most q pre
          have Hd : Hid (getTexts l p count most = (pre, q, 0)) := Lib.hid (by rw [HT.out, Hj.out, Nat.sub_self, hd])
          obtain ⟨LA, LC, rfl, hLn, hLc, hLh⟩ := own_slice hown
          have Hx8 := Lib.hid hx8
          have Hown := Lib.hid hown
          have Hbr := Lib.hid hbr
          obtain ⟨d0, d1, d2, d3, d4⟩ := hx8.at5
          have fz := hx8.frozen
          clear hd hLn hLc hLh hown hbr hx8 hx9 hx10
          go_wp2
          refine bodyPost_ret (results_box rfl rfl Hx8.out.five) rfl ?_
          unfold GivesGot
          rw [Hd.out]
          exact ⟨_, rfl, by rw [Hp.out]; exact own_five Hown.out Hx8.out (by decide) _ _ _ _ _, below_five Hbr.out (Nat.le_refl _) _ _ _ _ _⟩
  · rw [if_pos he] at hT
    have hgt : 0 < e := by omega
    have h3 := getNum_e_lt l p
    have h0 := getNum_err (l := l) (p := p) (by rw [hr]; exact he)
    rw [hr] at h3 h0
    simp only [Prod.mk.injEq, and_true] at h3 h0
    obtain ⟨rfl, rfl⟩ := h0
    have hei : ((e : Int) == 0) = false := by simp; omega
    have HT := Lib.hid hT
    clear hT hl hr
    go_enter Try.func72, Try.ntmps72
    go_wp2_with fail
    refine (hcall2.out _ (h.alloc hC _) (le_alloc hC _)).mono ?_
    rintro e w1 ⟨rfl, hb1⟩
    have hbx := Lib.hid (box_behind hb1)
    obtain ⟨c0, c1, c2, c3, c4⟩ := hbx.out.at5
    have fz := hbx.out.frozen
    have hlt := hbx.out.lt
    have Hb1 := Lib.hid (((Below.refl _ _).alloc (Nat.le_refl _) _).trans (hb1.mono (by simp)))
    clear hb1
    unfold got
    go_wp2
    refine bodyPost_ret (results_box rfl rfl (hbx.out.five.alloc _)) rfl ?_
    exact givesGot_err HT.out ((below_five Hb1.out (Nat.le_refl _) _ _ _ _ _).alloc (by simp; omega) _)

end Go.Proofs.Ytaljojjpgkmiiaa

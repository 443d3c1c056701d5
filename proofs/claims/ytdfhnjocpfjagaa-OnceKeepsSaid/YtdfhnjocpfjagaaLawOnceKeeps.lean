/- OnceKeeps: what is handed in isn't kept; what is answered is new memory. No condition. -/
import Derived.Test.YtdfhnjocpfjagaaOnK
import Derived.Test.YtdfhnjocpfjagaaOnH
import Derived.Test.YtdfhnjocpfjagaaRow
namespace Go.Proofs.Ytdfhnjocpfjagaa
open Go.RowKit
open Go.Lib (strCells)

theorem own_put {w : World} {B n c k : Nat} {e : TypeId} {A : Option Addr} {ys : List Value} (h : w.ownsRow B e 3 (.slice A n c) n ys) (hk : k < n) (x y z : Value) : ∃ (g : Nat) (u0 u1 u2 : Value), A = some ⟨g, 0, none⟩ ∧ B ≤ g ∧
    w.cell? ⟨g, k * 3, none⟩ = some u0 ∧ w.cell? ⟨g, k * 3 + 1, none⟩ = some u1 ∧ w.cell? ⟨g, k * 3 + 2, none⟩ = some u2 ∧
    w.frozen? ⟨g, k * 3, none⟩ = false ∧ w.frozen? ⟨g, k * 3 + 1, none⟩ = false ∧ w.frozen? ⟨g, k * 3 + 2, none⟩ = false ∧
    (∃ ys', (((w.setCell ⟨g, k * 3, none⟩ x).setCell ⟨g, k * 3 + 1, none⟩ y).setCell ⟨g, k * 3 + 2, none⟩ z).ownsRow B e 3 (.slice A n c) n ys') ∧
    w.grownBy (((w.setCell ⟨g, k * 3, none⟩ x).setCell ⟨g, k * 3 + 1, none⟩ y).setCell ⟨g, k * 3 + 2, none⟩ z) (some g) := by
  obtain ⟨g, rfl, hB⟩ := own_head h (by omega)
  have hy := h.1
  have s1 := h.stored (k * 3) x
  have s2 := s1.1.stored (k * 3 + 1) y
  have s3 := s2.1.stored (k * 3 + 2) z
  refine ⟨g, ys[k * 3]'(by omega), ys[k * 3 + 1]'(by omega), ys[k * 3 + 2]'(by omega), rfl, hB, ?_, ?_, ?_, h.frozenAt _, h.frozenAt _, h.frozenAt _, ⟨_, s3.1⟩, (s1.2.trans s2.2).trans s3.2⟩
  · rw [h.cellAt _ (by omega)]
    exact List.getElem?_eq_getElem (by omega)
  · rw [h.cellAt _ (by omega)]
    exact List.getElem?_eq_getElem (by omega)
  · rw [h.cellAt _ (by omega)]
    exact List.getElem?_eq_getElem (by omega)

theorem keep_one {c n : Int} {r : Rp} {m : Nat} (he : keepE c n r m [] = 0) : lookT c n (keepT c n r m []) = (r, 0) := by
  have hg : getG n (getT c (keepT c n r m [])).E = some r := by
    unfold keepT
    rw [if_pos he]
    unfold putT
    rw [getT_put, if_pos rfl]
    unfold narrowT
    rw [if_neg (by simp [putG, delG, insG, getT_nil, Pa.zero])]
    rw [getG_put, if_pos rfl]
  have hT : TGood (keepT c n r m []) := keepT_good TGood.nil
  have hP := hT.get c
  have h1 := (hP.num _ (getG_mem hg)).1
  obtain ⟨h2, h3, -, -⟩ := lookT_ok (keepE_ok he).2.2
  simp only at h1
  unfold lookT
  rw [if_neg (by unfold badT; omega), if_neg (by omega), hg]
theorem look_nil (c n : Int) : (lookT c n []).2 = 1 ∨ (lookT c n []).2 = 7 := by
  unfold lookT
  split
  · exact .inl rfl
  · next h =>
    unfold badT at h
    rw [getT_nil, if_neg (by simp only [Pa.zero]; omega)]
    exact .inr rfl
set_option maxRecDepth 100000 in
set_option maxHeartbeats 12800000 in
theorem keeps_walk (c n : Int) (hc : (Lit.int .i64 c).wf = true) (hn : (Lit.int .i64 n).wf = true) (r : Rp) (A : Option Addr) (rn d : Nat) (X : Option Addr) (m y : Nat) (w : World) (h : RpIn w w.heap.size r A rn) :
    Calls Try.prog 13 #[.int .i64 c, .int .i64 n, .agg #[.int .i64 r.code, .bool r.there, .slice A rn d, .slice X m y, .int .i64 r.id]] w fun e w' => e = .returned (.bool true) ∧ Below w.heap.size w w' := by
  obtain ⟨wa, hwa⟩ : ∃ wa, w.alloc (.cells #[.int .i64 r.code, .bool r.there, .slice A rn d, .slice X m y, .int .i64 r.id] 82) = wa := ⟨_, rfl⟩
  have xa : Box wa w.heap.size 82 #[.int .i64 r.code, .bool r.there, .slice A rn d, .slice X m y, .int .i64 r.id] := hwa ▸ Box.made _ _ _
  have ba : Below w.heap.size w wa := hwa ▸ below_box _
  have Ha := Lib.hid (And.intro xa ba)
  have H := Lib.hid h
  have Hl := Lib.hid h.vals.1
  have Hcc := Lib.hid (And.intro hc hn)
  clear h xa ba hc hn
  go_enter Try.func13, Try.ntmps13
  go_wp2_with fail
  refine (awake17_any _).mono ?_
  rintro e w1 ⟨rfl, b1⟩
  have H1 := Lib.hid (And.intro (Ha.out.1.below b1 Ha.out.1.lt) (Ha.out.2.trans (b1.mono Ha.out.2.size)))
  have x1 := H1.out.1
  have p2 : w1.cell? ⟨w.heap.size, 2, none⟩ = some (.slice A rn d) := x1.cell 2
  have p3 : w1.cell? ⟨w.heap.size, 3, none⟩ = some (.slice X m y) := x1.cell 3
  have HLi := Lib.hid (light_any A rn d w.heap.size 300 r.rc w1 (H.out.vals.belowOf H1.out.2 (Nat.le_refl _)) H.out.len (by omega) H.out.txt)
  clear b1 x1
  go_wp2_with fail
  refine HLi.out.mono ?_
  rintro e w2 ⟨b, rfl, hlb, rfl⟩
  cases b with
  | false =>
    go_wp2
    go_ret
    exact ⟨rfl, H1.out.2⟩
  | true =>
    have hrn : rn ≤ 301 := by have := hlb rfl; have := Hl.out; omega
    clear hlb
    by_cases hm : 10 < m
    · have hm2 : decide ((10 : Int) < (m : Int)) = true := decide_eq_true (by omega)
      go_wp2
      go_ret
      exact ⟨rfl, H1.out.2⟩
    · have hm2 : decide ((10 : Int) < (m : Int)) = false := decide_eq_false (by omega)
      have x1 := H1.out.1
      have p0 : w1.cell? ⟨w.heap.size, 0, none⟩ = some (.int .i64 r.code) := x1.cell 0
      have p1 : w1.cell? ⟨w.heap.size, 1, none⟩ = some (.bool r.there) := x1.cell 1
      have p2 : w1.cell? ⟨w.heap.size, 2, none⟩ = some (.slice A rn d) := x1.cell 2
      have p3 : w1.cell? ⟨w.heap.size, 3, none⟩ = some (.slice X m y) := x1.cell 3
      have p4 : w1.cell? ⟨w.heap.size, 4, none⟩ = some (.int .i64 r.id) := x1.cell 4
      obtain ⟨g7, hg7⟩ : ∃ g7, w1.heap.size = g7 := ⟨_, rfl⟩
      obtain ⟨w3, hw3⟩ : ∃ w3, w1.alloc (.cells #[.int .i64 0, .bool false, .slice none 0 0, .slice none 0 0, .int .i64 0] 82) = w3 := ⟨_, rfl⟩
      have x3 : Box w3 g7 82 #[.int .i64 0, .bool false, .slice none 0 0, .slice none 0 0, .int .i64 0] := hg7 ▸ hw3 ▸ Box.made _ _ _
      have u3 : Below w1.heap.size w1 w3 := hw3 ▸ below_box _
      obtain ⟨w4, hw4⟩ : ∃ w4, (((((w3.setCell ⟨g7, 0, none⟩ (.int .i64 r.code)).setCell ⟨g7, 1, none⟩ (.bool r.there)).setCell ⟨g7, 2, none⟩ (.slice A rn d)).setCell ⟨g7, 3, none⟩ (.slice X m y)).setCell ⟨g7, 4, none⟩ (.int .i64 r.id)) = w4 := ⟨_, rfl⟩
      obtain ⟨x4, gr4, s4⟩ := store5 x3 hw4
      have u4 : Below w1.heap.size w1 w4 := u3.grown gr4 u3.size (fun g hg => by injection hg with hg; omega)
      have d0 : w3.cell? ⟨g7, 0, none⟩ = some (.int .i64 0) := x3.cell 0
      have d1 : w3.cell? ⟨g7, 1, none⟩ = some (.bool false) := x3.cell 1
      have d2 : w3.cell? ⟨g7, 2, none⟩ = some (.slice none 0 0) := x3.cell 2
      have d3 : w3.cell? ⟨g7, 3, none⟩ = some (.slice none 0 0) := x3.cell 3
      have d4 : w3.cell? ⟨g7, 4, none⟩ = some (.int .i64 0) := x3.cell 4
      have f0 : w3.frozen? ⟨g7, 0, none⟩ = false := x3.frozen 0
      have f1 : w3.frozen? ⟨g7, 1, none⟩ = false := x3.frozen 1
      have f2 : w3.frozen? ⟨g7, 2, none⟩ = false := x3.frozen 2
      have f3 : w3.frozen? ⟨g7, 3, none⟩ = false := x3.frozen 3
      have f4 : w3.frozen? ⟨g7, 4, none⟩ = false := x3.frozen 4
      have H4 := Lib.hid (And.intro x4 (And.intro (H1.out.1.below u4 H1.out.1.lt) (H1.out.2.trans (u4.mono H1.out.2.size))))
      have q2 : w4.cell? ⟨w.heap.size, 2, none⟩ = some (.slice A rn d) := H4.out.2.1.cell 2
      have u5 : Below w4.heap.size w4 (w4.alloc (.cells #[] 47)) := below_box _
      have Hlit := Lib.hid (World.ownsRow_lit (base := w4.heap.size) (e := 47) (size := 3) w4 #[] 0 (Nat.le_refl _) (by simp [maxLen]) rfl)
      have q5 : (w4.alloc (.cells #[] 47)).cell? ⟨w.heap.size, 2, none⟩ = some (.slice A rn d) := (H4.out.2.1.below u5 H4.out.2.1.lt).cell 2
      have H5 := Lib.hid (H4.out.2.2.trans (u5.mono H4.out.2.2.size))
      have hg4 : g7 < w4.heap.size := x4.lt
      clear x1 x3 u3 x4 gr4 s4 u4 u5 hm
      go_wp2_with (at_builtin; go_loud (refine wpList_append_hasN rfl (.tmp 30) (.tmp 32) _ rfl 47 val_elem (by omega) Try.underlying79 rfl Hlit.out rfl (H.out.vals.belowOf H5.out (Nat.le_refl _)).2 (valCells_one _) (by simp only [maxLen]; omega) (by omega) (le_alloc (Nat.le_refl _) _) ?_; intro v6 w6 o6 g6 z6; have o6b := o6; rw [List.nil_append, Nat.zero_add] at o6b; obtain ⟨A6, c6, rfl, -, -, -⟩ := own_sliceN o6b; have x6 := (H4.out.1.alloc (.cells #[] 47)).grown g6 (fun e => by have := (Hlit.out.lt _ e.symm).1; omega); have y6 := (H4.out.2.1.alloc (.cells #[] 47)).grown g6 (fun e => by have := (Hlit.out.lt _ e.symm).1; have := H4.out.2.1.lt; omega); have b6 : Below w4.heap.size w4 w6 := ((Below.refl _ w4).alloc (Nat.le_refl _) (.cells #[] 47)).grown g6 (le_alloc (Nat.le_refl _) _) (fun g hg => (Hlit.out.lt g hg).1); have q6 : w6.cell? ⟨g7, 2, none⟩ = some (.slice A rn d) := x6.cell 2; have f6 : w6.frozen? ⟨g7, 2, none⟩ = false := x6.frozen 2; have H6 := Lib.hid (And.intro o6b (And.intro x6 (And.intro y6 b6))); clear o6 g6 z6 o6b x6 y6 b6))
      -- own.Rec is stored: w7; a table of new memory
      obtain ⟨w7, hw7⟩ : ∃ w7, w6.setCell ⟨g7, 2, none⟩ (.slice A6 rn c6) = w7 := ⟨_, rfl⟩
      have x7 : Box w7 g7 82 #[.int .i64 r.code, .bool r.there, .slice A6 rn c6, .slice X m y, .int .i64 r.id] := hw7 ▸ H6.out.2.1.set_ 2 (.slice A6 rn c6)
      have y7 : Box w7 w.heap.size 82 #[.int .i64 r.code, .bool r.there, .slice A rn d, .slice X m y, .int .i64 r.id] := hw7 ▸ H6.out.2.2.1.far (by show w.heap.size ≠ g7; have := H1.out.1.lt; omega) _
      have o7 : w7.ownsRow w4.heap.size 47 3 (.slice A6 rn c6) rn (valCells r.rc) := hw7 ▸ ownL_keep H6.out.1 fun g hg => Below.heap_setCell w6 ⟨g7, 2, none⟩ _ g (fun e => by have e : g = g7 := e; have := (World.ownsRow.lt H6.out.1 g hg).1; omega)
      have b7 : Below w.heap.size w w7 := hw7 ▸ (H4.out.2.2.trans (H6.out.2.2.2.mono H4.out.2.2.size)).setCell (by show w.heap.size ≤ g7; have := H1.out.2.size; omega) _
      have H7 := Lib.hid (And.intro x7 (And.intro y7 (And.intro o7 b7)))
      have s47 : w4.heap.size ≤ w7.heap.size := by rw [← hw7]; simp; exact H6.out.2.2.2.size
      rw [hw7]
      clear x7 y7 o7 b7 d0 d1 d2 d3 d4 f0 f1 f2 f3 f4 q2 q5 p0 p1 p2 p3 p4 hw3 hw4 H5 Hlit
      go_wp2_with fail
      refine (onceNew_any w7).mono ?_
      rintro e w8 ⟨sb, rfl, T8, b8⟩
      have x8 := H7.out.1.below b8 H7.out.1.lt
      have H8 := Lib.hid (And.intro T8 (And.intro x8 (And.intro (H7.out.2.1.below b8 H7.out.2.1.lt) (And.intro (own_belowN H7.out.2.2.1 b8) (And.intro (H7.out.2.2.2.trans (b8.mono H7.out.2.2.2.size)) b8)))))
      have t0 : w8.cell? ⟨g7, 0, none⟩ = some (.int .i64 r.code) := x8.cell 0
      have t1 : w8.cell? ⟨g7, 1, none⟩ = some (.bool r.there) := x8.cell 1
      have t2 : w8.cell? ⟨g7, 2, none⟩ = some (.slice A6 rn c6) := x8.cell 2
      have t3 : w8.cell? ⟨g7, 3, none⟩ = some (.slice X m y) := x8.cell 3
      have t4 : w8.cell? ⟨g7, 4, none⟩ = some (.int .i64 r.id) := x8.cell 4
      obtain ⟨-, hv8⟩ := OwnVals.has (l := r.rc) (B := w4.heap.size) (by rw [← Hl.out] at H8; exact H8.out.2.2.2.1 : OwnVals w8 w4.heap.size (.slice A6 r.rc.length c6) r.rc)
      have Hke := Lib.hid (onceKeep_any H8.out.1 TGood.nil (by simp) c n Hcc.out.1 Hcc.out.2 r A6 rn c6 m X y w8.heap.size (Hl.out ▸ hv8) H.out.len (Nat.le_refl _) H.out.num)
      clear T8 b8 x8 hv8
      go_wp2_with fail
      refine Hke.out.mono ?_
      rintro e w9 ⟨rfl, T9, k9, v9⟩
      have hsT : ∀ i, addF (addF (fun _ => False) w7 w8) w8 w9 i → w7.heap.size ≤ i := fun i hi => hi.elim (fun hi => hi.elim False.elim fun hi => hi.1) fun hi => by have := H8.out.2.2.2.2.2.size; omega
      have H9 := Lib.hid (And.intro T9 (And.intro (keepT_good (c := c) (n := n) (r := r) (m := m) TGood.nil) (And.intro hsT (k9.below (B := w7.heap.size) (fun i hi => hi.elim False.elim fun hi => hi.1) H8.out.2.2.2.2.2.size))))
      obtain ⟨z, hz⟩ : ∃ z, keepE c n r m [] = z := ⟨_, rfl⟩
      rw [hz]
      by_cases hz0 : z = 0
      · subst hz0
        obtain ⟨hR, hm0, -⟩ := keepE_ok hz
        subst hm0
        have hLk := keep_one hz
        obtain ⟨T1, hT1⟩ : ∃ T1, keepT c n r 0 [] = T1 := ⟨_, rfl⟩
        rw [hT1] at H9 hLk
        have HLk := Lib.hid hLk
        have HR := Lib.hid (right_small hR)
        have b9 : Below w7.heap.size w7 w9 := H8.out.2.2.2.2.2.trans H9.out.2.2.2
        have HO9 := Lib.hid (own_belowN H7.out.2.2.1 b9)
        have HB9 := Lib.hid (And.intro (H7.out.1.below b9 H7.out.1.lt) (And.intro (H7.out.2.1.below b9 H7.out.2.1.lt) (H7.out.2.2.2.trans (b9.mono H7.out.2.2.2.size))))
        have s79 : w7.heap.size ≤ w9.heap.size := b9.size
        clear hz hR hm2 T9 k9 v9 hsT hLk hT1 b9 t0 t1 t2 t3 t4
        go_wp2
        go_loopw [11] (fun i wr => ∃ (q : Nat) (ys : List Value), q ≤ rn ∧ i = .int .i64 (q : Int) ∧ wr.ownsRow w4.heap.size 47 3 (.slice A6 rn c6) rn ys ∧ w9.grownBy wr (Value.slice A6 rn c6).ownBlock) (fun i _ => rn - (intOf i).toNat)
        case atStart => exact ⟨0, _, by omega, rfl, HO9.out, World.grownBy.refl _ _⟩
        case round =>
          obtain ⟨q, ys, hq, rfl, hown, hgr⟩ := hrel
          have hA6 : ∀ g, (Value.slice A6 rn c6).ownBlock = some g → w4.heap.size ≤ g ∧ g < w7.heap.size := fun g hg => ⟨(World.ownsRow.lt H7.out.2.2.1 g hg).1, (World.ownsRow.lt H7.out.2.2.1 g hg).2⟩
          have x9 := HB9.out.1.grown hgr (fun e => by have := (hA6 _ e.symm).1; omega)
          by_cases hqn : q < rn
          · obtain ⟨g, u0, u1, u2, hA, hBg, s0, s1, s2, f0, f1, f2, ⟨ys', hown'⟩, hgr'⟩ := own_put hown hqn (.int .i64 9) (.int .i64 0) (.string ⟨#[]⟩)
            subst hA
            have Hown' := Lib.hid hown'
            have Hgr' : Hid (w9.grownBy _ (some g)) := Lib.hid (hgr.trans hgr')
            have q0 : (0 : Int) ≤ (q : Int) := by omega
            have q1 : (q : Int) < (rn : Int) := by omega
            have q2 : wr.cell? ⟨g7, 2, none⟩ = some (.slice (some ⟨g, 0, none⟩) rn c6) := x9.cell 2
            clear hown hgr hown' hgr' x9 hA6
            go_wp2
            go_roundw
            case rel => exact ⟨q + 1, ys', by omega, by go_num, Hown'.out, Hgr'.out⟩
            case measure => simp [intOf]; omega
          · have q1 : (rn : Int) ≤ (q : Int) := by omega
            obtain rfl : q = rn := by omega
            have q2 : wr.cell? ⟨g7, 2, none⟩ = some (.slice A6 q c6) := x9.cell 2
            -- the table stands
            have kg : KeptF (fun i => (Value.slice A6 q c6).ownBlock = some i) w9 wr := ⟨hgr.os, hgr.tape, hgr.output, hgr.size, fun i hi hF => hgr.block i hi fun e => hF e.symm⟩
            have T10 := H9.out.1.other kg (fun i hi e => by have := (hA6 i e).2; have := H9.out.2.2.1 i hi; omega)
            have y10 := HB9.out.2.1.grown hgr (fun e => by have := (hA6 _ e.symm).1; have := H4.out.2.1.lt; omega)
            have b10 : Below w.heap.size w wr := HB9.out.2.2.grown hgr HB9.out.2.2.size (fun g hg => by have := (hA6 g hg).1; have := H4.out.2.2.size; omega)
            have H10 := Lib.hid (And.intro T10 (And.intro y10 (And.intro b10 hgr.size)))
            have Hla := Lib.hid (onceLook_any T10 H9.out.2.1 c n Hcc.out.1 Hcc.out.2)
            rw [HLk.out] at Hla
            clear hown hgr x9 kg T10 y10 b10 hA6
            go_wp2_with fail
            refine Hla.out.mono ?_
            rintro e w11 ⟨v11, rfl, ⟨A11, c11, rfl, o11⟩, b11⟩
            simp only
            obtain ⟨w12a, hw12a⟩ : ∃ wx, w11.alloc (.cells #[.int .i64 0, .bool false, .slice none 0 0, .slice none 0 0, .int .i64 0] 82) = wx := ⟨_, rfl⟩
            have x12 : Box w12a w11.heap.size 82 #[.int .i64 0, .bool false, .slice none 0 0, .slice none 0 0, .int .i64 0] := hw12a ▸ Box.made _ _ _
            have u12 : Below w11.heap.size w11 w12a := hw12a ▸ below_box _
            obtain ⟨w12, hw12⟩ : ∃ wx, (((((w12a.setCell ⟨w11.heap.size, 0, none⟩ (.int .i64 r.code)).setCell ⟨w11.heap.size, 1, none⟩ (.bool r.there)).setCell ⟨w11.heap.size, 2, none⟩ (.slice A11 r.rc.length c11)).setCell ⟨w11.heap.size, 3, none⟩ (.slice none 0 0)).setCell ⟨w11.heap.size, 4, none⟩ (.int .i64 r.id)) = wx := ⟨_, rfl⟩
            obtain ⟨x12b, g12, s12⟩ := store5 x12 hw12
            have d0 : w12a.cell? ⟨w11.heap.size, 0, none⟩ = some (.int .i64 0) := x12.cell 0
            have d1 : w12a.cell? ⟨w11.heap.size, 1, none⟩ = some (.bool false) := x12.cell 1
            have d2 : w12a.cell? ⟨w11.heap.size, 2, none⟩ = some (.slice none 0 0) := x12.cell 2
            have d3 : w12a.cell? ⟨w11.heap.size, 3, none⟩ = some (.slice none 0 0) := x12.cell 3
            have d4 : w12a.cell? ⟨w11.heap.size, 4, none⟩ = some (.int .i64 0) := x12.cell 4
            have f0 : w12a.frozen? ⟨w11.heap.size, 0, none⟩ = false := x12.frozen 0
            have f1 : w12a.frozen? ⟨w11.heap.size, 1, none⟩ = false := x12.frozen 1
            have f2 : w12a.frozen? ⟨w11.heap.size, 2, none⟩ = false := x12.frozen 2
            have f3 : w12a.frozen? ⟨w11.heap.size, 3, none⟩ = false := x12.frozen 3
            have f4 : w12a.frozen? ⟨w11.heap.size, 4, none⟩ = false := x12.frozen 4
            have u12b : Below w11.heap.size w11 w12 := u12.grown g12 u12.size (fun g hg => by injection hg with hg; omega)
            have b12 : Below wr.heap.size wr w12 := b11.trans (u12b.mono b11.size)
            have T12 := H10.out.1.below b12
            have H12 := Lib.hid (And.intro T12 (And.intro (H10.out.2.1.below b12 H10.out.2.1.lt) (And.intro (H10.out.2.2.1.trans (b12.mono H10.out.2.2.1.size)) (And.intro x12b (own_belowN o11 u12b)))))
            have s10 : wr.heap.size ≤ w11.heap.size := b11.size
            have HA11 : Hid (∀ g, (Value.slice A11 r.rc.length c11).ownBlock = some g → g < w11.heap.size) := Lib.hid fun g hg => (World.ownsRow.lt o11 g hg).2
            obtain ⟨NR, hNR⟩ : ∃ NR, r.rc.length = NR := ⟨_, rfl⟩
            rw [hNR] at HA11 hw12 H12 ⊢
            have HNR := Lib.hid hNR
            have hwrT : Hid (∀ i, addF (addF (fun _ => False) w7 w8) w8 w9 i → i < wr.heap.size) := Lib.hid H10.out.1.lt
            have hp5 : w.heap.size < w4.heap.size := by have := H4.out.2.1.lt; exact this
            have s4r : w4.heap.size ≤ wr.heap.size := by have := H10.out.2.2.2; omega
            have hNl : NR ≤ 4 := by rw [← hNR]; exact HR.out.1
            clear x12 u12 x12b g12 s12 u12b b12 T12 o11 b11 hNR hrn
            generalize wr = w10 at *
            go_wp2
            clear d0 d1 d2 d3 d4 f0 f1 f2 f3 f4
            go_loopw [14] (fun i wq => ∃ (q : Nat) (ys : List Value), q ≤ NR ∧ i = .int .i64 (q : Int) ∧ wq.ownsRow w10.heap.size 47 3 (.slice A11 NR c11) NR ys ∧ w12.grownBy wq (Value.slice A11 NR c11).ownBlock) (fun i _ => NR - (intOf i).toNat)
            case atStart => exact ⟨0, _, by omega, rfl, by have h9 := H12.out.2.2.2.2; unfold OwnVals at h9; exact h9, World.grownBy.refl _ _⟩
            case round =>
              obtain ⟨p, ys, hp, rfl, hown, hgr⟩ := hrel
              have hA11 : ∀ g, (Value.slice A11 NR c11).ownBlock = some g → w10.heap.size ≤ g ∧ g < w11.heap.size := fun g hg => by
                have h9 := World.ownsRow.lt hown g hg
                exact ⟨h9.1, HA11.out g hg⟩
              have x12 := H12.out.2.2.2.1.grown hgr (fun e => by have := (hA11 _ e.symm).2; omega)
              by_cases hqn : p < NR
              · obtain ⟨g, u0, u1, u2, hA, hBg, s0, s1, s2, f0, f1, f2, ⟨ys', hown'⟩, hgr'⟩ := own_put hown hqn (.int .i64 9) (.int .i64 0) (.string ⟨#[]⟩)
                subst hA
                have Hown' := Lib.hid hown'
                have Hgr' : Hid (w12.grownBy _ (some g)) := Lib.hid (hgr.trans hgr')
                have q0 : (0 : Int) ≤ (p : Int) := by omega
                have q1 : (p : Int) < (NR : Int) := by omega
                have q2 : wr.cell? ⟨w11.heap.size, 2, none⟩ = some (.slice (some ⟨g, 0, none⟩) NR c11) := x12.cell 2
                clear hown hgr hown' hgr' x12 hA11
                go_wp2
                go_roundw
                case rel => exact ⟨p + 1, ys', by omega, by go_num, Hown'.out, Hgr'.out⟩
                case measure => simp [intOf]; omega
              · have q1 : (NR : Int) ≤ (p : Int) := by omega
                obtain rfl : p = NR := by omega
                have q2 : wr.cell? ⟨w11.heap.size, 2, none⟩ = some (.slice A11 p c11) := x12.cell 2
                have kg : KeptF (fun i => (Value.slice A11 p c11).ownBlock = some i) w12 wr := ⟨hgr.os, hgr.tape, hgr.output, hgr.size, fun i hi hF => hgr.block i hi fun e => hF e.symm⟩
                have T13 := H12.out.1.other kg (fun i hi e => by have := (hA11 i e).1; have := hwrT.out i hi; omega)
                have y13 := H12.out.2.1.grown hgr (fun e => by have := (hA11 _ e.symm).1; omega)
                have b13 : Below w.heap.size w wr := H12.out.2.2.1.grown hgr H12.out.2.2.1.size (fun g hg => by have := (hA11 g hg).1; omega)
                have H13 := Lib.hid (And.intro y13 b13)
                have Hlb := Lib.hid (onceLook_any T13 H9.out.2.1 c n Hcc.out.1 Hcc.out.2)
                rw [HLk.out] at Hlb
                clear hown hgr x12 kg T13 y13 b13 hA11
                go_wp2_with fail
                refine Hlb.out.mono ?_
                rintro e w14 ⟨v14, rfl, ⟨A14, c14, rfl, o14⟩, b14⟩
                simp only
                obtain ⟨w15a, hw15a⟩ : ∃ wx, w14.alloc (.cells #[.int .i64 0, .bool false, .slice none 0 0, .slice none 0 0, .int .i64 0] 82) = wx := ⟨_, rfl⟩
                have x15 : Box w15a w14.heap.size 82 #[.int .i64 0, .bool false, .slice none 0 0, .slice none 0 0, .int .i64 0] := hw15a ▸ Box.made _ _ _
                have u15 : Below w14.heap.size w14 w15a := hw15a ▸ below_box _
                obtain ⟨w15, hw15⟩ : ∃ wx, (((((w15a.setCell ⟨w14.heap.size, 0, none⟩ (.int .i64 r.code)).setCell ⟨w14.heap.size, 1, none⟩ (.bool r.there)).setCell ⟨w14.heap.size, 2, none⟩ (.slice A14 r.rc.length c14)).setCell ⟨w14.heap.size, 3, none⟩ (.slice none 0 0)).setCell ⟨w14.heap.size, 4, none⟩ (.int .i64 r.id)) = wx := ⟨_, rfl⟩
                obtain ⟨x15b, g15, s15⟩ := store5 x15 hw15
                have d0 : w15a.cell? ⟨w14.heap.size, 0, none⟩ = some (.int .i64 0) := x15.cell 0
                have d1 : w15a.cell? ⟨w14.heap.size, 1, none⟩ = some (.bool false) := x15.cell 1
                have d2 : w15a.cell? ⟨w14.heap.size, 2, none⟩ = some (.slice none 0 0) := x15.cell 2
                have d3 : w15a.cell? ⟨w14.heap.size, 3, none⟩ = some (.slice none 0 0) := x15.cell 3
                have d4 : w15a.cell? ⟨w14.heap.size, 4, none⟩ = some (.int .i64 0) := x15.cell 4
                have f0 : w15a.frozen? ⟨w14.heap.size, 0, none⟩ = false := x15.frozen 0
                have f1 : w15a.frozen? ⟨w14.heap.size, 1, none⟩ = false := x15.frozen 1
                have f2 : w15a.frozen? ⟨w14.heap.size, 2, none⟩ = false := x15.frozen 2
                have f3 : w15a.frozen? ⟨w14.heap.size, 3, none⟩ = false := x15.frozen 3
                have f4 : w15a.frozen? ⟨w14.heap.size, 4, none⟩ = false := x15.frozen 4
                have u15b : Below w14.heap.size w14 w15 := u15.grown g15 u15.size (fun g hg => by injection hg with hg; omega)
                have b15 : Below wr.heap.size wr w15 := b14.trans (u15b.mono b14.size)
                have y15 := H13.out.1.below b15 H13.out.1.lt
                have bw15 := H13.out.2.trans (b15.mono H13.out.2.size)
                have s0 : w15.cell? ⟨w14.heap.size, 0, none⟩ = some (.int .i64 r.code) := x15b.cell 0
                have s1 : w15.cell? ⟨w14.heap.size, 1, none⟩ = some (.bool r.there) := x15b.cell 1
                have s2 : w15.cell? ⟨w14.heap.size, 2, none⟩ = some (.slice A14 r.rc.length c14) := x15b.cell 2
                have s3 : w15.cell? ⟨w14.heap.size, 3, none⟩ = some (.slice none 0 0) := x15b.cell 3
                have s4 : w15.cell? ⟨w14.heap.size, 4, none⟩ = some (.int .i64 r.id) := x15b.cell 4
                have t0 : w15.cell? ⟨w.heap.size, 0, none⟩ = some (.int .i64 r.code) := y15.cell 0
                have t1 : w15.cell? ⟨w.heap.size, 1, none⟩ = some (.bool r.there) := y15.cell 1
                have t2 : w15.cell? ⟨w.heap.size, 2, none⟩ = some (.slice A q d) := y15.cell 2
                have t3 : w15.cell? ⟨w.heap.size, 3, none⟩ = some (.slice X 0 y) := y15.cell 3
                have t4 : w15.cell? ⟨w.heap.size, 4, none⟩ = some (.int .i64 r.id) := y15.cell 4
                have Hsr := Lib.hid (sameReply17_any r r A14 A none X r.rc.length q c14 d 0 y w14.heap.size w.heap.size w15 (o14.has.2.belowOf u15b (Nat.le_refl _)) (H.out.vals.belowOf bw15 (Nat.le_refl _)) u15b.size bw15.size (by rw [HNR.out]; simp only [maxLen]; omega) H.out.len)
                rw [decide_eq_true rfl] at Hsr
                have HB15 := Lib.hid bw15
                clear x15 u15 x15b g15 s15 u15b b15 y15 bw15 o14 b14
                clear hw12 hw12a hw7 hwa H1 H4 H6 H7 H8 Hke H9 HR HO9 HB9 H10 Hla H12 HNR HA11 hwrT H13 Hlb HLk q1 q2
                go_wp2_with fail
                refine Hsr.out.mono ?_
                rintro e w16 ⟨rfl, b16⟩
                have HE := Lib.hid (HB15.out.trans (b16.mono HB15.out.size))
                clear b16
                go_wp2
                go_ret
                exact ⟨rfl, HE.out⟩
      · have hzb : (z != 0) = true := by simpa using hz0
        have hT0 : keepT c n r m [] = [] := by unfold keepT; rw [hz, if_neg hz0]
        have T9b := T9
        rw [hT0] at T9b
        have Hl9 := Lib.hid (onceLook_any T9b TGood.nil c n Hcc.out.1 Hcc.out.2)
        have Hno := Lib.hid (look_nil c n)
        obtain ⟨⟨⟨q1, q2, q3, q4⟩, zz⟩, hR⟩ : ∃ R, lookT c n [] = R := ⟨_, rfl⟩
        rw [hR] at Hl9 Hno
        simp only at Hno
        have HB9 : Hid (Below w.heap.size w w9) := Lib.hid (H8.out.2.2.2.2.1.trans (k9.below (B := w.heap.size) (fun i hi => hi.elim False.elim fun hi => by have := H7.out.2.2.2.size; omega) H8.out.2.2.2.2.1.size))
        clear hz T9 k9 v9 T9b hT0 hR hz0 hsT
        go_wp2_with fail
        refine Hl9.out.mono ?_
        rintro e w11 ⟨v11, rfl, ⟨A11, c11, rfl, -⟩, b11⟩
        simp only
        obtain ⟨w12a, hw12a⟩ : ∃ wx, w11.alloc (.cells #[.int .i64 0, .bool false, .slice none 0 0, .slice none 0 0, .int .i64 0] 82) = wx := ⟨_, rfl⟩
        have x12 : Box w12a w11.heap.size 82 #[.int .i64 0, .bool false, .slice none 0 0, .slice none 0 0, .int .i64 0] := hw12a ▸ Box.made _ _ _
        have u12 : Below w11.heap.size w11 w12a := hw12a ▸ below_box _
        obtain ⟨w12, hw12⟩ : ∃ wx, (((((w12a.setCell ⟨w11.heap.size, 0, none⟩ (.int .i64 q1)).setCell ⟨w11.heap.size, 1, none⟩ (.bool q2)).setCell ⟨w11.heap.size, 2, none⟩ (.slice A11 q3.length c11)).setCell ⟨w11.heap.size, 3, none⟩ (.slice none 0 0)).setCell ⟨w11.heap.size, 4, none⟩ (.int .i64 q4)) = wx := ⟨_, rfl⟩
        obtain ⟨-, g12, -⟩ := store5 x12 hw12
        have d0 : w12a.cell? ⟨w11.heap.size, 0, none⟩ = some (.int .i64 0) := x12.cell 0
        have d1 : w12a.cell? ⟨w11.heap.size, 1, none⟩ = some (.bool false) := x12.cell 1
        have d2 : w12a.cell? ⟨w11.heap.size, 2, none⟩ = some (.slice none 0 0) := x12.cell 2
        have d3 : w12a.cell? ⟨w11.heap.size, 3, none⟩ = some (.slice none 0 0) := x12.cell 3
        have d4 : w12a.cell? ⟨w11.heap.size, 4, none⟩ = some (.int .i64 0) := x12.cell 4
        have f0 : w12a.frozen? ⟨w11.heap.size, 0, none⟩ = false := x12.frozen 0
        have f1 : w12a.frozen? ⟨w11.heap.size, 1, none⟩ = false := x12.frozen 1
        have f2 : w12a.frozen? ⟨w11.heap.size, 2, none⟩ = false := x12.frozen 2
        have f3 : w12a.frozen? ⟨w11.heap.size, 3, none⟩ = false := x12.frozen 3
        have f4 : w12a.frozen? ⟨w11.heap.size, 4, none⟩ = false := x12.frozen 4
        have HE : Hid (Below w.heap.size w w12) := Lib.hid ((HB9.out.trans (b11.mono HB9.out.size)).trans ((u12.grown g12 u12.size (fun g hg => by injection hg with hg; omega)).mono (HB9.out.trans (b11.mono HB9.out.size)).size))
        clear x12 u12 g12 b11
        rcases Hno.out with rfl | rfl
        · go_wp2
          go_ret
          exact ⟨rfl, HE.out⟩
        · go_wp2
          go_ret
          exact ⟨rfl, HE.out⟩

namespace lawOnceKeeps
open Go.ChangeShapes Go.WideShapes Go.ChangeAt

theorem own : ownKnob Try.prog.godebug = none := by kernel_rfl
theorem kids : Kids Try.prog (· < Try.prog.types.size) := kids_rows (by kernel_rfl) (by kernel_rfl)
theorem full : ∀ t e, t < Try.prog.types.size → Try.prog.underlying t = some (.slice e) → 0 < Try.prog.cellsOf e := slices_full_of Try.prog (by kernel_rfl)

set_option maxRecDepth 100000 in
theorem lifted (os : Os) (started : os.Started) (H : Type) (enc : TypeId × Value → H) :
    ReturnsInHanded {} Try.checked os 13 .any (Rows.onceKeepsSpec.pre6 enc Try.prog Try.f13 Rows.onceKeepsRow.domain false) (Rows.onceKeepsSpec.post enc Try.prog Try.f13 false true false false) := by
  refine returnsInHanded_of_change (C := Try.checked) own started (by kernel_rfl) Try.func13
    (ChangeSpec.witness6 (enc := enc) (C := Try.checked) false ⟨#[], #[.int .i64 0, .int .i64 0, .agg #[.int .i64 0, .bool false, .slice none 0 0, .slice none 0 0, .int .i64 0]], []⟩ 8 (by kernel_rfl) (by kernel_rfl) (by kernel_rfl) (by kernel_rfl)) ?_
  intro W base args ds gs before hval0 hW _ _
  have hval : ∀ (j : Nat) t v, Try.f13.params[j]? = some t → args[j]? = some v → Value.okWide Try.prog W .any base t v := hval0
  have hW' := hW
  obtain ⟨p, q, hA0, hV, rfl, _, _⟩ := hW
  obtain ⟨rfl, rfl⟩ := trodVars_none hV
  have hA : DataW.TrodAll enc Try.prog W 0 (fun _ => true) true Try.f13.params.toList args.toList ds p := hA0
  rw [Try.params13] at hA hval
  obtain ⟨v0, vs0, d0, ds0, p0, q0, hargs, rfl, rfl, h0, r0⟩ := trodAll_cons hA
  obtain ⟨v1, vs1, d1, ds1, p1, q1, rfl, rfl, rfl, h1, r1⟩ := trodAll_cons r0
  obtain ⟨v2, vs2, d2, ds2, p2, q2, rfl, rfl, rfl, h2, r2⟩ := trodAll_cons r1
  obtain ⟨rfl, rfl, rfl⟩ := trodAll_nil r2
  obtain rfl : args = #[v0, v1, v2] := by cases args; simp_all
  have hlt := hW'.lt
  obtain ⟨k0, rfl, _, _, wf0⟩ := open_int Try.underlying3 (hval 0 3 v0 rfl rfl) h0
  have bd0 := bounds_i64 wf0
  obtain ⟨k1, rfl, _, _, wf1⟩ := open_int Try.underlying3 (hval 1 3 v1 rfl rfl) h1
  have bd1 := bounds_i64 wf1
  obtain ⟨r2, A2, rn2, d2, X2, m2, y2, rfl, hr2⟩ := open_reply (hval 2 82 v2 rfl rfl) h2 (fun x hx => hlt x (by simp [hx]))
  refine (keeps_walk k0 k1 (wf_of (by omega)) (wf_of (by omega)) r2 A2 rn2 d2 X2 m2 y2 W hr2).mono fun e W' ⟨he, hbel⟩ => ?_
  subst he
  exact ⟨_, rfl, law_post kids full (of_decide_eq_true (by kernel_rfl)) Try.underlying4 rfl rfl rfl hW' hbel⟩

theorem proved : Rows.OnceKeepsSaid :=
  OpenClaim.holds_of_wide 13 Try.f13 rfl rfl rfl rfl rfl rfl rfl ⟨rfl, rfl, rfl, rfl, rfl⟩ rfl rfl rfl rfl rfl (by kernel_rfl) Try.func13 (by kernel_rfl)
    (of_decide_eq_true (by kernel_rfl)) (by unfold Func.isWrapper; first | (rw [if_pos (by decide +kernel)]; kernel_rfl) | (rw [if_neg (by decide +kernel)]; exact ⟨rfl, rfl⟩))
    (fun os started H enc _ => lifted os started H enc)
end lawOnceKeeps

end Go.Proofs.Ytdfhnjocpfjagaa

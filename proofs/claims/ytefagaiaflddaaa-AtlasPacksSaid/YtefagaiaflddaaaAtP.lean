/- A map as a text: atlas.Pack. Condition: the map is in memory. -/
import Derived.Test.YtefagaiaflddaaaAtE
import Derived.Test.YtefagaiaflddaaaSpecAtp
import Derived.Test.YtefagaiaflddaaaPakK
import Derived.Test.YtefagaiaflddaaaStep
import Derived.Test.YtefagaiaflddaaaConv
import Derived.Deep.RegionHeld3
namespace Go.Proofs.Ytefagaiaflddaaa
open Go.RowKit
open Go.Lib (strCells compareBytes)

/-- slice values, each with the bytes that it has -/
abbrev Pvs := List (Value × List UInt8)
def pvCells (rs : Pvs) : List Value := rs.map (·.1)
/-- a row of rows of bytes that the call owns, from block B on: the rows too -/
structure OwnPv (w : World) (B : Nat) (v : Value) (rs : Pvs) : Prop where
  own : w.ownsRow B 62 1 v rs.length (pvCells rs)
  rows : ∀ r ∈ rs, w.ownsRow B 5 1 r.1 r.2.length (byteCells r.2)
theorem pv_elem : ElemN Try.prog 62 1 24 (.slice none 0 0) := ⟨by kernel_rfl, rfl⟩
theorem own_typeP {w : World} {B m size : Nat} {e : TypeId} {v : Value} {xs : List Value} (h : w.ownsRow B e size v m xs) {g : Nat} (hg : v.ownBlock = some g) : ∃ cur : Array Value, w.heap[g]? = some (Obj.cells cur e (0, 0)) := by
  rcases h.2 with ⟨rfl, _⟩ | ⟨g', cap, cur, rfl, hB, hh, rest⟩
  · cases hg
  · cases hg; exact ⟨cur, hh⟩
theorem own_keepP {w w' : World} {B m size : Nat} {e : TypeId} {v : Value} {xs : List Value} (h : w.ownsRow B e size v m xs) (hk : ∀ g, v.ownBlock = some g → w'.heap[g]? = w.heap[g]?) : w'.ownsRow B e size v m xs := by
  refine ⟨h.1, ?_⟩
  rcases h.2 with hn | ⟨g, cap, cur, rfl, hB, hg, rest⟩
  · exact .inl hn
  · exact .inr ⟨g, cap, cur, rfl, hB, (hk g rfl).trans hg, rest⟩
/-- a row stays where a row of another element type has grown -/
theorem own_otherP {w w' : World} {B B' m m' size size' : Nat} {e e' : TypeId} {v v' : Value} {xs xs' : List Value} (hg : w.grownBy w' v.ownBlock) (h : w.ownsRow B e size v m xs) (h' : w.ownsRow B' e' size' v' m' xs') (hne : e ≠ e') : w'.ownsRow B' e' size' v' m' xs' :=
  own_keepP h' fun g hgx => by
    obtain ⟨cur, hc⟩ := own_typeP h' hgx
    refine hg.block g (Array.getElem?_eq_some_iff.1 hc).1 fun e0 => ?_
    obtain ⟨cur', hc'⟩ := own_typeP h e0.symm
    rw [hc] at hc'
    injection hc' with hc'
    injection hc' with _ ht _
    exact hne ht.symm
theorem OwnPv.below {w w' : World} {B : Nat} {v : Value} {rs : Pvs} (h : OwnPv w B v rs) (hb : Below w.heap.size w w') : OwnPv w' B v rs :=
  ⟨own_belowN h.own hb, fun r hr => own_belowN (h.rows r hr) hb⟩
theorem grown_bel {w w' : World} (h : Below w.heap.size w w') (r : Option Nat) : w.grownBy w' r := ⟨h.os, h.tape, h.output, h.size, fun k hk _ => h.block k hk⟩
theorem below_thn {B : Nat} {w w1 w2 : World} (h : Below B w w1) (k : Below w1.heap.size w1 w2) (hB : B ≤ w1.heap.size) : Below B w w2 := h.trans (k.mono hB)
theorem OwnPv.snoc {w w' : World} {B : Nat} {v v' : Value} {rs qs : Pvs} (h : OwnPv w B v rs) (hq : ∀ q ∈ qs, w.ownsRow B 5 1 q.1 q.2.length (byteCells q.2)) (h' : w'.ownsRow B 62 1 v' (rs.length + qs.length) (pvCells rs ++ pvCells qs)) (hg : w.grownBy w' v.ownBlock) : OwnPv w' B v' (rs ++ qs) := by
  refine ⟨by rw [List.length_append]; unfold pvCells at h' ⊢; rw [List.map_append]; exact h', fun r hr => ?_⟩
  rcases List.mem_append.1 hr with hr | hr
  · exact own_otherP hg h.own (h.rows r hr) (by decide)
  · exact own_otherP hg h.own (hq r hr) (by decide)
theorem bodyP_le : ∀ {l : List Pt}, (∀ p ∈ l, EachP p) → (bodyP l).length ≤ 200 * l.length
  | [], _ => by simp [bodyP]
  | p :: l, h => by
    have h1 := bodyP_le fun q hq => h q (List.mem_cons_of_mem _ hq)
    have h2 := h p (by simp)
    have h3 := numForm_len9 (k := p.lb.length) (by have := h2.1; omega)
    have h4 := numForm_len9 (k := p.n.toNat) (by have := h2.2; omega)
    have := h2.1
    simp only [bodyP, textForm, List.length_append, List.length_cons] at h1 ⊢
    omega
theorem packM_len {ep : Nat} {l : List Pt} (he : ep < 9223372036854775808) (h : RightP l) : (packM ep l).length ≤ 1000000 := by
  have h1 := bodyP_le h.each
  have h2 := numForm_len9 (k := ep) (by omega)
  have h3 := numForm_len9 (k := l.length) (by have := h.most; omega)
  have := h.most
  unfold packM
  rw [List.length_append, List.length_append]
  omega
/-- the parts of a map's text, of which so many have been laid -/
def partsM (ep n : Nat) (l : List Pt) : List (List UInt8) := numForm ep :: numForm n :: l.flatMap fun p => [textForm p.lb, numForm p.n.toNat]
theorem partsM_succ {ep n : Nat} {l : List Pt} {k : Nat} {p : Pt} (h : l[k]? = some p) : partsM ep n (l.take (k + 1)) = partsM ep n (l.take k) ++ [textForm p.lb, numForm p.n.toNat] := by
  rw [take_snocP h]
  simp [partsM]
theorem partsM_len (ep n : Nat) (l : List Pt) : (partsM ep n l).length = 2 + 2 * l.length := by
  unfold partsM
  rw [List.length_cons, List.length_cons]
  have : (l.flatMap fun p => [textForm p.lb, numForm p.n.toNat]).length = 2 * l.length := by
    induction l with
    | nil => rfl
    | cons c l ih => rw [List.flatMap_cons, List.length_append, ih]; simp; omega
  omega
theorem flat_partsM (ep : Nat) (l : List Pt) : flat (partsM ep l.length l) = packM ep l := by
  unfold partsM packM
  rw [flat, flat]
  congr 2
  induction l with
  | nil => rfl
  | cons c l ih => simp [flat, bodyP, ih]
/-- what Pack answers -/
def PackPostM (ep : Int) (l : List Pt) (w : World) (e : Ending) (w' : World) : Prop := e = .returned (.tuple #[.string ⟨(packT ep l).1.toArray⟩, .int .i64 (packT ep l).2]) ∧ Below w.heap.size w w'
set_option maxRecDepth 100000 in
set_option maxHeartbeats 6400000 in
theorem packM_any (ep : Int) (A : Option Addr) (n c C : Nat) (l : List Pt) (w : World) (h : HasPts w C A n l) (hC : C ≤ w.heap.size) (hn : n ≤ maxLen) (hs : ∀ p ∈ l, p.lo.size ≤ maxLen) :
    Calls Try.prog 25 #[.agg #[.int .i64 ep, .slice A n c]] w (PackPostM ep l w) := by
  have Hc := Lib.hid (check_any ep A n c C l (w.alloc (.cells #[.int .i64 ep, .slice A n c] 24)) (h.alloc hC _) (by simp; omega) hn hs)
  have HM := Lib.hid (fun wx (hx : Below (w.alloc (.cells #[.int .i64 ep, .slice A n c] 24)).heap.size (w.alloc (.cells #[.int .i64 ep, .slice A n c] 24)) wx) => map_box hx)
  have HA : Hid (∀ wx, Below (w.alloc (.cells #[.int .i64 ep, .slice A n c] 24)).heap.size (w.alloc (.cells #[.int .i64 ep, .slice A n c] 24)) wx → HasPts wx C A n l) := Lib.hid fun wx hx => h.belowOf (map_box hx).2.2 hC
  have Hl := Lib.hid h.1
  obtain ⟨z, hz⟩ : ∃ z, checkT ep l = z := ⟨_, rfl⟩
  have Hz := Lib.hid hz
  obtain ⟨r, hr⟩ : ∃ r, packT ep l = r := ⟨_, rfl⟩
  have Hr := Lib.hid hr
  unfold PackPostM
  rw [hr]
  unfold CheckPost at Hc
  rw [hz] at Hc
  obtain ⟨Z, zz⟩ := r
  clear h hs hz hr
  go_enter Try.func25, Try.ntmps25
  go_wp2_with fail
  refine Hc.out.mono ?_
  rintro e w1 ⟨rfl, hb1⟩
  have Hb1 := Lib.hid hb1
  obtain ⟨q0, q1, hbw⟩ := HM.out w1 hb1
  have HW1 := Lib.hid hbw
  clear hb1 hbw
  by_cases h0 : z = 0
  · subst h0
    have HR : Hid (1 ≤ ep ∧ ep ≤ 1099511627776 ∧ RightP l) := Lib.hid (check_zero.1 Hz.out)
    have hrz : (Z, zz) = (packM ep.toNat l, (0 : Int)) := by rw [← Hr.out]; unfold packT; rw [if_pos Hz.out]
    injection hrz with hz1 hz2
    subst hz2
    have HZ := Lib.hid hz1.symm
    clear hz1
    have hn8 : n ≤ 8 := by have := HR.out.2.2.most; have := Hl.out; omega
    have hep : 1 ≤ ep ∧ ep ≤ 1099511627776 := ⟨HR.out.1, HR.out.2.1⟩
    have HK : Hid (∀ wx, Below w1.heap.size w1 wx → (wx.cell? ⟨w.heap.size, 0, none⟩ = some (.int .i64 ep) ∧ wx.cell? ⟨w.heap.size, 1, none⟩ = some (.slice A n c)) ∧ Below w1.heap.size w1 wx) := Lib.hid fun wx hx => by
      obtain ⟨g0, g1, -⟩ := HM.out wx (Hb1.out.trans (hx.mono Hb1.out.size))
      exact ⟨⟨g0, g1⟩, hx⟩
    clear Hc
    go_wp2
    go_region_held3 (fun wx => (wx.cell? ⟨w.heap.size, 0, none⟩ = some (.int .i64 ep) ∧ wx.cell? ⟨w.heap.size, 1, none⟩ = some (.slice A n c)) ∧ Below w1.heap.size w1 wx)
      (first | exact HK.out _ (Below.refl _ _).drew | exact HK.out _ (below_thn (And.right (by assumption)) b1 (And.right (by assumption) : Below w1.heap.size w1 _).size) | exact HK.out _ (below_thn (And.right (by assumption)) b2 (And.right (by assumption) : Below w1.heap.size w1 _).size) | exact HK.out _ ((And.right (by assumption) : Below w1.heap.size w1 _).alloc (And.right (by assumption) : Below w1.heap.size w1 _).size _))
      (first
        | (go_at_call_of 42 (Value.int IntKind.i64 ep); refine (num_any ep _ (by omega)).mono ?_; rintro e w3 ⟨v3, rfl, o3, b1⟩; rw [if_neg (by omega)] at o3; obtain ⟨A3, m3, rfl, -, -, -⟩ := own_slice o3)
        | (go_at_call_of 42 (Value.int IntKind.i64 (n : Int)); refine (num_any (n : Int) _ (by omega)).mono ?_; rintro e w4 ⟨v4, rfl, o4, b2⟩; rw [if_neg (by omega), Int.toNat_natCast] at o4; obtain ⟨A4, m4, rfl, -, -, -⟩ := own_slice o4))
    all_goals
      have hb5 : Below w1.heap.size w1 (w4.alloc (Obj.cells #[.slice A3 (numForm ep.toNat).length m3, .slice A4 (numForm n).length m4] 62)) := And.right (by assumption)
      have h3s : w1.heap.size ≤ w3.heap.size := b1.size
      have h4s : w3.heap.size ≤ w4.heap.size := b2.size
      have HP : Hid (OwnPv (w4.alloc (Obj.cells #[.slice A3 (numForm ep.toNat).length m3, .slice A4 (numForm n).length m4] 62)) w1.heap.size (.slice (some ⟨w4.heap.size, 0, none⟩) 2 2) [(.slice A3 (numForm ep.toNat).length m3, numForm ep.toNat), (.slice A4 (numForm n).length m4, numForm n)]) := Lib.hid
        ⟨World.ownsRow_lit (base := w1.heap.size) (e := 62) (size := 1) w4 #[.slice A3 (numForm ep.toNat).length m3, .slice A4 (numForm n).length m4] 2 (Nat.le_trans h3s h4s) (by simp [maxLen]) rfl, fun r hr => by
          simp only [List.mem_cons, List.not_mem_nil, or_false] at hr
          rcases hr with rfl | rfl
          · exact own_baseN (own_belowN (own_belowN o3 b2) (below_box _)) (Nat.le_refl _)
          · exact own_baseN (own_belowN o4 (below_box _)) h3s⟩
      have HB5 := Lib.hid hb5
      obtain ⟨⟨-, q1⟩, -⟩ := HK.out _ hb5
      clear o3 o4 b1 b2 hb5 h3s h4s
      generalize hW5 : (w4.alloc (Obj.cells #[.slice A3 (numForm ep.toNat).length m3, .slice A4 (numForm n).length m4] 62)) = w5 at *
      generalize hG5 : w4.heap.size = g5 at *
      clear hW5 hG5
      clear ‹_ ∧ Below w1.heap.size w1 w5›
      go_wp2
      go_loopw [5, 7, 24] (fun o _ i wr => ∃ (k : Nat) (rs : Pvs), k ≤ n ∧ i = .int .i64 (k : Int) ∧ OwnPv wr w1.heap.size o rs ∧ Hid (rs.map (·.2) = partsM ep.toNat n (l.take k)) ∧ Below w1.heap.size w1 wr) (fun _ _ i _ => n - (intOf i).toNat)
      case atStart => exact ⟨0, _, by omega, rfl, HP.out, Lib.hid rfl, HB5.out⟩
      case round =>
        clear HP HB5
        obtain ⟨k, rs, hk, rfl, ho, Hrs, hb⟩ := hrel
        have Ho := Lib.hid ho
        have Hb := Lib.hid hb
        have hsz := hb.size
        clear hb
        by_cases hlt : k < n
        · obtain ⟨a, y, rfl, hab, hy, c0, c1⟩ := (HA.out wr (Hb1.out.trans (Hb.out.mono Hb1.out.size))).at_ hlt
          have Hy := Lib.hid (partsM_succ (ep := ep.toNat) (n := n) hy)
          have hye := HR.out.2.2.each y (List.mem_of_getElem? hy)
          have Hlr : Hid (rs.length = 2 + 2 * k) := Lib.hid (by
            have h1 := congrArg List.length Hrs.out
            rw [partsM_len, List.length_map, List.length_take] at h1
            have := Hl.out
            omega)
          obtain ⟨Ap, cp, rfl, -, -, -⟩ := own_slice ho.own
          obtain ⟨N, hN⟩ : ∃ N, rs.length = N := ⟨_, rfl⟩
          have hgo := ho.own
          rw [hN] at hgo Hlr Ho
          rw [hN]
          have hlo : y.lo.size ≤ 100 := by have := hye.1; rw [lo_size] at this; exact this
          have hnd := hye.2
          obtain ⟨plo, pn⟩ := y
          simp only at c0 c1 hlo hnd
          have Hpl : Hid ((⟨plo, pn⟩ : Pt).lb = plo.data.toList) := Lib.hid rfl
          simp only [Pt.lb] at Hy
          have hk0 : (0 : Int) ≤ (k : Int) := by omega
          have hk1 : (k : Int) < (n : Int) := by omega
          have Hown := Lib.hid hgo
          have HN := Lib.hid hN
          clear hy ho hgo hN hye
          have Hk : Hid (∀ wx, (wr.alloc (Obj.cells #[.string plo, .int .i64 pn] 46)).grownBy wx (Value.slice Ap N cp).ownBlock → (wx.cell? ⟨wr.heap.size, 0, none⟩ = some (.string plo) ∧ wx.cell? ⟨wr.heap.size, 1, none⟩ = some (.int .i64 pn)) ∧ (wr.alloc (Obj.cells #[.string plo, .int .i64 pn] 46)).grownBy wx (Value.slice Ap N cp).ownBlock) := Lib.hid fun wx hg => by
            have hbx := (Box.made wr 46 #[.string plo, .int .i64 pn]).grown hg fun e => by
              have h1 := (Hown.out.lt _ e.symm).2
              exact absurd h1 (Nat.lt_irrefl _)
            exact ⟨⟨hbx.cell 0, hbx.cell 1⟩, hg⟩
          have HownW : Hid ((wr.alloc (Obj.cells #[.string plo, .int .i64 pn] 46)).ownsRow w1.heap.size 62 1 (.slice Ap N cp) N (pvCells rs)) := Lib.hid (own_belowN Hown.out (below_box _))
          have HszW : Hid (w1.heap.size ≤ (wr.alloc (Obj.cells #[.string plo, .int .i64 pn] 46)).heap.size) := Lib.hid (Nat.le_trans hsz (by simp))
          go_wp2
          go_region_held3 (fun wx => (wx.cell? ⟨wr.heap.size, 0, none⟩ = some (.string plo) ∧ wx.cell? ⟨wr.heap.size, 1, none⟩ = some (.int .i64 pn)) ∧ (wr.alloc (Obj.cells #[.string plo, .int .i64 pn] 46)).grownBy wx (Value.slice Ap N cp).ownBlock)
            (first | exact Hk.out _ (grown_bel (Below.refl _ _).drew _) | exact Hk.out _ (World.grownBy.trans (And.right (by assumption)) (grown_bel b2 _)) | exact Hk.out _ (World.grownBy.trans (And.right (by assumption)) (grown_bel b1 _)) | exact Hk.out _ (World.grownBy.trans (And.right (by assumption)) (World.grownBy_alloc _ _ _)) | exact Hk.out _ (World.grownBy.trans (And.right (by assumption)) gA))
            (first
              | (go_at_call 43; refine (text_any plo _ (by omega)).mono ?_; rintro e w3 ⟨v3, rfl, o3, b1⟩; obtain ⟨A3, m3, rfl, -, -, -⟩ := own_slice o3)
              | (go_at_call 42; refine (num_any pn _ (by omega)).mono ?_; rintro e w4 ⟨v4, rfl, o4, b2⟩; rw [if_neg (by omega)] at o4; obtain ⟨A4, m4, rfl, -, -, -⟩ := own_slice o4; have C3 : Below (wr.alloc (Obj.cells #[.string plo, .int .i64 pn] 46)).heap.size (wr.alloc (Obj.cells #[.string plo, .int .i64 pn] 46)) w4 := ((Below.refl (wr.alloc (Obj.cells #[.string plo, .int .i64 pn] 46)).heap.size (wr.alloc (Obj.cells #[.string plo, .int .i64 pn] 46))).drew.trans b1).trans (b2.mono b1.size))
              | (refine step_append_hasN (by rfl) _ _ _ (by rfl) 62 pv_elem (by omega) Try.underlying64 (by rfl) (own_belowN HownW.out (C3.alloc C3.size (Obj.cells #[.slice A3 (textForm plo.data.toList).length m3, .slice A4 (numForm pn.toNat).length m4] 62))) (by rfl) (Has.lit w4 #[.slice A3 (textForm plo.data.toList).length m3, .slice A4 (numForm pn.toNat).length m4] 62) (fun u hu => by simp at hu; rcases hu with rfl | rfl <;> rfl) (by have := HN.out; have := Hlr.out; simp only [maxLen]; omega) (by have := Hlr.out; omega) (Nat.le_trans HszW.out (C3.alloc C3.size (Obj.cells #[.slice A3 (textForm plo.data.toList).length m3, .slice A4 (numForm pn.toNat).length m4] 62)).size) ?_; intro vA wA oA gA zA))
          all_goals
            have W5 := C3.alloc C3.size (Obj.cells #[.slice A3 (textForm plo.data.toList).length m3, .slice A4 (numForm pn.toNat).length m4] 62)
            have hP5 := (Ho.out.below (below_box (Obj.cells #[.string plo, .int .i64 pn] 46))).below W5
            have q3 := own_belowN (own_belowN o3 b2) (below_box (Obj.cells #[.slice A3 (textForm plo.data.toList).length m3, .slice A4 (numForm pn.toNat).length m4] 62))
            have q4 := own_belowN o4 (below_box (Obj.cells #[.slice A3 (textForm plo.data.toList).length m3, .slice A4 (numForm pn.toNat).length m4] 62))
            have z3 : w1.heap.size ≤ w3.heap.size := Nat.le_trans HszW.out b1.size
            have HPA : Hid (OwnPv wA w1.heap.size vA (rs ++ [(.slice A3 (textForm plo.data.toList).length m3, textForm plo.data.toList), (.slice A4 (numForm pn.toNat).length m4, numForm pn.toNat)])) := Lib.hid (by
              refine hP5.snoc (fun q hq => ?_) (by rw [HN.out]; exact oA) gA
              simp only [List.mem_cons, List.not_mem_nil, or_false] at hq
              rcases hq with rfl | rfl
              · exact own_baseN q3 HszW.out
              · exact own_baseN q4 z3)
            have HbA : Hid (Below w1.heap.size w1 wA) := Lib.hid ((Hb.out.trans (((below_box _).mono hsz).trans (W5.mono HszW.out))).trans ((Below.refl _ _).grown gA (Nat.le_trans HszW.out W5.size) fun g e => (Hown.out.lt g e).1))
            have HrsA : Hid ((rs ++ [((.slice A3 (textForm plo.data.toList).length m3 : Value), textForm plo.data.toList), (.slice A4 (numForm pn.toNat).length m4, numForm pn.toNat)]).map (·.2) = partsM ep.toNat n (l.take (k + 1))) := Lib.hid (by
              rw [Hy.out, List.map_append, Hrs.out]
              rfl)
            clear hP5 q3 q4 z3 oA gA zA o3 o4 b1 b2 C3 W5
            go_wp2
            go_roundw
            case rel => exact ⟨k + 1, _, by omega, by go_num, HPA.out, HrsA, HbA.out⟩
            case measure => simp [intOf]; omega
        · obtain rfl : n = k := by omega
          have E : Hid (l.take n = l) := Lib.hid (List.take_of_length_le (by have := Hl.out; omega))
          obtain ⟨Ap, cp, rfl, hp1, hp2, hph⟩ := own_slice ho.own
          have Hparts : Hid (Parts wr wr.heap.size Ap rs.length (pvCells rs) (rs.map (·.2))) := Lib.hid ⟨hph, by simp [pvCells], fun j hj => by
            rw [List.length_map] at hj
            obtain ⟨A', c', e', -, -, hh⟩ := own_slice (ho.rows rs[j] (List.getElem_mem hj))
            exact ⟨A', rs[j].2.length, c', by simp [pvCells, hj, e'], by simpa [hj] using hh⟩⟩
          have Hflat : Hid (flat (rs.map (·.2)) = packM ep.toNat l) := Lib.hid (by
            rw [Hrs.out, E.out, ← flat_partsM, Hl.out])
          have Hlen : Hid (rs.length = 2 + 2 * n) := Lib.hid (by
            have h1 := congrArg List.length Hrs.out
            rw [partsM_len, List.length_map, List.length_take] at h1
            have := Hl.out
            omega)
          have Hpl : Hid ((packM ep.toNat l).length ≤ 1000000) := Lib.hid (packM_len (by omega) HR.out.2.2)
          have Hj := Lib.hid (join_any Ap rs.length cp wr.heap.size (pvCells rs) (rs.map (·.2)) wr Hparts.out (Nat.le_refl _) (by rw [Hflat.out]; have := Hpl.out; omega) (by have := Hlen.out; omega))
          rw [Hflat.out] at Hj
          obtain ⟨NZ, hNZ⟩ : ∃ NZ, Z.length = NZ := ⟨_, rfl⟩
          rw [HZ.out] at Hpl Hj
          rw [hNZ] at Hpl Hj
          have hpl := Hpl.out
          have HW := Lib.hid (HW1.out.trans (Hb.out.mono HW1.out.size))
          clear hp1 hp2 hph ho hNZ
          go_wp2_with fail
          refine Hj.out.mono ?_
          rintro e w6 ⟨v6, rfl, o6, b6⟩
          obtain ⟨A6, c6, rfl, -, -, hh6⟩ := own_slice o6
          have hcv : (convert 62 9 (.slice A6 NZ c6)).run Try.prog w6 = .ok (.string ⟨Z.toArray⟩) w6 := string_run (w := w6) (l := Z) hh6 c6
          have HE : Hid (Below w.heap.size w w6) := Lib.hid (HW.out.trans (b6.mono HW.out.size))
          clear o6 b6 hh6
          go_wp2
          go_ret2
          exact ⟨rfl, HE.out⟩
  · have h0' : (z == 0) = false := by simpa using h0
    have h0'' : (z != 0) = true := by simpa using h0
    have hrz : (Z, zz) = (([] : List UInt8), z) := by rw [← Hr.out]; unfold packT; rw [Hz.out, if_neg h0]
    injection hrz with hz1 hz2
    subst hz1
    subst hz2
    clear h0
    go_wp2
    go_ret2
    exact ⟨rfl, HW1.out⟩
end Go.Proofs.Ytefagaiaflddaaa

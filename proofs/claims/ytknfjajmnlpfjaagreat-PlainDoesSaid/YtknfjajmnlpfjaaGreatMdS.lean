/- Area of the document's store of layer 5: what lies in an area, in the order of the entries. Condition: the store is in memory. -/
import Derived.Test.YtknfjajmnlpfjaaGreatMdM
import Derived.Test.YtknfjajmnlpfjaaGreatMdT
import Derived.Test.YtknfjajmnlpfjaaGreatMdR
namespace Go.Proofs.YtknfjajmnlpfjaaGreat
open Go.RowKit
open Go.Lib (strCells compareBytes)

abbrev Shw := Kv (List UInt8 × Value × List TVal)
def showCells : Shw → List Value
  | [] => []
  | y :: l => encStr y.1 :: encStr y.2.1 :: y.2.2.1 :: showCells l
theorem showCells_len : ∀ (l : Shw), (showCells l).length = l.length * 3
  | [] => rfl
  | y :: l => by simp only [showCells, List.length_cons, showCells_len l]; omega
theorem showCells_app : ∀ (a b : Shw), showCells (a ++ b) = showCells a ++ showCells b
  | [], _ => rfl
  | y :: l, b => by simp [showCells, showCells_app l b]
theorem showCells_at : ∀ (l : Shw) (i : Nat) (y : List UInt8 × List UInt8 × Value × List TVal), l[i]? = some y → (showCells l)[i * 3]? = some (encStr y.1) ∧ (showCells l)[i * 3 + 1]? = some (encStr y.2.1) ∧ (showCells l)[i * 3 + 2]? = some y.2.2.1
  | [], i, y, h => by simp at h
  | z :: l, 0, y, h => by
    simp at h
    subst h
    exact ⟨rfl, rfl, rfl⟩
  | z :: l, i + 1, y, h => by
    have ih := showCells_at l i y (by simpa using h)
    rw [show (i + 1) * 3 = i * 3 + 1 + 1 + 1 from by omega]
    simpa [showCells] using ih
theorem show_elem : ElemN Tryz.prog 80 3 56 (.agg #[.string ⟨#[]⟩, .string ⟨#[]⟩, .slice none 0 0]) := ⟨by kernel_rfl, rfl⟩
/-- a list with a hole at place j -/
def holed (L : Shw) (j : Nat) (z : List Value) : List Value := showCells (L.take j) ++ (z ++ showCells (L.drop j))
theorem holed_len {L : Shw} {j : Nat} {z : List Value} (hj : j ≤ L.length) (hz : z.length = 3) : (holed L j z).length = (L.length + 1) * 3 := by
  unfold holed
  rw [List.length_append, List.length_append, showCells_len, showCells_len, List.length_take, List.length_drop, hz]
  omega
theorem holed_end {L : Shw} {z : List Value} : holed L L.length z = showCells L ++ z := by simp [holed, showCells]
/-- the cells ahead of the hole -/
theorem holed_at {L : Shw} {j : Nat} {z : List Value} {y : List UInt8 × List UInt8 × Value × List TVal} (hy : L[j]? = some y) : (holed L (j + 1) z)[j * 3]? = some (encStr y.1) ∧ (holed L (j + 1) z)[j * 3 + 1]? = some (encStr y.2.1) ∧ (holed L (j + 1) z)[j * 3 + 2]? = some y.2.2.1 := by
  have hjl := (List.getElem?_eq_some_iff.1 hy).1
  have hl : (showCells (L.take (j + 1))).length = (j + 1) * 3 := by rw [showCells_len, List.length_take]; omega
  have h := showCells_at (L.take (j + 1)) j y (by rw [List.getElem?_take, if_pos (by omega)]; exact hy)
  unfold holed
  rw [List.getElem?_append_left (by omega), List.getElem?_append_left (by omega), List.getElem?_append_left (by omega)]
  exact h
theorem set_mid {a b : List Value} {x y z x' y' z' : Value} {n : Nat} (hn : a.length = n) : (((a ++ ([x, y, z] ++ b)).set n x').set (n + 1) y').set (n + 2) z' = a ++ ([x', y', z'] ++ b) := by
  subst hn
  rw [List.set_append_right _ _ (Nat.le_refl _), Nat.sub_self, List.set_append_right _ _ (by omega), show a.length + 1 - a.length = 1 from by omega, List.set_append_right _ _ (by omega), show a.length + 2 - a.length = 2 from by omega]
  rfl
/-- the hole goes one place ahead -/
theorem holed_move {L : Shw} {j : Nat} {z0 z1 z2 : Value} {y : List UInt8 × List UInt8 × Value × List TVal} (hy : L[j]? = some y) :
    (((holed L (j + 1) [z0, z1, z2]).set ((j + 1) * 3) (encStr y.1)).set ((j + 1) * 3 + 1) (encStr y.2.1)).set ((j + 1) * 3 + 2) y.2.2.1 = holed L j [encStr y.1, encStr y.2.1, y.2.2.1] := by
  have hjl := (List.getElem?_eq_some_iff.1 hy).1
  have hl : (showCells (L.take (j + 1))).length = (j + 1) * 3 := by rw [showCells_len, List.length_take]; omega
  unfold holed
  rw [set_mid hl]
  have e1 : L.take (j + 1) = L.take j ++ [y] := by rw [List.take_add_one, hy]; rfl
  have e2 : L.drop j = y :: L.drop (j + 1) := by
    rw [List.drop_eq_getElem_cons hjl]
    have := List.getElem?_eq_getElem hjl
    rw [hy] at this
    injection this with this
    rw [← this]
  rw [e1, e2, showCells_app]
  simp [showCells]
/-- the hole is filled -/
theorem holed_fill {L : Shw} {j : Nat} {z0 z1 z2 : Value} (x : List UInt8 × List UInt8 × Value × List TVal) (hj : j ≤ L.length) :
    (((holed L j [z0, z1, z2]).set (j * 3) (encStr x.1)).set (j * 3 + 1) (encStr x.2.1)).set (j * 3 + 2) x.2.2.1 = showCells (L.take j ++ x :: L.drop j) := by
  have hl : (showCells (L.take j)).length = j * 3 := by rw [showCells_len, List.length_take]; omega
  unfold holed
  rw [set_mid hl, showCells_app]
  simp [showCells]
theorem show_put {w : World} {B n c k g : Nat} {e : TypeId} {ys : List Value} (h : w.ownsRow B e 3 (.slice (some ⟨g, 0, none⟩) n c) n ys) (hk : k < n) (x y z : Value) {W : World} (hW : ((w.setCell ⟨g, k * 3, none⟩ x).setCell ⟨g, k * 3 + 1, none⟩ y).setCell ⟨g, k * 3 + 2, none⟩ z = W) :
    (∃ u0 u1 u2, w.cell? ⟨g, k * 3, none⟩ = some u0 ∧ w.cell? ⟨g, k * 3 + 1, none⟩ = some u1 ∧ w.cell? ⟨g, k * 3 + 2, none⟩ = some u2) ∧ w.frozen? ⟨g, k * 3, none⟩ = false ∧ w.frozen? ⟨g, k * 3 + 1, none⟩ = false ∧ w.frozen? ⟨g, k * 3 + 2, none⟩ = false ∧
    W.ownsRow B e 3 (.slice (some ⟨g, 0, none⟩) n c) n (((ys.set (k * 3) x).set (k * 3 + 1) y).set (k * 3 + 2) z) ∧ w.grownBy W (some g) := by
  have hy := h.1
  have s1 := h.stored (k * 3) x
  have s2 := s1.1.stored (k * 3 + 1) y
  have s3 := s2.1.stored (k * 3 + 2) z
  refine ⟨⟨ys[k * 3]'(by omega), ys[k * 3 + 1]'(by omega), ys[k * 3 + 2]'(by omega), ?_, ?_, ?_⟩, h.frozenAt _, h.frozenAt _, h.frozenAt _, hW ▸ s3.1, hW ▸ ((s1.2.trans s2.2).trans s3.2)⟩
  · rw [h.cellAt _ (by omega)]
    exact List.getElem?_eq_getElem (by omega)
  · rw [h.cellAt _ (by omega)]
    exact List.getElem?_eq_getElem (by omega)
  · rw [h.cellAt _ (by omega)]
    exact List.getElem?_eq_getElem (by omega)
theorem area_row {rs : Kv (Value × List TVal)} {id : Int} {fs : List Int} {low high : List TVal} {L : Shw} (hp : L.Perm (areaV id fs low high rs)) {y : List UInt8 × List UInt8 × Value × List TVal} (hy : y ∈ L) : y.2 ∈ rs := by
  obtain ⟨x, hx, he⟩ := List.mem_filterMap.1 (hp.subset hy)
  unfold areaX at he
  cases hs : showT id fs x.2.2 with
  | none => rw [hs] at he; cases he
  | some m =>
    rw [hs] at he
    simp only at he
    by_cases hl : liesB m low high = true
    · rw [if_pos hl] at he
      injection he with he
      rw [← he]
      exact hx
    · rw [if_neg hl] at he
      cases he
theorem areaX_some {id : Int} {fs : List Int} {low high : List TVal} {x : List UInt8 × Value × List TVal} {y : List UInt8 × List UInt8 × Value × List TVal} (h : areaX id fs low high x = some y) : ∃ m, showT id fs x.2.2 = some m ∧ y = (entryT id m x.1, x) := by
  unfold areaX at h
  cases hs : showT id fs x.2.2 with
  | none => rw [hs] at h; cases h
  | some m =>
    rw [hs] at h
    simp only at h
    by_cases hl : liesB m low high = true
    · rw [if_pos hl] at h
      injection h with h
      exact ⟨m, rfl, h.symm⟩
    · rw [if_neg hl] at h
      cases h
/-- the entry of the next row is new -/
theorem area_ne {id : Int} {fs : List Int} {low high mm : List TVal} {rs : Kv (Value × List TVal)} {k : Nat} {x : List UInt8 × Value × List TVal} {en : List UInt8} {y : List UInt8 × List UInt8 × Value × List TVal} (hr : Rise rs) (hg : ∀ r ∈ rs, GoodRec r.2.2 ∧ keyOk r.1 = true) (hx : rs[k]? = some x) (hs : showT id fs x.2.2 = some mm) (he : entryT id mm x.1 = en) (hy : y ∈ areaV id fs low high (rs.take k)) : y.1 ≠ en := by
  obtain ⟨x', hx', hax⟩ := List.mem_filterMap.1 hy
  obtain ⟨m', hs', rfl⟩ := areaX_some hax
  intro e
  have hxm := List.mem_of_getElem? hx
  obtain ⟨e1, i1⟩ := show_entry (hg x hxm).1 hs (hg x hxm).2
  obtain ⟨e2, i2⟩ := show_entry (hg x' (List.mem_of_mem_take hx')).1 hs' (hg x' (List.mem_of_mem_take hx')).2
  have hk := entry_key e2 i2 e1 i1 (by rw [he]; exact e)
  obtain ⟨hkl, hke⟩ := List.getElem?_eq_some_iff.1 hx
  obtain ⟨i, hi, hie⟩ := List.getElem_of_mem hx'
  rw [List.getElem_take] at hie
  rw [List.length_take] at hi
  have hlt := (List.pairwise_iff_getElem.1 hr) i k (by omega) hkl (by omega)
  rw [hie, hke, hk] at hlt
  exact lt_irr _ hlt
def AreaPost (id : Int) (fs : List Int) (low high : List TVal) (rs : Kv (Value × List TVal)) (w : World) (e : Ending) (w' : World) : Prop :=
  ∃ v L, e = .returned v ∧ w'.ownsRow w.heap.size 80 3 v L.length (showCells L) ∧ Rise L ∧ L.Perm (areaV id fs low high rs) ∧ Below w.heap.size w w'
section
variable {w : World} {B tb : Nat} {rv xv : Value} {rs : Kv (Value × List TVal)} {F : List (Value × List Int)}
set_option maxRecDepth 100000 in
set_option maxHeartbeats 3200000 in
theorem refArea_any (h : RSt w B tb rv xv rs F) (id : Int) (Af : Option Addr) (nf cf : Nat) (fs : List Int) (hf : HasInts w w.heap.size Af nf fs) (hfn : nf ≤ maxLen) (lv hv : Value) (low high : List TVal) (C : Nat) (h1 : IsVals w C lv low) (h2 : IsVals w C hv high) (hC : C ≤ w.heap.size) (hl : rs.length ≤ 1000) :
    Calls Tryz.prog 35 #[.pointer (some ⟨tb, 0, none⟩), .agg #[.int .i64 id, .slice Af nf cf], lv, hv] w (AreaPost id fs low high rs w) := by
  obtain ⟨w1, hw1⟩ : ∃ w1, w.alloc (.cells #[.int .i64 id, .slice Af nf cf] 74) = w1 := ⟨_, rfl⟩
  have hb1 : Below w.heap.size w w1 := hw1 ▸ below_alloc _ _
  have hbx1 : Box w1 w.heap.size 74 #[.int .i64 id, .slice Af nf cf] := hw1 ▸ Box.made _ _ _
  have hs1 : w1.heap.size = w.heap.size + 1 := by rw [← hw1]; simp
  obtain ⟨A1, n1, c1, rfl, hn1, hc1, hh1, -⟩ := h1
  obtain ⟨A2, n2, c2, rfl, hn2, hc2, hh2, -⟩ := h2
  obtain ⟨Ar, cr, hre, -⟩ := own_sliceN h.rows
  subst hre
  obtain ⟨N, hN⟩ : ∃ N, rs.length = N := ⟨_, rfl⟩
  have H := Lib.hid h
  rw [hN] at H hl
  have HN := Lib.hid hN
  have Hf := Lib.hid hf
  have H1 := Lib.hid hh1
  have H2 := Lib.hid hh2
  have Hw1 := Lib.hid hw1
  have Hb1 := Lib.hid hb1
  have Hs1 := Lib.hid hs1
  have Hbx1 := Lib.hid hbx1
  have Hn1 := Lib.hid hn1
  have Hn2 := Lib.hid hn2
  have Hc1 := Lib.hid hc1
  have Hc2 := Lib.hid hc2
  clear h hf hh1 hh2 hw1 hb1 hs1 hbx1 hN hn1 hn2 hc1 hc2
  go_enter Tryz.func35, Tryz.ntmps35
  go_wp2
  rw [Hw1.out]
  go_loopw [9, 10] (fun v i wr => ∃ (k m : Nat) (L : Shw), k ≤ N ∧ m ≤ k ∧ i = .int .i64 (k : Int) ∧ wr.ownsRow (w.heap.size + 1) 80 3 v m (showCells L) ∧ Hid (L.length = m ∧ Rise L ∧ L.Perm (areaV id fs low high (rs.take k))) ∧ Hid (Below (w.heap.size + 1) w1 wr)) (fun _ i _ => N - (intOf i).toNat)
  case atStart => exact ⟨0, 0, [], by omega, by omega, rfl, World.ownsRow_nil _ _ _ _, Lib.hid ⟨rfl, Rise.nil, List.Perm.refl _⟩, Lib.hid (Below.refl _ _)⟩
  case round =>
    obtain ⟨k, m, L, hk, hmk, rfl, hown, HL, Hb⟩ := hrel
    have Hbw : Hid (Below w.heap.size w wr) := Lib.hid (Hb1.out.trans (Hb.out.mono (by omega)))
    have HR := Lib.hid (H.out.below Hbw.out)
    have c0 := HR.out.cells.1
    have k0 : (0 : Int) ≤ (k : Int) := by omega
    obtain ⟨Ao, co, rfl, -⟩ := own_sliceN hown
    have Hown := Lib.hid hown
    clear hown
    by_cases hkN : k < N
    · have k1 : (k : Int) < (N : Int) := by omega
      obtain ⟨x, hx⟩ : ∃ x, rs[k]? = some x := ⟨_, List.getElem?_eq_getElem (by have := HN.out; omega)⟩
      have hrr := HR.out.rows
      rw [HN.out] at hrr
      obtain ⟨a, rfl, hck⟩ := key_cell hrr hkN hx
      obtain ⟨a', ea, hcr⟩ := row_cellR hrr hkN hx
      injection ea with ea
      subst ea
      have hxm := List.mem_of_getElem? hx
      have hrec := HR.out.recs x hxm
      obtain ⟨Ax, cx, exv, -⟩ := own_sliceN hrec
      rw [exv] at hcr hrec
      have Hvals := Lib.hid (own_vals hrec)
      have Hgood := Lib.hid (HR.out.good x hxm)
      have Hx := Lib.hid hx
      have hbx := Hbx1.out.below Hb.out (by omega)
      have b0 := hbx.cell 0
      have b1 := hbx.cell 1
      have Hshow := Lib.hid (refShows_any id Af (Ax) nf cf x.2.2.length cx wr.drew.heap.size fs x.2.2 wr.drew ⟨Hf.out.1, (Has.belowOf Hf.out.2 Hbw.out.drew (Nat.le_refl _)).more Hbw.out.drew.size⟩ (Hvals.out.below (Below.refl _ _).drew) hfn (by have := Hgood.out.1.le; simp only [maxLen]; omega) (Nat.le_refl _))
      have HS0 : Hid (wr.drew.cell? ⟨w.heap.size, 0, none⟩ = some (.int .i64 id) ∧ wr.drew.cell? ⟨w.heap.size, 1, none⟩ = some (.slice Af nf cf) ∧ wr.drew.cell? ⟨tb, 0, none⟩ = some (.slice (some a) N cr) ∧ wr.drew.cell? ⟨(a.add (k * 2)).block, (a.add (k * 2)).off + 1, none⟩ = some (.slice Ax x.2.2.length cx)) := Lib.hid ⟨b0, b1, c0, hcr⟩
      have HSk : Hid (∀ wx, Below wr.heap.size wr wx → wx.cell? ⟨w.heap.size, 0, none⟩ = some (.int .i64 id) ∧ wx.cell? ⟨w.heap.size, 1, none⟩ = some (.slice Af nf cf) ∧ wx.cell? ⟨tb, 0, none⟩ = some (.slice (some a) N cr) ∧ wx.cell? ⟨(a.add (k * 2)).block, (a.add (k * 2)).off + 1, none⟩ = some (.slice Ax x.2.2.length cx)) := Lib.hid fun wx hb => ⟨keepcell hb b0, keepcell hb b1, keepcell hb c0, keepcell hb hcr⟩
      have Hck := Lib.hid hck
      clear hrec hbx hxm hrr b0 b1 hcr hck
      cases hs : showT id fs x.2.2 with
      | none =>
        rw [hs] at Hshow
        have Hskip : Hid (areaV id fs low high (rs.take (k + 1)) = areaV id fs low high (rs.take k)) := Lib.hid (by
          unfold areaV
          rw [List.take_add_one, Hx.out, List.filterMap_append]
          have e : areaX id fs low high x = none := by unfold areaX; rw [hs]
          simp [e])
        clear hs
        go_wp2
        go_region_held3 (fun wx => wx.cell? ⟨w.heap.size, 0, none⟩ = some (.int .i64 id) ∧ wx.cell? ⟨w.heap.size, 1, none⟩ = some (.slice Af nf cf) ∧ wx.cell? ⟨tb, 0, none⟩ = some (.slice (some a) N cr) ∧ wx.cell? ⟨(a.add (k * 2)).block, (a.add (k * 2)).off + 1, none⟩ = some (.slice Ax x.2.2.length cx))
          (first | exact HS0.out | exact HS5.out)
          (first | (go_at_call 58; refine Hshow.out.mono ?_; rintro e w5 ⟨rfl, hb5⟩; have Hb5 : Hid (Below wr.heap.size wr w5) := Lib.hid ((Below.refl _ wr).drew.trans hb5); have HS5 := Lib.hid (HSk.out w5 Hb5.out); clear hb5))
        go_wp2
        go_roundw
        case rel => exact ⟨k + 1, m, L, by omega, by omega, by go_num, own_belowN Hown.out Hb5.out, Lib.hid (by rw [Hskip.out]; exact HL.out), Lib.hid (Hb.out.trans (Hb5.out.mono (by have := Hb.out.size; have := Hs1.out; omega)))⟩
        case measure => simp [intOf]; omega
      | some mm =>
        rw [hs] at Hshow
        obtain ⟨hee, hei⟩ := show_entry (Hgood.out.1) hs Hgood.out.2
        have Hee := Lib.hid hee
        have Hei := Lib.hid hei
        have Hs := Lib.hid hs
        have hml : mm.length ≤ 4 := (rowErr_ok.1 (entryErr_zero hee).2.2.2.1).1
        clear hs hee hei
        go_wp2
        go_region_held3 (fun wx => wx.cell? ⟨w.heap.size, 0, none⟩ = some (.int .i64 id) ∧ wx.cell? ⟨w.heap.size, 1, none⟩ = some (.slice Af nf cf) ∧ wx.cell? ⟨tb, 0, none⟩ = some (.slice (some a) N cr) ∧ wx.cell? ⟨(a.add (k * 2)).block, (a.add (k * 2)).off + 1, none⟩ = some (.slice Ax x.2.2.length cx))
          (first | exact HS0.out | exact HS5.out)
          (first | (go_at_call 58; refine Hshow.out.mono ?_; rintro e w5 ⟨vv, rfl, hv5, hb5⟩; have Hb5 : Hid (Below wr.heap.size wr w5) := Lib.hid ((Below.refl _ wr).drew.trans hb5); have HS5 := Lib.hid (HSk.out w5 Hb5.out); obtain ⟨Av, cv, rfl, hcv, -⟩ := own_sliceN hv5; have Hv5 := Lib.hid hv5; clear hb5 hv5))
        have Hlies := Lib.hid (refLies_any Av A1 A2 mm.length n1 n2 cv c1 c2 w5.heap.size mm low high w5 (own_vals Hv5.out) ((H1.out.belowOf (Hbw.out.trans (Hb5.out.mono Hbw.out.size)) hC).more (Nat.le_trans hC (Nat.le_trans Hbw.out.size Hb5.out.size))) ((H2.out.belowOf (Hbw.out.trans (Hb5.out.mono Hbw.out.size)) hC).more (Nat.le_trans hC (Nat.le_trans Hbw.out.size Hb5.out.size))) (by simp only [maxLen]; omega) (Nat.le_trans Hn1.out Hc1.out) (Nat.le_trans Hn2.out Hc2.out) hcv (Nat.le_refl _))
        obtain ⟨lb, hlb⟩ : ∃ b, liesB mm low high = b := ⟨_, rfl⟩
        rw [hlb] at Hlies
        have Hlb := Lib.hid hlb
        clear hlb
        cases lb with
        | false =>
          have Hskip : Hid (areaV id fs low high (rs.take (k + 1)) = areaV id fs low high (rs.take k)) := Lib.hid (by
            unfold areaV
            rw [List.take_add_one, Hx.out, List.filterMap_append]
            have e : areaX id fs low high x = none := by unfold areaX; rw [Hs.out]; simp [Hlb.out]
            simp [e])
          go_wp2_with fail
          refine Hlies.out.mono ?_
          rintro e w6 ⟨rfl, hb6⟩
          have Hb6 : Hid (Below wr.heap.size wr w6) := Lib.hid (Hb5.out.trans (hb6.mono Hb5.out.size))
          clear hb6
          go_wp2
          go_roundw
          case rel => exact ⟨k + 1, m, L, by omega, by omega, by go_num, own_belowN Hown.out Hb6.out, Lib.hid (by rw [Hskip.out]; exact HL.out), Lib.hid (Hb.out.trans (Hb6.out.mono (by have := Hb.out.size; have := Hs1.out; omega)))⟩
          case measure => simp [intOf]; omega
        | true =>
          go_wp2_with fail
          refine Hlies.out.mono ?_
          rintro e w6 ⟨rfl, hb6⟩
          have Hb6 : Hid (Below wr.heap.size wr w6) := Lib.hid (Hb5.out.trans (hb6.mono Hb5.out.size))
          have Hv6 : Hid (w6.ownsRow wr.drew.heap.size 53 3 (.slice Av mm.length cv) mm.length (valCells mm)) := Lib.hid (own_belowN Hv5.out hb6)
          clear hb6
          go_wp2
          have c0' : w6.cell? ⟨tb, 0, none⟩ = some (.slice (some a) N cr) := (HSk.out w6 Hb6.out).2.2.1
          have Hck6 : Hid (∀ wx, Below wr.heap.size wr wx → wx.cell? ⟨w.heap.size, 0, none⟩ = some (.int .i64 id) ∧ wx.cell? ⟨tb, 0, none⟩ = some (.slice (some a) N cr) ∧ wx.cell? (a.add (k * 2)) = some (.string ⟨x.1.toArray⟩)) := Lib.hid fun wx hb => ⟨(HSk.out wx hb).1, (HSk.out wx hb).2.2.1, keepcell hb Hck.out⟩
          have HE0 := Lib.hid (Hck6.out w6.drew Hb6.out.drew)
          have hent := refEntry_ok id Av mm.length cv w6.drew.heap.size mm ⟨x.1.toArray⟩ w6.drew (own_vals (own_belowN Hv6.out (Below.refl _ w6).drew)) (by simp only [maxLen]; omega) (Nat.le_refl _) Hei.out Hee.out
          obtain ⟨en, hen⟩ : ∃ en, entryT id mm x.1 = en := ⟨_, rfl⟩
          have hent' : Calls Tryz.prog 60 #[.int .i64 id, .slice Av mm.length cv, .string ⟨x.1.toArray⟩] w6.drew fun e w' => e = .returned (.tuple #[.string ⟨en.toArray⟩, .int .i64 0]) ∧ Below w6.drew.heap.size w6.drew w' := by rw [← hen]; exact hent
          have Hent := Lib.hid hent'
          have Hen := Lib.hid hen
          have HareaS : Hid (areaV id fs low high (rs.take (k + 1)) = areaV id fs low high (rs.take k) ++ [(en, x)]) := Lib.hid (by
            unfold areaV
            rw [List.take_add_one, Hx.out, List.filterMap_append]
            have e : areaX id fs low high x = some (en, x) := by unfold areaX; rw [Hs.out]; simp [Hlb.out, hen]
            simp [e])
          clear hent hent' hen
          go_region_held3 (fun wx => wx.cell? ⟨w.heap.size, 0, none⟩ = some (.int .i64 id) ∧ wx.cell? ⟨tb, 0, none⟩ = some (.slice (some a) N cr) ∧ wx.cell? (a.add (k * 2)) = some (.string ⟨x.1.toArray⟩))
            (first | exact HE0.out | exact HE7.out)
            (first | (go_at_call 60; refine Hent.out.mono ?_; rintro e w7 ⟨rfl, hb7⟩; have Hb7 : Hid (Below wr.heap.size wr w7) := Lib.hid (Hb6.out.trans (((Below.refl _ w6).drew.trans hb7).mono Hb6.out.size)); have HE7 := Lib.hid (Hck6.out w7 Hb7.out); clear hb7))
          have Hl7 : Hid ((w7.alloc (.cells #[.string ⟨#[]⟩, .string ⟨#[]⟩, .slice none 0 0] 80)).ownsRow (w.heap.size + 1) 80 3 (.slice Ao m co) m (showCells L)) := Lib.hid (own_belowN (own_belowN Hown.out Hb7.out) (below_alloc _ _))
          have Hbw7 : Hid (w.heap.size + 1 ≤ w7.heap.size) := Lib.hid (by have := Hb7.out.size; have := Hb.out.size; have := Hs1.out; omega)
          go_wp2_with (at_builtin; refine wpList_append_hasN rfl (.tmp 64) (.tmp 66) _ rfl 80 show_elem (by omega) Tryz.underlying77 rfl Hl7.out rfl (Has.lit w7 #[.string ⟨#[]⟩, .string ⟨#[]⟩, .slice none 0 0] _) (by intro u hu; simp at hu; rcases hu with rfl | rfl | rfl <;> rfl) (by simp only [maxLen]; omega) (by omega) (by have := Hbw7.out; simp; omega) ?_; intro v8 w8 o8 g8 z8; obtain ⟨Ae, ce, rfl, -⟩ := own_sliceN o8; obtain ⟨ge, rfl, hgeB⟩ := own_head o8 (by omega); have Ho8 := Lib.hid o8; have Hg8 := Lib.hid g8; have Hz8 := Lib.hid z8; clear o8 g8 z8)
          have Hbw8 : Hid (Below (w.heap.size + 1) w1 w8) := Lib.hid ((((Hb.out.trans (Hb7.out.mono (by have := Hb.out.size; have := Hs1.out; omega))).trans ((below_alloc w7 _).mono Hbw7.out)).grown Hg8.out (by have := Hbw7.out; simp; omega)) fun g e => (Hl7.out.lt g e).1)
          go_loopw [15] (fun kk wq => ∃ (q : Nat) (z0 z1 z2 : Value), q ≤ m ∧ kk = .int .i64 (q : Int) ∧ Hid (wq.ownsRow (w.heap.size + 1) 80 3 (.slice (some ⟨ge, 0, none⟩) (m + 1) ce) (m + 1) (holed L q [z0, z1, z2]) ∧ (∀ y ∈ L.drop q, en < y.1) ∧ Below (w.heap.size + 1) w1 wq)) (fun kk _ => (intOf kk).toNat)
          case atStart => exact ⟨m, .string ⟨#[]⟩, .string ⟨#[]⟩, .slice none 0 0, Nat.le_refl _, rfl, Lib.hid ⟨by rw [← HL.out.1, holed_end, HL.out.1]; exact Ho8.out, (fun y hy => by rw [List.drop_eq_nil_of_le (by rw [HL.out.1]; exact Nat.le_refl _)] at hy; cases hy), Hbw8.out⟩⟩
          case round =>
            obtain ⟨q, z0, z1, z2, hqm, rfl, Hq⟩ := hrel
            have HRq := Lib.hid (H.out.below (Hb1.out.trans (Hq.out.2.2.mono (by omega))))
            have q0 : (0 : Int) ≤ (q : Int) := by omega
            have q1 : (q : Int) < (m : Int) + 1 := by omega
            have cq := HRq.out.cells.1
            have hrq := HRq.out.rows
            rw [HN.out] at hrq
            obtain ⟨a2, ea2, hkq⟩ := key_cell hrq hkN Hx.out
            obtain ⟨a3, ea3, hrq2⟩ := row_cellR hrq hkN Hx.out
            injection ea2 with ea2
            injection ea3 with ea3
            subst ea2
            subst ea3
            have hrx := HRq.out.recs x (List.mem_of_getElem? Hx.out)
            obtain ⟨Ay, cy, eyv, -⟩ := own_sliceN hrx
            rw [eyv] at hrq2
            have Heyv := Lib.hid eyv
            unfold encStr at hkq
            clear hrq hrx eyv
            by_cases hq : q = 0
            · have hex : q = 0 ∨ ∃ y, L[q - 1]? = some y ∧ ¬ en < y.1 ∧ y.1 ≠ en := .inl hq
              subst hq
              obtain ⟨W, hW⟩ : ∃ W, ((wr.setCell ⟨ge, 0, none⟩ (.string ⟨en.toArray⟩)).setCell ⟨ge, 1, none⟩ (.string ⟨x.1.toArray⟩)).setCell ⟨ge, 2, none⟩ (.slice Ay x.2.2.length cy) = W := ⟨_, rfl⟩
              obtain ⟨⟨u0, u1, u2, p0, p1, p2⟩, f0, f1, f2, hown9, hg9⟩ := show_put Hq.out.1 (k := 0) (by omega) (.string ⟨en.toArray⟩) (.string ⟨x.1.toArray⟩) (.slice Ay x.2.2.length cy) hW
              simp only [Nat.zero_mul, Nat.zero_add] at p0 p1 p2 f0 f1 f2
              have Ho9 : Hid (W.ownsRow (w.heap.size + 1) 80 3 (.slice (some ⟨ge, 0, none⟩) (m + 1) ce) (m + 1) (showCells (L.take (0) ++ (en, x) :: L.drop (0)))) := Lib.hid (by
                rw [← holed_fill (z0 := z0) (z1 := z1) (z2 := z2) (en, x) (by have := HL.out.1; omega), Heyv.out]
                exact hown9)
              have HL9 : Hid ((L.take (0) ++ (en, x) :: L.drop (0)).length = m + 1 ∧ Rise (L.take (0) ++ (en, x) :: L.drop (0)) ∧ (L.take (0) ++ (en, x) :: L.drop (0)).Perm (areaV id fs low high (rs.take (k + 1)))) := Lib.hid ⟨by rw [(ins_perm L (0) (en, x)).length_eq, List.length_append, HL.out.1]; rfl, ins_rise HL.out.2.1 Hq.out.2.1 (ins_low HL.out.2.1 hex), by rw [HareaS.out]; exact (ins_perm L (0) (en, x)).trans (HL.out.2.2.append_right _)⟩
              have HbW : Hid (Below (w.heap.size + 1) w1 W) := Lib.hid (Hq.out.2.2.grown hg9 (by have := Hq.out.2.2.size; have := Hs1.out; omega) fun g e => by injection e with e; omega)
              clear hown9 hg9 hex
              go_wp2
              go_roundw
              case rel => exact ⟨k + 1, m + 1, _, by omega, by omega, by go_num, Ho9.out, HL9, HbW⟩
              case measure => simp [intOf]; omega
            · obtain ⟨j, rfl⟩ : ∃ j, q = j + 1 := ⟨q - 1, by omega⟩
              obtain ⟨y, hy⟩ : ∃ y, L[j]? = some y := ⟨_, List.getElem?_eq_getElem (by have := HL.out.1; omega)⟩
              have hyc := holed_at (z := [z0, z1, z2]) hy
              have hyL := List.mem_of_getElem? hy
              have hyr := HRq.out.recs y.2 (List.mem_of_mem_take (area_row HL.out.2.2 hyL))
              obtain ⟨Aw, cw, eyw, -⟩ := own_sliceN hyr
              have Heyw := Lib.hid eyw
              have hyne : y.1 ≠ en := area_ne H.out.rise H.out.good Hx.out Hs.out Hen.out (HL.out.2.2.subset hyL)
              have y0 : wr.cell? ⟨ge, j * 3, none⟩ = some (.string ⟨y.1.toArray⟩) := by rw [Hq.out.1.cellAt _ (by omega)]; exact hyc.1
              have y1 : wr.cell? ⟨ge, j * 3 + 1, none⟩ = some (.string ⟨y.2.1.toArray⟩) := by rw [Hq.out.1.cellAt _ (by omega)]; exact hyc.2.1
              have y2 : wr.cell? ⟨ge, j * 3 + 2, none⟩ = some (.slice Aw y.2.2.2.length cw) := by rw [Hq.out.1.cellAt _ (by omega), hyc.2.2, eyw]
              have Hy := Lib.hid hy
              have Hyne := Lib.hid hyne
              have jq : (j : Int) + 1 - 1 = (j : Int) := by omega
              clear hyc hyL hyr eyw hyne hy
              by_cases hlt : en < y.1
              · have hless : Op.bytesLess y.1 en = false := by rw [bytesLess_lt]; exact decide_eq_false (lt_asymm' hlt)
                have hneb : (y.1 == en) = false := beq_eq_false_iff_ne.2 Hyne.out
                obtain ⟨W, hW⟩ : ∃ W, ((wr.setCell ⟨ge, (j + 1) * 3, none⟩ (.string ⟨y.1.toArray⟩)).setCell ⟨ge, (j + 1) * 3 + 1, none⟩ (.string ⟨y.2.1.toArray⟩)).setCell ⟨ge, (j + 1) * 3 + 2, none⟩ (.slice Aw y.2.2.2.length cw) = W := ⟨_, rfl⟩
                obtain ⟨⟨u0, u1, u2, p0, p1, p2⟩, f0, f1, f2, hown9, hg9⟩ := show_put Hq.out.1 (k := j + 1) (by omega) _ _ _ hW
                have Ho9 : Hid (W.ownsRow (w.heap.size + 1) 80 3 (.slice (some ⟨ge, 0, none⟩) (m + 1) ce) (m + 1) (holed L j [encStr y.1, encStr y.2.1, y.2.2.1])) := Lib.hid (by
                  rw [← holed_move Hy.out, Heyw.out]
                  exact hown9)
                have Hbq : Hid (Below (w.heap.size + 1) w1 W) := Lib.hid (Hq.out.2.2.grown hg9 (by have := Hq.out.2.2.size; have := Hs1.out; omega) fun g e => by injection e with e; omega)
                have Hgt : Hid (∀ y' ∈ L.drop j, en < y'.1) := Lib.hid (by
                  intro y' hy'
                  obtain ⟨hjl, hje⟩ := List.getElem?_eq_some_iff.1 Hy.out
                  rw [List.drop_eq_getElem_cons hjl, hje] at hy'
                  rcases List.mem_cons.1 hy' with rfl | hy'
                  · exact hlt
                  · exact Hq.out.2.1 y' hy')
                clear hown9 hg9 hlt
                go_wp2
                go_roundw
                case rel => exact ⟨j, _, _, _, by omega, by go_num, Lib.hid ⟨Ho9.out, Hgt.out, Hbq.out⟩⟩
                case measure => simp [intOf]
              · have hless : Op.bytesLess y.1 en = true := by
                  rw [bytesLess_lt]
                  refine decide_eq_true ?_
                  rcases lt_tri y.1 en with h | h | h
                  · exact h
                  · exact absurd h Hyne.out
                  · exact absurd h hlt
                have hex : j + 1 = 0 ∨ ∃ y, L[j + 1 - 1]? = some y ∧ ¬ en < y.1 ∧ y.1 ≠ en := .inr ⟨y, Hy.out, hlt, Hyne.out⟩
                clear hlt
                obtain ⟨W, hW⟩ : ∃ W, ((wr.setCell ⟨ge, (j + 1) * 3, none⟩ (.string ⟨en.toArray⟩)).setCell ⟨ge, (j + 1) * 3 + 1, none⟩ (.string ⟨x.1.toArray⟩)).setCell ⟨ge, (j + 1) * 3 + 2, none⟩ (.slice Ay x.2.2.length cy) = W := ⟨_, rfl⟩
                obtain ⟨⟨u0, u1, u2, p0, p1, p2⟩, f0, f1, f2, hown9, hg9⟩ := show_put Hq.out.1 (k := j + 1) (by omega) (.string ⟨en.toArray⟩) (.string ⟨x.1.toArray⟩) (.slice Ay x.2.2.length cy) hW
                
                have Ho9 : Hid (W.ownsRow (w.heap.size + 1) 80 3 (.slice (some ⟨ge, 0, none⟩) (m + 1) ce) (m + 1) (showCells (L.take (j + 1) ++ (en, x) :: L.drop (j + 1)))) := Lib.hid (by
                  rw [← holed_fill (z0 := z0) (z1 := z1) (z2 := z2) (en, x) (by have := HL.out.1; omega), Heyv.out]
                  exact hown9)
                have HL9 : Hid ((L.take (j + 1) ++ (en, x) :: L.drop (j + 1)).length = m + 1 ∧ Rise (L.take (j + 1) ++ (en, x) :: L.drop (j + 1)) ∧ (L.take (j + 1) ++ (en, x) :: L.drop (j + 1)).Perm (areaV id fs low high (rs.take (k + 1)))) := Lib.hid ⟨by rw [(ins_perm L (j + 1) (en, x)).length_eq, List.length_append, HL.out.1]; rfl, ins_rise HL.out.2.1 Hq.out.2.1 (ins_low HL.out.2.1 hex), by rw [HareaS.out]; exact (ins_perm L (j + 1) (en, x)).trans (HL.out.2.2.append_right _)⟩
                have HbW : Hid (Below (w.heap.size + 1) w1 W) := Lib.hid (Hq.out.2.2.grown hg9 (by have := Hq.out.2.2.size; have := Hs1.out; omega) fun g e => by injection e with e; omega)
                clear hown9 hg9 hex
                go_wp2
                go_roundw
                case rel => exact ⟨k + 1, m + 1, _, by omega, by omega, by go_num, Ho9.out, HL9, HbW⟩
                case measure => simp [intOf]; omega
    · have k1 : (N : Int) ≤ (k : Int) := by omega
      have Hend : Hid (AreaPost id fs low high rs w (.returned (.slice Ao m co)) wr) := Lib.hid ⟨_, L, rfl, by rw [HL.out.1]; exact own_baseN Hown.out (by omega), HL.out.2.1, by have h := HL.out.2.2; rwa [List.take_of_length_le (by have := HN.out; omega)] at h, Hbw.out⟩
      go_wp2
      go_ret
      exact Hend.out
end
end Go.Proofs.YtknfjajmnlpfjaaGreat

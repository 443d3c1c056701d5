/- The rows of these keys, in new memory. Condition: the keys are in memory. -/
import Derived.Test.YtajombifjofmmaaGreatPlnJ
import Derived.Test.YtajombifjofmmaaGreatStep
namespace Go.Proofs.YtajombifjofmmaaGreat
open Go.RowKit
open Go.Lib (strCells compareBytes)

def rowCells : Kv (Value × List TVal) → List Value
  | [] => []
  | r :: l => encStr r.1 :: r.2.1 :: rowCells l
theorem rowCells_len : ∀ (l : Kv (Value × List TVal)), (rowCells l).length = l.length * 2
  | [] => rfl
  | x :: l => by simp [rowCells, rowCells_len l]; omega
theorem rowCells_app : ∀ (a b : Kv (Value × List TVal)), rowCells (a ++ b) = rowCells a ++ rowCells b
  | [], b => rfl
  | x :: a, b => by simp [rowCells, rowCells_app a b]
theorem rowCells_at : ∀ (l : Kv (Value × List TVal)) (i : Nat) (x : List UInt8 × Value × List TVal), l[i]? = some x → (rowCells l)[i * 2]? = some (encStr x.1) ∧ (rowCells l)[i * 2 + 1]? = some x.2.1
  | [], i, x, h => by simp at h
  | y :: l, 0, x, h => by
    simp at h
    subst h
    simp [rowCells]
  | y :: l, i + 1, x, h => by
    have ih := rowCells_at l i x (by simpa using h)
    rw [show (i + 1) * 2 = i * 2 + 1 + 1 from by omega]
    simpa [rowCells] using ih
theorem row_elem : ElemN Tryz.prog 57 2 40 (.agg #[.string ⟨#[]⟩, .slice none 0 0]) := ⟨by kernel_rfl, rfl⟩

/-- a slice value that owns these rows, down to their values, from block base on -/
def OwnRows (w : World) (base : Nat) (v : Value) (rs : Kv (Value × List TVal)) : Prop :=
  w.ownsRow base 57 2 v rs.length (rowCells rs) ∧ ∀ r ∈ rs, w.ownsRow base 55 3 r.2.1 r.2.2.length (valCells r.2.2)
def RowsIs (w : World) (base : Nat) (v : Value) (L : Kv (List TVal)) : Prop := ∃ rs, OwnRows w base v rs ∧ mapK (·.2) rs = L
theorem OwnRows.below {w w' : World} {base : Nat} {v : Value} {rs : Kv (Value × List TVal)} (h : OwnRows w base v rs) (hb : Below w.heap.size w w') : OwnRows w' base v rs := ⟨own_belowN h.1 hb, fun r hr => own_belowN (h.2 r hr) hb⟩
theorem OwnRows.nil (w : World) (base : Nat) : OwnRows w base (.slice none 0 0) [] := ⟨World.ownsRow_nil _ _ _ _, by simp⟩
/-- another row of rows may grow: it is of another type than the values -/
theorem OwnRows.grown {w w' : World} {base : Nat} {v : Value} {rs : Kv (Value × List TVal)} {m : Nat} {xs : List Value} (h : ∀ r ∈ rs, w.ownsRow base 55 3 r.2.1 r.2.2.length (valCells r.2.2)) (ho : w.ownsRow base 57 2 v m xs) (hg : w.grownBy w' v.ownBlock) :
    ∀ r ∈ rs, w'.ownsRow base 55 3 r.2.1 r.2.2.length (valCells r.2.2) := fun r hr => own_keep (h r hr) fun g hgr => hg.block g ((h r hr).lt g hgr).2 fun e => by
  obtain ⟨cur, hc⟩ := own_type (h r hr) hgr
  obtain ⟨cur', hc'⟩ := own_type ho e.symm
  rw [hc'] at hc
  injection hc with hc; injection hc with _ hc; exact absurd hc (by decide)

section
variable {B sb mb d : Nat} {ix : Value} {E : Kv (Value × List TVal)} {X : List Ix} {w : World}
set_option maxRecDepth 100000 in
/-- what stands under a key is found in whatever world behind -/
theorem Store.looks (h : Store w B sb mb ix E X d) (s : ByteArray) (hs : s.size ≤ maxLen) : ∃ A n c, n = (recOf s.data.toList E).length ∧ HasVals w w.heap.size A n (recOf s.data.toList E) ∧ ∀ wx, Below w.heap.size w wx →
    (Instr.lookup 59 (.map (some mb)) (.string s) false).run Tryz.prog wx = .ok (.slice A n c) wx := by
  obtain ⟨A, n, c, -, hl, -, -, hv⟩ := h.look s hs
  refine ⟨A, n, c, hv.1.symm, hv, fun wx hb => ?_⟩
  obtain ⟨A', n', c', -, hl', -, -, hv'⟩ := (h.below hb).look s hs
  rw [hl']
  have hz : ∀ W, (zeroValue 32).run Tryz.prog W = .ok (.slice none 0 0) W := Tryz.zeroValue32
  have hk := WideMaps.keyOf_string_mk Tryz.underlying9 hs
  obtain ⟨v1, ps1, hr1, hv1⟩ := h.own.lookup strKeyed Tryz.underlying59 (hz w) (zd := .held (.slice none 0 0)) rfl hk
  obtain ⟨v2, ps2, hr2, hv2⟩ := (h.below hb).own.lookup strKeyed Tryz.underlying59 (hz wx) (zd := .held (.slice none 0 0)) rfl hk
  simp only [Rv, Option.some.injEq, Prod.mk.injEq] at hv1 hv2
  have hv3 := hv1.1.trans hv2.1.symm
  injection hv3 with hv3
  have hr1 := Result.ok.inj (hl.symm.trans hr1)
  have hr2 := Result.ok.inj (hl'.symm.trans hr2)
  exact congrArg (fun v => Result.ok v wx) (hr2.1.trans (hv3.symm.trans hr1.1.symm))

set_option maxRecDepth 100000 in
set_option maxHeartbeats 3200000 in
theorem rows_any (h : Store w B sb mb ix E X d) (A : Option Addr) (n c C : Nat) (ks : List (List UInt8)) (hk : Has w C A n (strRow ks)) (hC : C ≤ w.heap.size) (hn : n ≤ 1000) (hks : ∀ k ∈ ks, k.length ≤ 1000) :
    Calls Tryz.prog 43 #[.pointer (some ⟨sb, 0, none⟩), .slice A n c] w fun e w' => ∃ v, e = .returned v ∧ RowsIs w' w.heap.size v (ks.map fun k => (k, recOf k E)) ∧ Below w.heap.size w w' := by
  have Hl : Hid (ks.length = n) := Lib.hid (by have := hk.1; simpa [strRow] using this)
  have Hk := Lib.hid hk
  have Hks := Lib.hid hks
  have H := Lib.hid h
  clear hk hks h
  go_enter Tryz.func43, Tryz.ntmps43
  go_wp2
  go_loopw [5, 7, 10] (fun lv _ i wr => ∃ (k : Nat) (rs : Kv (Value × List TVal)), k ≤ n ∧ i = .int .i64 (k : Int) ∧ rs.length = k ∧ wr.ownsRow w.heap.size 57 2 lv k (rowCells rs) ∧ Hid (∀ r ∈ rs, wr.ownsRow w.heap.size 55 3 r.2.1 r.2.2.length (valCells r.2.2)) ∧ Below w.heap.size w wr ∧ Hid (mapK (·.2) rs = (ks.take k).map fun k => (k, recOf k E))) (fun _ _ i _ => n - (intOf i).toNat)
  case atStart => exact ⟨0, [], by omega, rfl, rfl, World.ownsRow_nil _ _ _ _, Lib.hid (by simp), Below.refl _ _, Lib.hid rfl⟩
  case round =>
    obtain ⟨k, rs, hk, rfl, hrs, hown, Hrec, hb, Hm⟩ := hrel
    have Hown := Lib.hid hown
    have Hb := Lib.hid hb
    have Hrs := Lib.hid hrs
    have hsz := hb.size
    clear hown hb hrs
    by_cases hlt : k < n
    · obtain ⟨a, rfl, hab, hc0⟩ := (Hk.out.belowOf Hb.out hC).cell hlt
      have hkl : k < ks.length := by have := Hl.out; omega
      have e0 : (strRow ks).getD k undef = .string ⟨ks[k].toArray⟩ := by simp [strRow, hkl, encStr]
      rw [e0] at hc0
      have hkk := Hks.out ks[k] (List.getElem_mem hkl)
      have E1 : Hid (ks.take (k + 1) = ks.take k ++ [ks[k]]) := Lib.hid (by rw [List.take_succ_eq_append_getElem hkl])
      generalize ks[k] = key at hc0 hkk E1
      obtain ⟨s, hs⟩ : ∃ s : ByteArray, ⟨key.toArray⟩ = s := ⟨_, rfl⟩
      have Hkey : Hid (s.data.toList = key) := Lib.hid (by rw [← hs])
      have hss : s.size ≤ 1000 := by rw [Lib.size_eq, Hkey.out]; exact hkk
      rw [hs] at hc0
      have Hst := Lib.hid (H.out.below Hb.out)
      obtain ⟨Ar, nr, cr, hnr, hvr, hlk⟩ := Hst.out.looks s (by simp only [maxLen]; omega)
      have Hlk := Lib.hid hlk
      obtain ⟨g1, g2, g3⟩ := Hst.out.recGood s.data.toList
      have Hcl : Hid (∀ wx, Below wr.heap.size wr wx → Calls Tryz.prog 46 #[.slice Ar nr cr] wx fun e w' => ∃ v, e = .returned v ∧ w'.ownsRow wx.heap.size 55 3 v (recOf s.data.toList E).length (valCells (recOf s.data.toList E)) ∧ Below wx.heap.size wx w') := Lib.hid (fun wx hb =>
        recClone_any Ar nr cr wr.heap.size _ wx (hvr.below hb) (by omega) hb.size (fun u hu => by have := g3 u hu; omega))
      obtain ⟨q0, -, -, -, -, -⟩ := Hst.out.cells
      have hl0 := hlk wr.drew (below_drew _)
      have hk0 : (0 : Int) ≤ (k : Int) := by omega
      have hk1 : (k : Int) < (n : Int) := by omega
      clear hvr hlk g1 g2 g3 hkl e0 hkk hs hnr
      go_wp2
      go_region_held3 (fun wx => wx.cell? ⟨sb, 0, none⟩ = some (.map (some mb)))
        (first | assumption | exact q0 | exact keepcell (by assumption) (by assumption) | exact keepcell (below_alloc _ _) (by assumption) | exact (Store.below (by assumption) (by assumption)).cells.1 | exact keepA _ (by assumption))
        (first
          | (refine step_append_hasN (by rfl) _ _ _ (by rfl) 57 row_elem (by omega) Tryz.underlying33 (by rfl) (oD.alloc _) (by rfl) (Has.lit wR #[.string s, .slice Av (recOf s.data.toList E).length cv] _) (by intro u hu; simp at hu; rcases hu with rfl | rfl <;> rfl) (by simp only [maxLen]; omega) (by omega) (by simp; have := bD.size; omega) ?_; intro lA wA oA gA zA; have keepA : ∀ u, (wR.alloc _).cell? ⟨sb, 0, none⟩ = some u → wA.cell? ⟨sb, 0, none⟩ = some u := fun u hu => gA.cell hu (fun e => by have h1 := (Hown.out.lt sb e.symm).1; have h2 := H.out.lt.1; omega))
          | (go_at_call 48; refine (clone_any s _ (by omega)).mono ?_; rintro e wS ⟨rfl, bS⟩; have lkS := Hlk.out wS (Below.then (below_drew _) bS))
          | (go_at_call 46; refine (Hcl.out _ (Below.then (below_drew _) bS)).mono ?_; rintro e wR ⟨vR, rfl, oR, bR⟩; obtain ⟨Av, cv, rfl, -⟩ := own_sliceN oR; have bD : Below wr.heap.size wr wR := Below.then (Below.then (below_drew _) bS) bR; have oD := own_belowN Hown.out bD))
      all_goals
        have hrec' : ∀ r ∈ rs ++ [(key, .slice Av (recOf s.data.toList E).length cv, recOf s.data.toList E)], wA.ownsRow w.heap.size 55 3 r.2.1 r.2.2.length (valCells r.2.2) :=
          OwnRows.grown (fun r hr => by
            rcases List.mem_append.1 hr with hr | hr
            · exact (own_belowN (Hrec.out r hr) bD).alloc _
            · simp only [List.mem_singleton] at hr
              subst hr
              exact (own_baseN oR (by have := bS.size; simp at this; omega)).alloc _) (oD.alloc _) gA
        have Hrec' := Lib.hid hrec'
        have Hb' := Lib.hid (below_ownN ((Hb.out.trans (bD.mono hsz)).alloc (Nat.le_trans hsz bD.size) (.cells #[.string s, .slice Av (recOf s.data.toList E).length cv] 57)) (oD.alloc _) gA (by simp; have := bD.size; omega))
        clear hrec' oD oR gA zA keepA bD bS bR
        go_wp2
        go_roundw
        case rel =>
          refine ⟨k + 1, rs ++ [(key, .slice Av (recOf s.data.toList E).length cv, recOf s.data.toList E)], by omega, by go_num, by rw [List.length_append, Hrs.out]; rfl, ?_, Hrec', Hb'.out, Lib.hid ?_⟩
          · rw [rowCells_app, ← Hkey.out]
            exact oA
          · rw [E1.out, List.map_append, ← Hm.out, ← Hkey.out]
            simp [mapK]
        case measure => simp [intOf]; omega
    · have hkn : k = n := by omega
      have Hm' : Hid (mapK (·.2) rs = ks.map fun k => (k, recOf k E)) := Lib.hid (by rw [Hm.out, List.take_of_length_le (by have := Hl.out; omega)])
      go_wp2
      go_ret
      exact ⟨_, rfl, ⟨rs, ⟨by rw [Hrs.out]; exact Hown.out, Hrec.out⟩, Hm'.out⟩, Hb.out⟩
end
end Go.Proofs.YtajombifjofmmaaGreat

/- query gives the rows whose entries lie in the area, by their entries. Condition: low and high are right, and in memory. -/
import Derived.Test.YtknfjajmnlpfjaaGreatPlnJ
import Derived.Test.YtknfjajmnlpfjaaGreatStep
import Derived.Test.YtknfjajmnlpfjaaGreatRecE
import Derived.Test.YtknfjajmnlpfjaaGreatMdR
import Derived.Test.YtknfjajmnlpfjaaGreatPlnB
import Derived.Test.YtknfjajmnlpfjaaGreatMdT
namespace Go.Proofs.YtknfjajmnlpfjaaGreat
open Go.RowKit
open Go.Lib (strCells compareBytes)

def rowCells : Kv (Value × List TVal) → List Value
  | [] => []
  | r :: l => encStr r.1 :: r.2.1 :: rowCells l
theorem rowCells_len : ∀ (l : Kv (Value × List TVal)), (rowCells l).length = l.length * 2
  | [] => rfl
  | x :: l => by simp [rowCells, rowCells_len l]; omega
theorem rowCells_app : ∀ (a b : Kv (Value × List TVal)), rowCells (a ++ b) = rowCells a ++ rowCells b
  | [], b => rfl
  | x :: a, b => by simp [rowCells, rowCells_app a b]
theorem rowCells_at : ∀ (l : Kv (Value × List TVal)) (i : Nat) (x : List UInt8 × Value × List TVal), l[i]? = some x → (rowCells l)[i * 2]? = some (encStr x.1) ∧ (rowCells l)[i * 2 + 1]? = some x.2.1
  | [], i, x, h => by simp at h
  | y :: l, 0, x, h => by
    simp at h
    subst h
    simp [rowCells]
  | y :: l, i + 1, x, h => by
    have ih := rowCells_at l i x (by simpa using h)
    rw [show (i + 1) * 2 = i * 2 + 1 + 1 from by omega]
    simpa [rowCells] using ih
theorem row_elem : ElemN Tryz.prog 55 2 40 (.agg #[.string ⟨#[]⟩, .slice none 0 0]) := ⟨by kernel_rfl, rfl⟩

/-- a slice value that owns these rows, down to their values, from block base on -/
def OwnRows (w : World) (base : Nat) (v : Value) (rs : Kv (Value × List TVal)) : Prop :=
  w.ownsRow base 55 2 v rs.length (rowCells rs) ∧ ∀ r ∈ rs, w.ownsRow base 53 3 r.2.1 r.2.2.length (valCells r.2.2)
def RowsIs (w : World) (base : Nat) (v : Value) (L : Kv (List TVal)) : Prop := ∃ rs, OwnRows w base v rs ∧ mapK (·.2) rs = L
theorem OwnRows.below {w w' : World} {base : Nat} {v : Value} {rs : Kv (Value × List TVal)} (h : OwnRows w base v rs) (hb : Below w.heap.size w w') : OwnRows w' base v rs := ⟨own_belowN h.1 hb, fun r hr => own_belowN (h.2 r hr) hb⟩
theorem OwnRows.nil (w : World) (base : Nat) : OwnRows w base (.slice none 0 0) [] := ⟨World.ownsRow_nil _ _ _ _, by simp⟩
/-- another row of rows may grow: it is of another type than the values -/
theorem OwnRows.grown {w w' : World} {base : Nat} {v : Value} {rs : Kv (Value × List TVal)} {m : Nat} {xs : List Value} (h : ∀ r ∈ rs, w.ownsRow base 53 3 r.2.1 r.2.2.length (valCells r.2.2)) (ho : w.ownsRow base 55 2 v m xs) (hg : w.grownBy w' v.ownBlock) :
    ∀ r ∈ rs, w'.ownsRow base 53 3 r.2.1 r.2.2.length (valCells r.2.2) := fun r hr => own_keep (h r hr) fun g hgr => hg.block g ((h r hr).lt g hgr).2 fun e => by
  obtain ⟨cur, hc⟩ := own_type (h r hr) hgr
  obtain ⟨cur', hc'⟩ := own_type ho e.symm
  rw [hc'] at hc
  injection hc with hc; injection hc with _ hc; exact absurd hc (by decide)

section
variable {B sb mb d : Nat} {ix : Value} {E : Kv (Value × List TVal)} {X : List Ix} {w : World}
set_option maxRecDepth 100000 in
/-- what stands under a key is found in whatever world behind -/
theorem Store.looks (h : Store w B sb mb ix E X d) (s : ByteArray) (hs : s.size ≤ maxLen) : ∃ A n c, n = (recOf s.data.toList E).length ∧ HasVals w w.heap.size A n (recOf s.data.toList E) ∧ ∀ wx, Below w.heap.size w wx →
    (Instr.lookup 57 (.map (some mb)) (.string s) false).run Tryz.prog wx = .ok (.slice A n c) wx := by
  obtain ⟨A, n, c, -, hl, -, -, hv⟩ := h.look s hs
  refine ⟨A, n, c, hv.1.symm, hv, fun wx hb => ?_⟩
  obtain ⟨A', n', c', -, hl', -, -, hv'⟩ := (h.below hb).look s hs
  rw [hl']
  have hz : ∀ W, (zeroValue 32).run Tryz.prog W = .ok (.slice none 0 0) W := Tryz.zeroValue32
  have hk := WideMaps.keyOf_string_mk Tryz.underlying9 hs
  obtain ⟨v1, ps1, hr1, hv1⟩ := h.own.lookup strKeyed Tryz.underlying57 (hz w) (zd := .held (.slice none 0 0)) rfl hk
  obtain ⟨v2, ps2, hr2, hv2⟩ := (h.below hb).own.lookup strKeyed Tryz.underlying57 (hz wx) (zd := .held (.slice none 0 0)) rfl hk
  simp only [Rv, Option.some.injEq, Prod.mk.injEq] at hv1 hv2
  have hv3 := hv1.1.trans hv2.1.symm
  injection hv3 with hv3
  have hr1 := Result.ok.inj (hl.symm.trans hr1)
  have hr2 := Result.ok.inj (hl'.symm.trans hr2)
  exact congrArg (fun v => Result.ok v wx) (hr2.1.trans (hv3.symm.trans hr1.1.symm))

set_option maxRecDepth 100000 in
set_option maxHeartbeats 3200000 in
theorem rows_any (h : Store w B sb mb ix E X d) (A : Option Addr) (n c C : Nat) (ks : List (List UInt8)) (hk : Has w C A n (strRow ks)) (hC : C ≤ w.heap.size) (hn : n ≤ 1000) (hks : ∀ k ∈ ks, k.length ≤ 1000) :
    Calls Tryz.prog 40 #[.pointer (some ⟨sb, 0, none⟩), .slice A n c] w fun e w' => ∃ v, e = .returned v ∧ RowsIs w' w.heap.size v (ks.map fun k => (k, recOf k E)) ∧ Below w.heap.size w w' := by
  have Hl : Hid (ks.length = n) := Lib.hid (by have := hk.1; simpa [strRow] using this)
  have Hk := Lib.hid hk
  have Hks := Lib.hid hks
  have H := Lib.hid h
  clear hk hks h
  go_enter Tryz.func40, Tryz.ntmps40
  go_wp2
  go_loopw [5, 7, 10] (fun lv _ i wr => ∃ (k : Nat) (rs : Kv (Value × List TVal)), k ≤ n ∧ i = .int .i64 (k : Int) ∧ rs.length = k ∧ wr.ownsRow w.heap.size 55 2 lv k (rowCells rs) ∧ Hid (∀ r ∈ rs, wr.ownsRow w.heap.size 53 3 r.2.1 r.2.2.length (valCells r.2.2)) ∧ Below w.heap.size w wr ∧ Hid (mapK (·.2) rs = (ks.take k).map fun k => (k, recOf k E))) (fun _ _ i _ => n - (intOf i).toNat)
  case atStart => exact ⟨0, [], by omega, rfl, rfl, World.ownsRow_nil _ _ _ _, Lib.hid (by simp), Below.refl _ _, Lib.hid rfl⟩
  case round =>
    obtain ⟨k, rs, hk, rfl, hrs, hown, Hrec, hb, Hm⟩ := hrel
    have Hown := Lib.hid hown
    have Hb := Lib.hid hb
    have Hrs := Lib.hid hrs
    have hsz := hb.size
    clear hown hb hrs
    by_cases hlt : k < n
    · obtain ⟨a, rfl, hab, hc0⟩ := (Hk.out.belowOf Hb.out hC).cell hlt
      have hkl : k < ks.length := by have := Hl.out; omega
      have e0 : (strRow ks).getD k undef = .string ⟨ks[k].toArray⟩ := by simp [strRow, hkl, encStr]
      rw [e0] at hc0
      have hkk := Hks.out ks[k] (List.getElem_mem hkl)
      have E1 : Hid (ks.take (k + 1) = ks.take k ++ [ks[k]]) := Lib.hid (by rw [List.take_succ_eq_append_getElem hkl])
      generalize ks[k] = key at hc0 hkk E1
      obtain ⟨s, hs⟩ : ∃ s : ByteArray, ⟨key.toArray⟩ = s := ⟨_, rfl⟩
      have Hkey : Hid (s.data.toList = key) := Lib.hid (by rw [← hs])
      have hss : s.size ≤ 1000 := by rw [Lib.size_eq, Hkey.out]; exact hkk
      rw [hs] at hc0
      have Hst := Lib.hid (H.out.below Hb.out)
      obtain ⟨Ar, nr, cr, hnr, hvr, hlk⟩ := Hst.out.looks s (by simp only [maxLen]; omega)
      have Hlk := Lib.hid hlk
      obtain ⟨g1, g2, g3⟩ := Hst.out.recGood s.data.toList
      have Hcl : Hid (∀ wx, Below wr.heap.size wr wx → Calls Tryz.prog 45 #[.slice Ar nr cr] wx fun e w' => ∃ v, e = .returned v ∧ w'.ownsRow wx.heap.size 53 3 v (recOf s.data.toList E).length (valCells (recOf s.data.toList E)) ∧ Below wx.heap.size wx w') := Lib.hid (fun wx hb =>
        recClone_any Ar nr cr wr.heap.size _ wx (hvr.below hb) (by omega) hb.size (fun u hu => by have := g3 u hu; omega))
      obtain ⟨q0, -, -, -, -, -⟩ := Hst.out.cells
      have hl0 := hlk wr.drew (below_drew _)
      have hk0 : (0 : Int) ≤ (k : Int) := by omega
      have hk1 : (k : Int) < (n : Int) := by omega
      clear hvr hlk g1 g2 g3 hkl e0 hkk hs hnr
      go_wp2
      go_region_held3 (fun wx => wx.cell? ⟨sb, 0, none⟩ = some (.map (some mb)))
        (first | assumption | exact q0 | exact keepcell (by assumption) (by assumption) | exact keepcell (below_alloc _ _) (by assumption) | exact (Store.below (by assumption) (by assumption)).cells.1 | exact keepA _ (by assumption))
        (first
          | (refine step_append_hasN (by rfl) _ _ _ (by rfl) 55 row_elem (by omega) Tryz.underlying33 (by rfl) (oD.alloc _) (by rfl) (Has.lit wR #[.string s, .slice Av (recOf s.data.toList E).length cv] _) (by intro u hu; simp at hu; rcases hu with rfl | rfl <;> rfl) (by simp only [maxLen]; omega) (by omega) (by simp; have := bD.size; omega) ?_; intro lA wA oA gA zA; have keepA : ∀ u, (wR.alloc _).cell? ⟨sb, 0, none⟩ = some u → wA.cell? ⟨sb, 0, none⟩ = some u := fun u hu => gA.cell hu (fun e => by have h1 := (Hown.out.lt sb e.symm).1; have h2 := H.out.lt.1; omega))
          | (go_at_call 46; refine (clone_any s _ (by omega)).mono ?_; rintro e wS ⟨rfl, bS⟩; have lkS := Hlk.out wS (Below.then (below_drew _) bS))
          | (go_at_call 45; refine (Hcl.out _ (Below.then (below_drew _) bS)).mono ?_; rintro e wR ⟨vR, rfl, oR, bR⟩; obtain ⟨Av, cv, rfl, -⟩ := own_sliceN oR; have bD : Below wr.heap.size wr wR := Below.then (Below.then (below_drew _) bS) bR; have oD := own_belowN Hown.out bD))
      all_goals
        have hrec' : ∀ r ∈ rs ++ [(key, .slice Av (recOf s.data.toList E).length cv, recOf s.data.toList E)], wA.ownsRow w.heap.size 53 3 r.2.1 r.2.2.length (valCells r.2.2) :=
          OwnRows.grown (fun r hr => by
            rcases List.mem_append.1 hr with hr | hr
            · exact (own_belowN (Hrec.out r hr) bD).alloc _
            · simp only [List.mem_singleton] at hr
              subst hr
              exact (own_baseN oR (by have := bS.size; simp at this; omega)).alloc _) (oD.alloc _) gA
        have Hrec' := Lib.hid hrec'
        have Hb' := Lib.hid (below_ownN ((Hb.out.trans (bD.mono hsz)).alloc (Nat.le_trans hsz bD.size) (.cells #[.string s, .slice Av (recOf s.data.toList E).length cv] 55)) (oD.alloc _) gA (by simp; have := bD.size; omega))
        clear hrec' oD oR gA zA keepA bD bS bR
        go_wp2
        go_roundw
        case rel =>
          refine ⟨k + 1, rs ++ [(key, .slice Av (recOf s.data.toList E).length cv, recOf s.data.toList E)], by omega, by go_num, by rw [List.length_append, Hrs.out]; rfl, ?_, Hrec', Hb'.out, Lib.hid ?_⟩
          · rw [rowCells_app, ← Hkey.out]
            exact oA
          · rw [E1.out, List.map_append, ← Hm.out, ← Hkey.out]
            simp [mapK]
        case measure => simp [intOf]; omega
    · have hkn : k = n := by omega
      have Hm' : Hid (mapK (·.2) rs = ks.map fun k => (k, recOf k E)) := Lib.hid (by rw [Hm.out, List.take_of_length_le (by have := Hl.out; omega)])
      go_wp2
      go_ret
      exact ⟨_, rfl, ⟨rs, ⟨by rw [Hrs.out]; exact Hown.out, Hrec.out⟩, Hm'.out⟩, Hb.out⟩
end
end Go.Proofs.YtknfjajmnlpfjaaGreat

namespace Go.Proofs.YtknfjajmnlpfjaaGreat
open Go.RowKit
open Go.Lib (strCells compareBytes)

section
variable {W : World}
/-- slices.Sort on a row of texts of the call's own -/
theorem sort_any (B : Nat) (v : Value) (ss : List (List UInt8)) (h : W.ownsRow B 9 1 v ss.length (strRow ss)) (hn : ss.length ≤ 100000) :
    Calls Tryz.prog 39 #[v] W fun e w' => e = .returned (.tuple #[]) ∧ w'.ownsRow B 9 1 v ss.length (strRow (ss.mergeSort leB)) ∧ W.grownBy w' v.ownBlock := by
  rcases h.2 with ⟨rfl, hz⟩ | ⟨gb, cap, cur, rfl, hbase, hgb, r1, r2, r3, r4⟩
  · have hss : ss = [] := List.eq_nil_of_length_eq_zero hz
    subst hss
    refine (AnyM.slices_Sort_string_none Tryz.sort39 none 0 W).mono ?_
    rintro e w' ⟨rfl, rfl⟩
    exact ⟨rfl, by simpa using h, World.grownBy.refl _ _⟩
  · have hH : Sort.Holds encStr W gb 0 ss.toArray := holds_of_block hgb (by simpa [strRow] using r4)
    have hgl : gb < W.heap.size := (Array.getElem?_eq_some_iff.1 hgb).1
    refine (AnyM.slices_Sort_string Tryz.sort39 gb 0 cap ss W hH hgl (by omega)).mono ?_
    rintro e w' ⟨rfl, n, os, rfl⟩
    exact ⟨rfl, ownsRow_sorted (by simp) hbase hgb r1 r2 r3, grownBy_sorted _⟩
end

/-- the entry that a record shows an index -/
def entE (id : Int) (fs : List Int) (k : List UInt8) (r : List TVal) : Option (List UInt8) := (showT id fs r).map fun l => entryT id l k
def entsOf (id : Int) (fs : List Int) (M : Kv (List TVal)) : List (List UInt8) := M.filterMap fun p => entE id fs p.1 p.2
theorem filterMap_keys (f : List UInt8 → List TVal → Option (List UInt8)) : ∀ (E : Kv (Value × List TVal)), Rise E → (E.map (·.1)).filterMap (fun k => f k (recOf k E)) = (mapK (·.2) E).filterMap fun p => f p.1 p.2 := by
  intro E hr
  have h : ∀ (L : Kv (Value × List TVal)), (∀ p ∈ L, p ∈ E) → (L.map (·.1)).filterMap (fun k => f k (recOf k E)) = (mapK (·.2) L).filterMap fun p => f p.1 p.2 := by
    intro L
    induction L with
    | nil => intro _; rfl
    | cons p L ih =>
      intro hL
      have h1 : recOf p.1 E = p.2.2 := by
        unfold recOf
        rw [getK_of_mem hr (hL p (by simp))]
      have := ih (fun q hq => hL q (by simp [hq]))
      simp only [mapK, List.map_cons, List.filterMap_cons, h1] at this ⊢
      rw [this]
  exact h E (fun _ h => h)

section
variable {B sb mb d : Nat} {ix : Value} {E : Kv (Value × List TVal)} {X : List Ix} {w : World}
theorem Store.range (h : Store w B sb mb ix E X d) : ∃ w', (Instr.range 57 (.map (some mb))).run Tryz.prog w = .ok (.pointer (some ⟨w.heap.size, 0, none⟩)) w' ∧ w'.ranges Tryz.prog 9 Rv mb w.heap.size E.length (dmap (·.1) E) (Maps.has (dmap (·.1) E)) (Maps.size (dmap (·.1) E)) ∧ Below w.heap.size w w' := by
  obtain ⟨w', h1, h2, h3, _⟩ := h.own.range strKeyed Tryz.underlying57
  exact ⟨w', h1, h2, ⟨h3.os, h3.tape, h3.output, h3.size, fun i hi => h3.block i hi (by simp)⟩⟩
end

/-- THE STEP of a range over the store's map -/
theorem wpList_next_store {ops : Array Oper} {rest : List Oper} {o : Oper} {a : Act} {Q : Exit → Act → World → Prop} (w : World) (hg : o.guard = none) (it : Operand) (hop : o.op = Op.next it false) {mb r n cnt : Nat} {E : Kv (Value × List TVal)} {left : Lit → Bool}
    (hit : a.eval it = .pointer (some ⟨r, 0, none⟩)) (h : w.ranges Tryz.prog 9 Rv mb r n (dmap (·.1) E) left cnt) (hs : ∀ p ∈ E, ∃ A n c, p.2.1 = .slice A n c)
    (hDone : cnt = 0 → (∀ kl, left kl = false) → wpList Tryz.prog ops Q rest (a.put o.dst (.tuple #[.bool false])) w)
    (hMore : ∀ (s : ByteArray) (A : Option Addr) (n' c : Nat) (l : List TVal) (w' : World) (cnt' : Nat), getK s.data.toList E = some (.slice A n' c, l) → left (.string s.data.toList) = true → w'.ranges Tryz.prog 9 Rv mb r n (dmap (·.1) E) (fun z => left z && !z.sameKey (.string s.data.toList)) cnt' → cnt' < cnt →
      w.grownBy w' (some r) → w'.heap.size = w.heap.size → (Instr.entry (.pointer (some ⟨r, 0, none⟩))).run Tryz.prog w' = .ok (.tuple #[.string s, .slice A n' c]) w' → wpList Tryz.prog ops Q rest (a.put o.dst (.tuple #[.bool true, .string s, .slice A n' c])) w') :
    wpList Tryz.prog ops Q (o :: rest) a w := by
  refine wpList_plain hg fun K' hK' => ?_
  unfold Oper.wp
  rcases h.next strKeyed o.type with ⟨h0, hl, hrun⟩ | ⟨key, v, kl, y, w', cnt', hkey, hlk, hv, hat, hrun, hrg, hlt, hgr, hsz, hen⟩
  · simp [execOp, hop, hit, hrun, Result.andThen]
    exact hK' _ _ (hDone h0 hl)
  · obtain ⟨x, rfl, rfl, _⟩ := Maps.keyOf_str Tryz.underlying9 hkey
    have hy : y.1 = .held v := by
      simp only [Rv, Option.some.injEq] at hv
      rw [← hv]
    have h1 := hat (.nil)
    rw [dmap_at] at h1
    cases hgk : getK x E with
    | none => rw [hgk, hy] at h1; cases h1
    | some p =>
      rw [hgk, hy] at h1
      simp only [DataW.held.injEq] at h1
      obtain ⟨p1, p2⟩ := p
      obtain ⟨A, n', c, hp⟩ := hs _ (getK_mem hgk)
      simp only at h1 hp
      subst h1
      subst hp
      simp [execOp, hop, hit, hrun, Result.andThen]
      have e : (⟨x.toArray⟩ : ByteArray).data.toList = x := by simp
      exact hK' _ _ (hMore ⟨x.toArray⟩ A n' c p2 w' cnt' (by rw [e]; exact hgk) (by rw [e]; exact hlk) (by rw [e]; exact hrg) hlt hgr hsz hen)

theorem str_elem : Elem Tryz.prog 9 16 (.string ⟨#[]⟩) := ⟨by kernel_rfl, rfl⟩
theorem showL_mem {r : List TVal} : ∀ {l : List Int} {m : List TVal}, showL r l = some m → ∀ u ∈ m, u ∈ r
  | [], m, h, u, hu => by
    simp [showL] at h
    subst h
    simp at hu
  | x :: l, m, h, u, hu => by
    unfold showL at h
    cases hx : r[x.toNat]? with
    | none => rw [hx] at h; cases h
    | some v =>
      rw [hx] at h
      simp only at h
      by_cases hv : v.k = 0
      · simp [hv] at h
      · simp only [hv, if_false] at h
        cases hl : showL r l with
        | none => rw [hl] at h; cases h
        | some m' =>
          rw [hl] at h
          simp only [Option.map_some, Option.some.injEq] at h
          subst h
          rcases List.mem_cons.1 hu with rfl | hu
          · exact List.mem_of_getElem? hx
          · exact showL_mem hl u hu
theorem showT_mem {id : Int} {fs : List Int} {r m : List TVal} (h : showT id fs r = some m) : ∀ u ∈ m, u ∈ r := by
  unfold showT at h
  split at h
  · exact showL_mem h
  · cases h
theorem Below.grown0 {w w' : World} (h : Below w.heap.size w w') : w.grownBy w' none := ⟨h.os, h.tape, h.output, h.size, fun i hi _ => h.block i hi⟩
def esOf (id : Int) (fs : List Int) (E : Kv (Value × List TVal)) (ss : List (List UInt8)) : List (List UInt8) := ss.filterMap fun k => entE id fs k (recOf k E)
theorem esOf_snoc {id : Int} {fs : List Int} {E : Kv (Value × List TVal)} {ss : List (List UInt8)} {k : List UInt8} : esOf id fs E (ss ++ [k]) = esOf id fs E ss ++ (entE id fs k (recOf k E)).toList := by
  simp only [esOf, List.filterMap_append, List.filterMap_cons, List.filterMap_nil]
  cases entE id fs k (recOf k E) <;> rfl
theorem esOf_len (id : Int) (fs : List Int) (E : Kv (Value × List TVal)) (ss : List (List UInt8)) : (esOf id fs E ss).length ≤ ss.length := List.length_filterMap_le _ _

section
variable {B sb mb d : Nat} {ix : Value} {E : Kv (Value × List TVal)} {X : List Ix} {w : World}
/-- what Shown tells -/
def shownT (id : Int) (X : List Ix) (M : Kv (List TVal)) : List (List UInt8) :=
  match X[posI id X]? with
  | some x => (entsOf id x.fs M).mergeSort leB
  | none => []
set_option maxRecDepth 100000 in
set_option maxHeartbeats 3200000 in
theorem shown_any (h : Store w B sb mb ix E X d) (id : Int) (hE : E.length ≤ 1000) :
    Calls Tryz.prog 12 #[.pointer (some ⟨sb, 0, none⟩), .int .i64 id] w fun e w' => ∃ v, e = .returned v ∧ w'.ownsRow w.heap.size 9 1 v (shownT id X (mapK (·.2) E)).length (strRow (shownT id X (mapK (·.2) E))) ∧ Below w.heap.size w w' := by
  by_cases hp : posI id X < X.length
  · obtain ⟨x, hx, hnum⟩ := posI_some hp
    have Efind : Hid (findT id X = (posI id X : Int)) := Lib.hid (by unfold findT; rw [if_pos hp])
    have Hsh : Hid (shownT id X (mapK (·.2) E) = (entsOf id x.fs (mapK (·.2) E)).mergeSort leB) := Lib.hid (by unfold shownT; rw [hx])
    generalize posI id X = p at hp hx Efind
    have H := Lib.hid h
    have Hx := Lib.hid hx
    have Hnum := Lib.hid hnum
    have HE := Lib.hid hE
    have hss : Hid (∀ q ∈ E, ∃ A n c, q.2.1 = .slice A n c) := Lib.hid (fun q hq => by obtain ⟨A, c, e, _⟩ := own_sliceN (h.recs q hq); exact ⟨A, _, c, e⟩)
    obtain ⟨Ai, ci, rfl, hci1, hci2, -⟩ := own_sliceN h.irow
    have Hci := Lib.hid (And.intro hci1 hci2)
    have hp1 : (0 : Int) ≤ (p : Int) := by omega
    have hp2 : (p : Int) < (X.length : Int) := by omega
    clear h hx hnum hE hci1 hci2
    go_enter Tryz.func12, Tryz.ntmps12
    go_wp2_with fail
    refine (find_any id H.out).mono ?_
    rintro e w1 ⟨rfl, hb1⟩
    rw [Efind.out]
    have H1 := Lib.hid (H.out.below hb1)
    obtain ⟨q0, -, -, -, -, -⟩ := H1.out.cells
    obtain ⟨w2, hrun, hrg, hb2⟩ := H1.out.range
    have Hb2 := Lib.hid (Below.then hb1 hb2)
    have H2 := Lib.hid (H1.out.below hb2)
    have hsz1 := hb1.size
    have Hw1 := Lib.hid hb1
    have hsz2 : w1.heap.size + 1 ≤ w2.heap.size := hrg.lt
    clear hb1
    have hrg0 := Lib.hid hrg
    clear hrg
    go_wp2
    go_loopw [6] (fun lv wr => ∃ (left : Lit → Bool) (cnt : Nat) (ss : List (List UInt8)), wr.ranges Tryz.prog 9 Rv mb w1.heap.size E.length (dmap (·.1) E) left cnt ∧ Hid (Collected (dmap (fun a : Value × List TVal => a.1) E) left ss) ∧ Hid (ss.length + cnt ≤ E.length) ∧ Hid (wr.ownsRow (w1.heap.size + 1) 9 1 lv (esOf id x.fs E ss).length (strRow (esOf id x.fs E ss))) ∧ Hid (Below w1.heap.size w1 wr) ∧ Hid (w1.heap.size + 1 ≤ wr.heap.size)) (fun _ wr => wr.rangeLeft mb w1.heap.size)
    case atStart => exact ⟨_, _, [], hrg0.out, Lib.hid (Collected.start _), Lib.hid (by rw [dmap_size]; simp), Lib.hid (World.ownsRow_nil _ _ _ _), Lib.hid hb2, Lib.hid hsz2⟩
    case round =>
      obtain ⟨left, cnt, ss, hrg, HC, Hcnt, Hrow, Hb, Hsz⟩ := hrel
      go_wp2_with (first
        | (at_next; refine wpList_next_store _ rfl _ rfl rfl hrg hss.out ?_ ?_)
        | go_in)
      · intro hc0 hl0
        have hperm : (esOf id x.fs E ss).Perm (entsOf id x.fs (mapK (·.2) E)) := by
          have h1 := HC.out.perm hrg.owns strKeyed Tryz.underlying9 hl0
          rw [dmap_keys] at h1
          rw [entsOf, ← filterMap_keys (fun k r => entE id x.fs k r) E H.out.rise]
          exact h1.filterMap _
        have Hs : Hid (shownT id X (mapK (·.2) E) = (esOf id x.fs E ss).mergeSort leB) := Lib.hid (by rw [Hsh.out, mergeSort_of_perm hperm])
        clear hperm hc0 hl0 HC hrg
        go_wp2_with fail
        refine (sort_any _ _ _ Hrow.out (by have := esOf_len id x.fs E ss; have := Hcnt.out; have := HE.out; omega)).mono ?_
        rintro e w5 ⟨rfl, ho5, hg5⟩
        have Ho5 := Lib.hid ho5
        have Hb5 : Hid (Below w.heap.size w w5) := Lib.hid (((show Below w.heap.size w w1 from Hw1.out).trans (Hb.out.mono hsz1)).grown hg5 (by have := Hsz.out; omega) (fun k hk => by have := (Hrow.out.lt k hk).1; omega))
        clear ho5 hg5
        go_wp2
        go_ret
        refine ⟨_, rfl, ?_, Hb5.out⟩
        rw [Hs.out, List.length_mergeSort]
        exact own_base Ho5.out (by omega)
      · intro s A n c l w3 cnt3 hget hlk hrg3 hlt hg3 hs3 hen
        have Hmem := Lib.hid (getK_mem hget)
        have HC3 := Lib.hid (HC.out.step hlk (y := .held (.slice A n c)) (fun zd => by rw [dmap_at, hget]))
        have hrec : recOf s.data.toList E = l := by unfold recOf; rw [hget]
        have Hb3 : Hid (Below w1.heap.size w1 w3) := Lib.hid (Hb.out.grown hg3 Hb.out.size (fun k hk => by injection hk with hk; omega))
        have H3 := Lib.hid (H1.out.below Hb3.out)
        have Hrow3 : Hid (w3.ownsRow (w1.heap.size + 1) 9 1 u6 (esOf id x.fs E ss).length (strRow (esOf id x.fs E ss))) := Lib.hid (Hrow.out.kept hg3 (.inr (fun e => by have := (Hrow.out.lt _ e).1; omega)))
        have Hsz3 : Hid (w1.heap.size + 1 ≤ w3.heap.size) := Lib.hid (by rw [hs3]; exact Hsz.out)
        have Hrg3 := Lib.hid hrg3
        have Hlt : Hid (cnt3 < wr.rangeLeft mb w1.heap.size) := Lib.hid (by rw [hrg.left_eq]; exact hlt)
        have Hcnt3 : Hid ((ss ++ [s.data.toList]).length + cnt3 ≤ E.length) := Lib.hid (by have := Hcnt.out; rw [List.length_append]; simp; omega)
        obtain ⟨-, c1, -, -, -, -⟩ := H3.out.cells
        obtain ⟨a, x', rfl, -, hx', i0, i1⟩ := ix_at (Has.of_ownN H3.out.irow) rfl hp
        rw [Hx.out] at hx'
        injection hx' with hx'
        subst hx'
        rw [Hnum.out] at i0
        obtain ⟨Af, cf, ef, hf1, hf2, hf⟩ := intcells_slice (H3.out.flds x (List.mem_of_getElem? Hx.out))
        rw [ef] at i1
        obtain ⟨A', c', e', hn1, hn2, hvals⟩ := own_sliceN (H3.out.recs _ Hmem.out)
        have e2' : (Value.slice A n c) = .slice A' l.length c' := e'
        injection e2' with e1 e2 e3
        subst e1
        subst e2
        subst e3
        have hgood := (H3.out.good _ Hmem.out).1
        have Hcall := Lib.hid (shows_any id Af A x.fs.length cf l.length c _ x.fs l w3 hf ⟨rfl, hvals⟩ (by omega) (Nat.le_trans hn1 hn2) (Nat.le_refl _) hgood.2)
        clear e' hlk hrg hrg3 hlt hg3 hs3 hget hf hf1 hf2 hn1 hn2 hvals hgood ef HC Hrow Hcnt Hb Hsz
        cases hsh : showT id x.fs l with
        | none =>
          have Hes : Hid (esOf id x.fs E (ss ++ [s.data.toList]) = esOf id x.fs E ss) := Lib.hid (by rw [esOf_snoc, hrec, entE, hsh]; simp)
          rw [hsh] at Hcall
          clear hsh hrec
          go_wp2_with fail
          refine Hcall.out.mono ?_
          rintro e w4 ⟨rfl, hb4⟩
          have Hb4 := Lib.hid hb4
          have Hrg4 := Lib.hid (Hrg3.out.kept (Below.grown0 hb4) (by simp) (by simp))
          have Hrow4 := Lib.hid (own_below Hrow3.out hb4)
          clear hb4
          go_wp2
          go_roundw
          case rel => exact ⟨_, cnt3, ss ++ [s.data.toList], Hrg4.out, HC3, Hcnt3, Lib.hid (by rw [Hes.out]; exact Hrow4.out), Lib.hid (Hb3.out.trans (Hb4.out.mono Hb3.out.size)), Lib.hid (Nat.le_trans Hsz3.out Hb4.out.size)⟩
          case measure => rw [Hrg4.out.left_eq]; exact Hlt.out
        | some m =>
          have Hes : Hid (esOf id x.fs E (ss ++ [s.data.toList]) = esOf id x.fs E ss ++ [entryT id m s.data.toList]) := Lib.hid (by rw [esOf_snoc, hrec, entE, hsh]; rfl)
          have Hmi := Lib.hid (fun u hu => (H3.out.good _ Hmem.out).1.2 u (showT_mem hsh u hu))
          rw [hsh] at Hcall
          clear hsh hrec
          go_wp2_with fail
          refine Hcall.out.mono ?_
          rintro e w4 ⟨v, rfl, ho4, hb4⟩
          obtain ⟨Av, cv, rfl, hv1, hv2, hv3⟩ := own_sliceN ho4
          have Hent := Lib.hid (entry_any id Av m.length cv _ m s w4 ⟨rfl, hv3⟩ (by omega) (Nat.le_refl _) Hmi.out)
          unfold textErr at Hent
          have Hb4 := Lib.hid hb4
          clear hb4 hv1 hv2 hv3 ho4
          go_wp2_with fail
          refine Hent.out.mono ?_
          rintro e w5 ⟨rfl, hb5⟩
          have Hb5 := Lib.hid (Below.then Hb4.out hb5)
          have Hrg5 := Lib.hid (Hrg3.out.kept (Below.grown0 Hb5.out) (by simp) (by simp))
          have Hrow5 := Lib.hid (own_below Hrow3.out Hb5.out)
          have Hsz5 : Hid (w1.heap.size + 1 ≤ w5.heap.size) := Lib.hid (Nat.le_trans Hsz3.out Hb5.out.size)
          have Hlen : Hid ((esOf id x.fs E ss).length ≤ 1000) := Lib.hid (by have := esOf_len id x.fs E ss; have h1 := Hcnt3.out; rw [List.length_append] at h1; have := HE.out; omega)
          clear hb5
          go_wp2_with (at_builtin; refine wpList_append_has rfl (.tmp 48) (.tmp 50) _ rfl 9 str_elem Tryz.underlying41 rfl (Hrow5.out.alloc _) rfl (Has.lit w5 #[encStr (entryT id m s.data.toList)] _) (one_string _) (by have := Hlen.out; simp only [maxLen]; simp; omega) (by have := Hlen.out; simp; omega) (by have := Hsz5.out; simp; omega) ?_; intro v6 w6 hown6 hg6 hz6)
          have Hrg6 := Lib.hid ((Hrg5.out.alloc _).kept hg6 (fun e => by have := (Hrow5.out.lt _ e.symm).1; have := H1.out.lt.2; omega) (fun e => by have := (Hrow5.out.lt _ e.symm).1; omega))
          have Hb6 : Hid (Below w1.heap.size w1 w6) := Lib.hid (below_own ((Hb3.out.trans (Hb5.out.mono Hb3.out.size)).alloc (by have := Hsz5.out; omega) _) (own_base (Hrow5.out.alloc _) (by omega : w1.heap.size ≤ _)) hg6 (by have := Hsz5.out; simp; omega))
          have Hsz6 : Hid (w1.heap.size + 1 ≤ w6.heap.size) := Lib.hid (Nat.le_trans (Nat.le_trans Hsz5.out (le_alloc (Nat.le_refl _) _)) hg6.size)
          have Hown6 := Lib.hid hown6
          clear hg6 hz6 hown6
          go_roundw
          case rel =>
            refine ⟨_, cnt3, ss ++ [s.data.toList], Hrg6.out, HC3, Hcnt3, Lib.hid ?_, Hb6, Hsz6⟩
            rw [Hes.out, strRow, List.map_append, List.length_append]
            exact Hown6.out
          case measure => rw [Hrg6.out.left_eq]; exact Hlt.out
  · have Efind : Hid (findT id X = -1) := Lib.hid (by unfold findT; rw [if_neg hp])
    have Hsh : Hid (shownT id X (mapK (·.2) E) = []) := Lib.hid (by unfold shownT; rw [List.getElem?_eq_none (by omega)])
    have H := Lib.hid h
    clear h hp
    go_enter Tryz.func12, Tryz.ntmps12
    go_wp2_with fail
    refine (find_any id H.out).mono ?_
    rintro e w1 ⟨rfl, hb1⟩
    rw [Efind.out]
    go_wp2
    go_ret
    exact ⟨_, rfl, by rw [Hsh.out]; exact World.ownsRow_nil _ _ _ _, hb1⟩
end
end Go.Proofs.YtknfjajmnlpfjaaGreat

namespace Go.Proofs.YtknfjajmnlpfjaaGreat
open Go.RowKit
open Go.Lib (strCells compareBytes)

theorem entryErr_zero {id : Int} {l : List TVal} {key : List UInt8} (h : entryErr id l key = 0) : isIdB id = true ∧ 1 ≤ l.length ∧ l.length ≤ 2 ∧ rowErr l = 0 ∧ l.all notNull = true ∧ keyOk key = true := by
  unfold entryErr at h
  by_cases h1 : isIdB id = false ∨ l.length = 0
  · rw [if_pos h1] at h; omega
  · rw [if_neg h1] at h
    by_cases h2 : 2 < l.length
    · rw [if_pos h2] at h; omega
    · rw [if_neg h2] at h
      by_cases h3 : rowErr l ≠ 0
      · rw [if_pos h3] at h; exact absurd h h3
      · rw [if_neg h3] at h
        by_cases h4 : (l.all notNull && keyOk key) = true
        · simp only [Bool.and_eq_true] at h4
          refine ⟨?_, ?_, by omega, by omega, h4.1, h4.2⟩
          · cases hb : isIdB id with
            | true => rfl
            | false => exact absurd (.inl hb) h1
          · have : ¬ l.length = 0 := fun e => h1 (.inr e)
            omega
        · rw [if_neg h4] at h; omega

set_option maxRecDepth 100000 in
set_option maxHeartbeats 3200000 in
theorem parse_ok (s : ByteArray) (id : Int) (m : List TVal) (key : List UInt8) (w : World) (hs : s.data.toList = entryT id m key) (he : entryErr id m key = 0) (hi : ∀ u ∈ m, InI64 u.n) :
    Calls Tryz.prog 50 #[.string s] w fun e w' => ∃ v, e = .returned (.tuple #[.int .i64 id, v, .string ⟨key.toArray⟩, .int .i64 0]) ∧ w'.ownsRow w.heap.size 53 3 v m.length (valCells m) ∧ Below w.heap.size w w' := by
  obtain ⟨h1, h2, h3, h4, h5, h6⟩ := entryErr_zero he
  have hid : 1 ≤ id ∧ id ≤ 6 := by unfold isIdB at h1; simpa using h1
  rw [entryT, if_pos he, idT] at hs
  have hg : AllGood m := allGood_of h4 hi
  have hkl : key.length ≤ 16 := by unfold keyOk at h6; simp at h6; exact h6.2
  have hsz : s.size = (keyL m).length + key.length + 3 := by rw [Lib.size_eq, hs]; simp; omega
  have hml := keyL_len (fun v hv => (hg v hv).1)
  have hs300 : s.size ≤ 300 := by omega
  have hs2 : 2 < s.size := by omega
  have b0 : s[0] = 0 := by rw [byte_at s 0 (by omega), hs]; rfl
  obtain ⟨k, rfl⟩ : ∃ k : Nat, id = (k : Int) := ⟨id.toNat, by omega⟩
  have b1 : s[1] = UInt8.ofNat k := by rw [byte_at s 1 (by omega), hs]; rfl
  have b1' : (UInt8.ofNat k).toNat = k := u8_ofNat_toNat (by omega)
  have hor : bits BinOp.or IntKind.i64 0 (k : Int) = (k : Int) := by
    have : k = 1 ∨ k = 2 ∨ k = 3 ∨ k = 4 ∨ k = 5 ∨ k = 6 := by omega
    rcases this with rfl | rfl | rfl | rfl | rfl | rfl <;> decide
  obtain ⟨t, ht⟩ : ∃ t, s.extract 2 s.size = t := ⟨_, rfl⟩
  have htl : t.data.toList = keyL m ++ 0 :: key := by rw [← ht, extract_end, hs]; simp
  have Hcut : Hid (∀ wx, Calls Tryz.prog 87 #[.string t] wx (CutPost (.ok m (0 :: key)) wx)) := Lib.hid (fun wx => by
    have h := cut_any t wx (by rw [Lib.size_eq, htl]; simp; omega)
    rw [htl, cutL_key m 4 (0 :: key) hg (by omega) rfl] at h
    exact h)
  have Hid' := Lib.hid h1
  have Hm2 := Lib.hid h2
  have Hm3 := Lib.hid h3
  have Hnn := Lib.hid h5
  have Hko := Lib.hid h6
  have Hkl := Lib.hid hkl
  clear hs he hg hkl hsz hml htl h1 h2 h3 h4 h5 h6
  go_enter Tryz.func50, Tryz.ntmps50
  go_wp2
  go_quiet (fail)
  go_wp2_with fail
  refine (isId_any _ _).mono ?_
  rintro e w1 ⟨rfl, rfl⟩
  rw [Hid'.out]
  go_wp2_with fail
  refine (Hcut.out _).mono ?_
  rintro e w2 ⟨v, rfl, ho2, hb2⟩
  obtain ⟨Av, cv, rfl, hv1, hv2, hv3⟩ := own_sliceN ho2
  have Hb2 : Hid (Below w.heap.size w w2) := Lib.hid ((below_drews (Below.refl _ w) nq).trans hb2)
  have Ho2 : Hid (w2.ownsRow w.heap.size 53 3 (.slice Av m.length cv) m.length (valCells m)) := Lib.hid ho2
  have Hnull := Lib.hid (containsNull_any Av m.length cv _ m w2 ⟨rfl, hv3⟩ (Nat.le_trans hv1 hv2) (Nat.le_refl _))
  rw [Hnn.out] at Hnull
  have hm0 : ((m.length : Int) == 0) = false := by have := Hm2.out; rw [beq_eq_false_iff_ne]; omega
  have hm2 : ¬ (2 : Int) < (m.length : Int) := by have := Hm3.out; omega
  clear hv1 hv2 hv3 ho2 hb2
  go_wp2_with fail
  refine Hnull.out.mono ?_
  rintro e w3 ⟨rfl, hb3⟩
  have Hb3 := Lib.hid (Below.then Hb2.out hb3)
  have Ho3 := Lib.hid (own_belowN Ho2.out hb3)
  obtain ⟨r, hr⟩ : ∃ r : ByteArray, (⟨(0 :: key).toArray⟩ : ByteArray) = r := ⟨_, rfl⟩
  have hrl : r.data.toList = 0 :: key := by rw [← hr]
  have hr1 : r.size = key.length + 1 := by rw [Lib.size_eq, hrl]; rfl
  have hr0 : (r.toList == []) = false := by rw [Lib.toList_data, hrl]; rfl
  have hrs : r.size ≤ 17 := by have := Hkl.out; omega
  have hrp : 1 ≤ r.size := by omega
  obtain ⟨q, hq⟩ : ∃ q, r.extract 1 r.size = q := ⟨_, rfl⟩
  have Hq : Hid (q = ⟨key.toArray⟩) := Lib.hid (by rw [← hq, extract_end, hrl]; rfl)
  have Hkey := Lib.hid (fun wx => recKey_any q wx)
  rw [hr]
  clear hb3 hrl hr1 hr
  go_wp2_with fail
  refine (Hkey.out _).mono ?_
  rintro e w4 ⟨rfl, rfl⟩
  have hko : keyOk q.data.toList = true := by rw [Hq.out]; exact Hko.out
  rw [hko]
  go_wp2
  go_quiet (fail)
  go_wp2
  refine bodyPost_ret (v := .tuple #[.int .i64 k, .slice Av m.length cv, .string q, .int .i64 0]) ?_ rfl ⟨_, by rw [Hq.out], ?_, ?_⟩
  · simp [results, Tryz.results50, go_sem]
  · exact Ho3.out
  · first | exact Hb3.out | exact below_drews Hb3.out _
end Go.Proofs.YtknfjajmnlpfjaaGreat

namespace Go.Proofs.YtknfjajmnlpfjaaGreat
open Go.RowKit
open Go.Lib (strCells compareBytes)

/-- the record's key of an entry whose values lie in the area -/
def hitK (low high : List TVal) (e : List UInt8) : Option (List UInt8) :=
  match cutL 4 (e.drop 2) with
  | .ok m (_ :: k) => if liesB m low high then some k else none
  | _ => none
theorem hitK_entry {id : Int} {m low high : List TVal} {k : List UInt8} (he : entryErr id m k = 0) (hi : ∀ u ∈ m, InI64 u.n) : hitK low high (entryT id m k) = if liesB m low high then some k else none := by
  obtain ⟨-, -, h3, h4, -, -⟩ := entryErr_zero he
  unfold hitK
  rw [entryT, if_pos he, idT]
  have e : (([0, UInt8.ofNat id.toNat] ++ keyL m ++ 0 :: k : List UInt8).drop 2) = keyL m ++ 0 :: k := by simp
  rw [e, cutL_key m 4 (0 :: k) (allGood_of h4 hi) (by omega) rfl]
theorem showL_notNull {r : List TVal} : ∀ {l : List Int} {m : List TVal}, showL r l = some m → m.all notNull = true
  | [], m, h => by
    simp [showL] at h
    subst h
    rfl
  | x :: l, m, h => by
    unfold showL at h
    cases hx : r[x.toNat]? with
    | none => rw [hx] at h; cases h
    | some v =>
      rw [hx] at h
      simp only at h
      by_cases hv : v.k = 0
      · simp [hv] at h
      · simp only [hv, if_false] at h
        cases hl : showL r l with
        | none => rw [hl] at h; cases h
        | some m' =>
          rw [hl] at h
          simp only [Option.map_some, Option.some.injEq] at h
          subst h
          simp [List.all_cons, showL_notNull hl, notNull, hv]
/-- what is shown makes an entry without error -/
theorem show_entry {id : Int} {fs : List Int} {r m : List TVal} {k : List UInt8} (hr : GoodRec r) (h : showT id fs r = some m) (hk : keyOk k = true) : entryErr id m k = 0 ∧ ∀ u ∈ m, InI64 u.n := by
  have hmem := showT_mem h
  unfold showT at h
  split at h
  · rename_i hc
    obtain ⟨hc1, hc2⟩ := hc
    have hlen := showL_len h
    have hidx : isIdB id = true ∧ 1 ≤ fs.length ∧ fs.length ≤ 2 := by
      unfold idxErr at hc1
      by_cases e1 : isIdB id = false ∨ fs.length = 0
      · rw [if_pos e1] at hc1; omega
      · rw [if_neg e1] at hc1
        by_cases e2 : 2 < fs.length
        · rw [if_pos e2] at hc1; omega
        · refine ⟨?_, ?_, by omega⟩
          · cases hb : isIdB id with
            | true => rfl
            | false => exact absurd (.inl hb) e1
          · have : ¬ fs.length = 0 := fun e => e1 (.inr e)
            omega
    have hrow : rowErr m = 0 := rowErr_ok.2 ⟨by omega, fun v hv => (rowErr_ok.1 hr.row).2 v (hmem v hv)⟩
    refine ⟨?_, fun u hu => hr.2 u (hmem u hu)⟩
    unfold entryErr
    rw [if_neg (by rw [hidx.1]; simp; intro e; rw [e] at hlen; simp at hlen; omega), if_neg (by omega), if_neg (by omega), if_pos (by simp [showL_notNull h, hk])]
  · cases h
def rowsT (M : Kv (List TVal)) (ks : List (List UInt8)) : Kv (List TVal) := ks.map fun k => (k, (getK k M).getD [])
def queryT (id : Int) (X : List Ix) (low high : List TVal) (lim : Nat) (M : Kv (List TVal)) : Kv (List TVal) := rowsT M (((shownT id X M).filterMap (hitK low high)).take lim)
theorem recOf_map (E : Kv (Value × List TVal)) (k : List UInt8) : recOf k E = (getK k (mapK (·.2) E)).getD [] := by
  rw [mapK_get]
  unfold recOf
  cases getK k E <;> rfl
theorem OwnRows.base {w : World} {b b' : Nat} {v : Value} {rs : Kv (Value × List TVal)} (h : OwnRows w b v rs) (hb : b' ≤ b) : OwnRows w b' v rs := ⟨own_baseN h.1 hb, fun r hr => own_baseN (h.2 r hr) hb⟩
theorem RowsIs.base {w : World} {b b' : Nat} {v : Value} {L : Kv (List TVal)} (h : RowsIs w b v L) (hb : b' ≤ b) : RowsIs w b' v L := by
  obtain ⟨rs, h1, h2⟩ := h
  exact ⟨rs, h1.base hb, h2⟩
theorem RowsIs.slice {w : World} {b : Nat} {v : Value} {L : Kv (List TVal)} (h : RowsIs w b v L) : ∃ A c, v = .slice A L.length c := by
  obtain ⟨rs, h1, h2⟩ := h
  obtain ⟨A, c, e, _⟩ := own_sliceN h1.1
  have : rs.length = L.length := by rw [← h2]; simp [mapK]
  exact ⟨A, c, by rw [e, this]⟩
/-- rows in other blocks than g stay behind the stores into g -/
theorem rows5 {w W : World} {b g : Nat} {v : Value} {L : Kv (List TVal)} {x' y' z' u' v' : Value} (h : RowsIs w b v L) (hg : g < b) (hW : ((((w.setCell ⟨g, 0, none⟩ x').setCell ⟨g, 1, none⟩ y').setCell ⟨g, 2, none⟩ z').setCell ⟨g, 3, none⟩ u').setCell ⟨g, 4, none⟩ v' = W) : RowsIs W b v L := by
  obtain ⟨rs, h1, h2⟩ := h
  exact ⟨rs, ⟨own5 h1.1 hg hW, fun r hr => own5 (h1.2 r hr) hg hW⟩, h2⟩

section
variable {B sb mb d : Nat} {ix : Value} {E : Kv (Value × List TVal)} {X : List Ix} {w : World}
/-- each entry that is shown is that of a record -/
theorem shown_mem {id : Int} (h : Store w B sb mb ix E X d) {e : List UInt8} (he : e ∈ shownT id X (mapK (·.2) E)) : ∃ m k, e = entryT id m k ∧ entryErr id m k = 0 ∧ (∀ u ∈ m, InI64 u.n) ∧ k.length ≤ 16 := by
  unfold shownT at he
  cases hx : X[posI id X]? with
  | none => rw [hx] at he; simp at he
  | some x =>
    rw [hx] at he
    simp only at he
    rw [(List.mergeSort_perm _ _).mem_iff, entsOf, List.mem_filterMap] at he
    obtain ⟨p, hp, hpe⟩ := he
    simp only [mapK, List.mem_map] at hp
    obtain ⟨q, hq, rfl⟩ := hp
    unfold entE at hpe
    cases hs : showT id x.fs q.2.2 with
    | none => rw [hs] at hpe; cases hpe
    | some m =>
      rw [hs] at hpe
      simp only [Option.map_some, Option.some.injEq] at hpe
      obtain ⟨hg, hk⟩ := h.good q hq
      obtain ⟨h1, h2⟩ := show_entry hg hs hk
      exact ⟨m, q.1, hpe.symm, h1, h2, by unfold keyOk at hk; simp at hk; exact hk.2⟩
end
end Go.Proofs.YtknfjajmnlpfjaaGreat

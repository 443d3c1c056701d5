/- The document's Entry of layer 4, where nothing is wrong. Condition: rows are in memory. -/
import Derived.Test.YtknfjajmnlpfjaaGreatMdJ
import Derived.Test.YtknfjajmnlpfjaaGreatMdH
import Derived.Test.YtknfjajmnlpfjaaGreatMdC
import Derived.Test.YtknfjajmnlpfjaaGreatMdT
namespace Go.Proofs.YtknfjajmnlpfjaaGreat

/-- declare answers alike, and the indexes stay alike -/
theorem decl_plain {FF : List (List Int)} {fs : List Int} (h6 : FF.length ≤ 6) (hf : fs ≠ []) : (if FF.length = 6 then ((⟨17, false, [], [], 0⟩ : Ans), twinFrom 0 FF, FF.length) else (⟨0, false, [], [], (FF.length : Int) + 1⟩, twinFrom 0 FF ++ [((FF.length : Int) + 1, fs)], FF.length + 1)) = ((declR fs FF).1, twinFrom 0 (declR fs FF).2, (declR fs FF).2.length) := by
  unfold declR
  by_cases h : FF.length = 6
  · rw [if_pos h, if_pos (by omega)]
  · rw [if_neg h, if_neg (by omega)]
    simp only [twin_app fs hf, List.length_append, List.length_cons, List.length_nil]
    rw [show (0 : Int) + (FF.length : Int) + 1 = (FF.length : Int) + 1 from by omega]
end Go.Proofs.YtknfjajmnlpfjaaGreat

namespace Go.Proofs.YtknfjajmnlpfjaaGreat
open Go.RowKit
open Go.Lib (strCells compareBytes)

/-- the indexes of those places that are not empty -/
def twinX (a : Int) : List (Value × List Int) → List Ix
  | [] => []
  | x :: l => if x.2 = [] then twinX (a + 1) l else ⟨a + 1, x.1, x.2⟩ :: twinX (a + 1) l
theorem twinX_app (x : Value × List Int) : ∀ (l : List (Value × List Int)) (a : Int), twinX a (l ++ [x]) = twinX a l ++ (if x.2 = [] then [] else [⟨a + l.length + 1, x.1, x.2⟩])
  | [], a => by by_cases h : x.2 = [] <;> simp [twinX, h]
  | y :: l, a => by
    have ih := twinX_app x l (a + 1)
    have e : a + 1 + (l.length : Int) + 1 = a + ((y :: l).length : Nat) + 1 := by simp only [List.length_cons]; omega
    rw [e] at ih
    simp only [List.cons_append, twinX]
    by_cases hy : y.2 = []
    · rw [if_pos hy, if_pos hy, ih]
    · rw [if_neg hy, if_neg hy, ih, List.cons_append]
theorem twinX_xi : ∀ (l : List (Value × List Int)) (a : Int), (twinX a l).map xi = twinFrom a (l.map (·.2))
  | [], _ => rfl
  | y :: l, a => by
    have ih := twinX_xi l (a + 1)
    simp only [List.map_cons, twinX, twinFrom]
    by_cases hy : y.2 = []
    · rw [if_pos hy, if_pos hy, ih]
    · rw [if_neg hy, if_neg hy, List.map_cons, ih, xi]
theorem twinX_mem : ∀ (l : List (Value × List Int)) (a : Int), ∀ x ∈ twinX a l, (x.v, x.fs) ∈ l
  | [], a, x, hx => by simp [twinX] at hx
  | y :: l, a, x, hx => by
    unfold twinX at hx
    by_cases hy : y.2 = []
    · rw [if_pos hy] at hx
      exact List.mem_cons_of_mem _ (twinX_mem l (a + 1) x hx)
    · rw [if_neg hy] at hx
      rcases List.mem_cons.1 hx with rfl | hx
      · exact List.mem_cons_self
      · exact List.mem_cons_of_mem _ (twinX_mem l (a + 1) x hx)
section
variable {w : World} {B tb : Nat} {rv xv : Value} {rs : Kv (Value × List TVal)} {F : List (Value × List Int)}
set_option maxRecDepth 100000 in
set_option maxHeartbeats 3200000 in
theorem refIndexes_any (h : RSt w B tb rv xv rs F) :
    Calls Tryz.prog 18 #[.pointer (some ⟨tb, 0, none⟩)] w fun e w' => ∃ v, e = .returned v ∧ w'.ownsRow w.heap.size 74 2 v (twinX 0 F).length (ixCells (twinX 0 F)) ∧ Below w.heap.size w w' := by
  have hxr := h.xrow
  obtain ⟨n, hn⟩ : ∃ n, F.length = n := ⟨_, rfl⟩
  have hn6 : n ≤ 6 := by rw [← hn]; exact h.few
  rw [hn] at hxr
  obtain ⟨Ax, cx, rfl, -⟩ := own_slice hxr
  have H := Lib.hid h
  have Hn := Lib.hid hn
  clear h hxr hn
  go_enter Tryz.func18, Tryz.ntmps18
  go_wp2
  go_loopw [3, 4] (fun lv i wr => ∃ (k m : Nat), k ≤ n ∧ m ≤ k ∧ i = .int .i64 (k : Int) ∧ wr.ownsRow w.heap.size 74 2 lv m (ixCells (twinX 0 (F.take k))) ∧ Hid ((twinX 0 (F.take k)).length = m) ∧ Below w.heap.size w wr) (fun _ i _ => n - (intOf i).toNat)
  case atStart => exact ⟨0, 0, by omega, by omega, rfl, World.ownsRow_nil _ _ _ _, Lib.hid rfl, Below.refl _ _⟩
  case round =>
    obtain ⟨k, m, hk, hmk, rfl, hown, Hm, hb⟩ := hrel
    obtain ⟨Al, cl, rfl, -⟩ := own_sliceN hown
    have Hown := Lib.hid hown
    have Hb := Lib.hid hb
    have HR := Lib.hid (H.out.below hb)
    have c1 := HR.out.cells.2.1
    have k0 : (0 : Int) ≤ (k : Int) := by omega
    clear hown hb
    by_cases hkn : k < n
    · have k1 : (k : Int) < (n : Int) := by omega
      have hkl : k < F.length := by have := Hn.out; omega
      have hx : F[k]? = some F[k] := List.getElem?_eq_getElem hkl
      have E1 : Hid (twinX 0 (F.take (k + 1)) = twinX 0 (F.take k) ++ (if F[k].2 = [] then [] else [⟨(k : Int) + 1, F[k].1, F[k].2⟩])) := Lib.hid (by
        rw [List.take_succ_eq_append_getElem hkl, twinX_app, List.length_take, show (0 : Int) + ((min k F.length : Nat) : Int) + 1 = (k : Int) + 1 from by omega])
      generalize F[k] = x at hx E1
      by_cases h0 : x.2 = []
      · have Hcall := Lib.hid (refIndex_none HR.out ((k : Int) + 1) (by
          unfold idxF
          rw [if_pos (by omega), show ((k : Int) + 1 - 1).toNat = k from by omega, List.getElem?_map, hx]
          simp [h0]) (by unfold InI64; omega))
        rw [if_pos h0, List.append_nil] at E1
        clear hx hkl
        go_wp2_with fail
        refine Hcall.out.mono ?_
        rintro e w1 ⟨rfl, hb1⟩
        have O1 := Lib.hid (own_belowN Hown.out hb1)
        have B1 : Hid (Below w.heap.size w w1) := Lib.hid (Hb.out.trans (hb1.mono Hb.out.size))
        clear hb1 Hcall c1
        go_wp2
        go_roundw
        case rel => exact ⟨k + 1, m, by omega, by omega, by go_num, by rw [E1.out]; exact own_belowN O1.out (below_alloc _ _), Lib.hid (by rw [E1.out]; exact Hm.out), B1.out.trans ((below_alloc _ _).mono B1.out.size)⟩
        case measure => simp [intOf]; omega
      · have Hcall := Lib.hid (refIndex_some HR.out k x hx h0)
        have hxf := HR.out.flds x (List.mem_of_getElem? hx)
        obtain ⟨Ag, cg, eg, -⟩ := own_slice hxf
        obtain ⟨zg, hzg⟩ : ∃ z, x.2.length = z := ⟨_, rfl⟩
        rw [hzg] at eg
        rw [eg] at Hcall E1
        rw [if_neg h0] at E1
        clear hx hkl hxf
        go_wp2_with fail
        refine Hcall.out.mono ?_
        rintro e w1 ⟨rfl, hb1⟩
        have O1 := Lib.hid (own_belowN Hown.out hb1)
        have B1 : Hid (Below w.heap.size w w1) := Lib.hid (Hb.out.trans (hb1.mono Hb.out.size))
        clear hb1
        obtain ⟨wa, hwa⟩ : ∃ y, w1.alloc (.cells #[.int .i64 ((k : Int) + 1), .slice Ag zg cg] 74) = y := ⟨_, rfl⟩
        have Oa : Hid (wa.ownsRow w.heap.size 74 2 (.slice Al m cl) m (ixCells (twinX 0 (F.take k)))) := Lib.hid (own_belowN O1.out (hwa ▸ below_alloc _ _))
        have Ba : Hid (Below w.heap.size w wa) := Lib.hid (B1.out.trans ((hwa ▸ below_alloc _ _ : Below w1.heap.size w1 wa).mono B1.out.size))
        have bxa : Box wa w1.heap.size 74 #[.int .i64 ((k : Int) + 1), .slice Ag zg cg] := hwa ▸ Box.made _ _ _
        have ca0 := bxa.cell 0
        have ca1 := bxa.cell 1
        clear bxa
        obtain ⟨wl, hwl⟩ : ∃ y, wa.alloc (.cells #[.int .i64 ((k : Int) + 1), .slice Ag zg cg] 74) = y := ⟨_, rfl⟩
        have Ol : Hid (wl.ownsRow w.heap.size 74 2 (.slice Al m cl) m (ixCells (twinX 0 (F.take k)))) := Lib.hid (own_belowN Oa.out (hwl ▸ below_alloc _ _))
        have Bl : Hid (Below w.heap.size w wl) := Lib.hid (Ba.out.trans ((hwl ▸ below_alloc _ _ : Below wa.heap.size wa wl).mono Ba.out.size))
        have Hl : Hid (Has wl (wa.heap.size + 1) (some ⟨wa.heap.size, 0, none⟩) (1 * 2) [.int .i64 ((k : Int) + 1), .slice Ag zg cg]) := Lib.hid (hwl ▸ Has.lit wa #[.int .i64 ((k : Int) + 1), .slice Ag zg cg] _)
        have hm6 : m ≤ 6 := by omega
        clear c1 Hcall
        go_wp2_with (at_builtin; (try rw [hwl]); refine wpList_append_hasN rfl (.tmp 24) (.tmp 26) _ rfl 74 idx_elem (by omega) Tryz.underlying49 rfl Ol.out (by first | rfl | (rw [← hwa]; rfl)) Hl.out (by intro u hu; simp at hu; rcases hu with rfl | rfl <;> rfl) (by simp only [maxLen]; omega) (by omega) Bl.out.size ?_; intro v3 x4 ho3 hg3 hz3; have B4 : Hid (Below w.heap.size w x4) := Lib.hid (Bl.out.grown hg3 Bl.out.size (fun g e => (Ol.out.lt g e).1)); have O3 : Hid (x4.ownsRow w.heap.size 74 2 v3 (m + 1) (ixCells (twinX 0 (F.take (k + 1))))) := Lib.hid (by rw [E1.out, ixCells_app]; exact ho3); clear ho3 hg3 hz3)
        go_roundw
        case rel => exact ⟨k + 1, m + 1, by omega, by omega, by go_num, O3.out, Lib.hid (by rw [E1.out, List.length_append, Hm.out]; rfl), B4.out⟩
        case measure => simp [intOf]; omega
    · have k1 : (n : Int) ≤ (k : Int) := by omega
      have E : Hid (F.take k = F) := Lib.hid (List.take_of_length_le (by have := Hn.out; omega))
      rw [E.out] at Hown Hm
      go_wp2
      go_ret
      exact ⟨_, rfl, by rw [Hm.out]; exact Hown.out, Hb.out⟩
end
end Go.Proofs.YtknfjajmnlpfjaaGreat

namespace Go.Proofs.YtknfjajmnlpfjaaGreat

theorem ins_low {α : Type} {l : Kv α} {k : Nat} {e : List UInt8} (h : Rise l) (hk : k = 0 ∨ ∃ y, l[k - 1]? = some y ∧ ¬ e < y.1 ∧ y.1 ≠ e) : ∀ x ∈ l.take k, x.1 < e := by
  intro x hx
  rcases hk with rfl | ⟨y, hy, h1, h2⟩
  · simp at hx
  · have hye : y.1 < e := by
      rcases lt_tri y.1 e with h3 | h3 | h3
      · exact h3
      · exact absurd h3 h2
      · exact absurd h3 h1
    obtain ⟨i, hi, he⟩ := List.getElem_of_mem hx
    obtain ⟨hk1, hky⟩ := List.getElem?_eq_some_iff.1 hy
    rw [List.length_take] at hi
    rw [List.getElem_take] at he
    by_cases hik : i = k - 1
    · subst hik
      rw [← he, hky]
      exact hye
    · have hlt := (List.pairwise_iff_getElem.1 h) i (k - 1) (by omega) hk1 (by omega)
      rw [he, hky] at hlt
      exact List.lt_trans hlt hye
theorem ins_rise {α : Type} {l : Kv α} {k : Nat} {e : List UInt8} {b : α} (h : Rise l) (hd : ∀ x ∈ l.drop k, e < x.1) (ht : ∀ x ∈ l.take k, x.1 < e) : Rise (l.take k ++ (e, b) :: l.drop k) := by
  have h0 := h
  unfold Rise at h0 ⊢
  rw [← List.take_append_drop k l, List.pairwise_append] at h0
  rw [List.pairwise_append]
  refine ⟨h0.1, List.pairwise_cons.2 ⟨hd, h0.2.1⟩, fun x hx y hy => ?_⟩
  rcases List.mem_cons.1 hy with rfl | hy
  · exact ht x hx
  · exact h0.2.2 x hx y hy
theorem ins_perm {α : Type} (l : Kv α) (k : Nat) (x : List UInt8 × α) : (l.take k ++ x :: l.drop k).Perm (l ++ [x]) := by
  refine List.perm_middle.trans ?_
  rw [List.take_append_drop]
  exact (List.perm_append_singleton x l).symm
/-- rows that rise and are these, in some order, have these texts sorted -/
theorem ins_sort {α : Type} {l m : Kv α} (h : Rise l) (hp : l.Perm m) : (m.map (·.1)).mergeSort (fun x y => decide (x ≤ y)) = l.map (·.1) :=
  sort_rise ((hp.map _).symm) (rise_keys h)
end Go.Proofs.YtknfjajmnlpfjaaGreat

namespace Go.Proofs.YtknfjajmnlpfjaaGreat
open Go.RowKit
open Go.Lib (strCells compareBytes)

/-- does a record show the index something in the area? -/
def hitB (id : Int) (fs : List Int) (low high : List TVal) (r : List TVal) : Bool := match showT id fs r with | some m => liesB m low high | none => false
theorem Stands.goods {w : World} {B sb mb : Nat} {S : PSt} (h : Stands w B sb mb S) : (∀ p ∈ S.1, GoodRec p.2 ∧ keyOk p.1 = true) ∧ Rise S.1 ∧ S.2.1.Pairwise (fun x y => x.1 < y.1) := by
  obtain ⟨ix, E, X, h1, h2, h3⟩ := h
  refine ⟨fun p hp => ?_, ?_, ?_⟩
  · rw [← h2] at hp
    obtain ⟨q, hq, rfl⟩ := List.mem_map.1 hp
    exact h1.good q hq
  · rw [← h2]
    exact (rise_map _).2 h1.rise
  · rw [← h3, List.pairwise_map]
    exact h1.ids
theorem hit_filter {id : Int} {fs : List Int} {low high : List TVal} : ∀ (M : Kv (List TVal)), (∀ p ∈ M, GoodRec p.2 ∧ keyOk p.1 = true) → (entsOf id fs M).filterMap (hitK low high) = (M.filter fun p => hitB id fs low high p.2).map (·.1)
  | [], _ => rfl
  | p :: M, h => by
    have ih := hit_filter (id := id) (fs := fs) (low := low) (high := high) M fun q hq => h q (by simp [hq])
    obtain ⟨hg, hk⟩ := h p (by simp)
    unfold entsOf at ih ⊢
    cases hs : showT id fs p.2 with
    | none =>
      have e1 : entE id fs p.1 p.2 = none := by unfold entE; rw [hs]; rfl
      have e2 : hitB id fs low high p.2 = false := by unfold hitB; rw [hs]
      rw [List.filterMap_cons_none (f := fun p : List UInt8 × List TVal => entE id fs p.1 p.2) (a := p) e1, List.filter_cons_of_neg (by simp [e2])]
      exact ih
    | some m =>
      obtain ⟨h1, h2⟩ := show_entry hg hs hk
      have e1 : entE id fs p.1 p.2 = some (entryT id m p.1) := by unfold entE; rw [hs]; rfl
      have e2 : hitB id fs low high p.2 = liesB m low high := by unfold hitB; rw [hs]
      have e3 := hitK_entry (low := low) (high := high) h1 h2
      rw [List.filterMap_cons_some (f := fun p : List UInt8 × List TVal => entE id fs p.1 p.2) (a := p) e1]
      by_cases hl : liesB m low high = true
      · rw [List.filterMap_cons_some (by rw [e3, if_pos hl]), List.filter_cons_of_pos (by rw [e2]; exact hl), List.map_cons, ih]
      · rw [List.filterMap_cons_none (by rw [e3, if_neg hl]), List.filter_cons_of_neg (by rw [e2]; exact hl)]
        exact ih
theorem rowsT_self {M L : Kv (List TVal)} (hM : Rise M) (hL : ∀ p ∈ L, p ∈ M) : rowsT M (L.map (·.1)) = L := by
  unfold rowsT
  rw [List.map_map]
  conv => rhs; rw [← List.map_id L]
  refine List.map_congr_left fun p hp => ?_
  simp only [Function.comp, getK_of_mem hM (show (p.1, p.2) ∈ M from hL p hp)]
  rfl
/-- an index's place, if it is there -/
theorem idxT_at {id : Int} : ∀ {I : List (Int × List Int)}, idxT id I < I.length → ∃ fs, I[idxT id I]? = some (id, fs)
  | [], h => by simp at h
  | x :: l, h => by
    unfold idxT at h ⊢
    by_cases e : x.1 = id
    · rw [if_pos e]
      exact ⟨x.2, by simp [← e]⟩
    · rw [if_neg e] at h ⊢
      obtain ⟨fs, hf⟩ := idxT_at (id := id) (I := l) (by simpa using h)
      exact ⟨fs, by simpa using hf⟩
theorem query_plain {S : PSt} (hg : ∀ p ∈ S.1, GoodRec p.2 ∧ keyOk p.1 = true) (hr : Rise S.1) (id : Int) (low high : List TVal) (hl : S.1.length ≤ 60) :
    ((queryA id S.2.1 low high 64 S.1).code ≠ 0 ∧ (queryA id S.2.1 low high 64 S.1).rows = []) ∨
    ((queryA id S.2.1 low high 64 S.1).code = 0 ∧ ∃ fs, S.2.1[idxT id S.2.1]? = some (id, fs) ∧ ((queryA id S.2.1 low high 64 S.1).rows).Perm (S.1.filter fun p => hitB id fs low high p.2)) := by
  unfold queryA
  by_cases h : idxT id S.2.1 < S.2.1.length
  · rw [if_pos h]
    obtain ⟨fs, hf⟩ := idxT_at h
    refine .inr ⟨rfl, fs, hf, ?_⟩
    have hp : ((shownI id S.2.1 S.1).filterMap (hitK low high)).Perm ((S.1.filter fun p => hitB id fs low high p.2).map (·.1)) := by
      unfold shownI
      rw [hf]
      rw [← hit_filter S.1 hg]
      exact (List.mergeSort_perm _ _).filterMap _
    have hlen := hp.length_eq
    rw [List.length_map] at hlen
    have h2 : (S.1.filter fun p => hitB id fs low high p.2).length ≤ S.1.length := List.length_filter_le _ _
    dsimp only
    rw [List.take_of_length_le (by omega)]
    have h3 : (rowsT S.1 ((shownI id S.2.1 S.1).filterMap (hitK low high))).Perm (rowsT S.1 ((S.1.filter fun p => hitB id fs low high p.2).map (·.1))) := hp.map _
    rwa [rowsT_self hr fun p hp => (List.mem_filter.1 hp).1] at h3
  · rw [if_neg h]
    exact .inl ⟨by simp, rfl⟩
/-- of all indexes just one has the number -/
theorem idx_count {I : List (Int × List Int)} (hI : I.Pairwise fun x y => x.1 < y.1) {id : Int} {fs : List Int} (h : I[idxT id I]? = some (id, fs)) (f : List Int → Bool) : (I.filter fun x => decide (x.1 = id) && f x.2).length = if f fs then 1 else 0 := by
  induction I with
  | nil => simp at h
  | cons x l ih =>
    have hx := List.pairwise_cons.1 hI
    unfold idxT at h
    by_cases e : x.1 = id
    · rw [if_pos e] at h
      simp at h
      have h0 : l.filter (fun y => decide (y.1 = id) && f y.2) = [] := by
        rw [List.filter_eq_nil_iff]
        intro y hy
        have := hx.1 y hy
        have : y.1 ≠ id := by omega
        simp [this]
      rw [List.filter_cons, h0]
      subst h
      by_cases hf : f fs <;> simp [hf]
    · rw [if_neg e] at h
      rw [List.filter_cons, if_neg (by simp [e])]
      exact ih hx.2 (by simpa using h)
def queryOp (id : Int) (low high : List TVal) : TOp := ⟨6, ⟨#[]⟩, ⟨#[]⟩, [], [], id, [], low, high, 64, 0, 0⟩
theorem step_query (S : PSt) (id : Int) (low high : List TVal) : stepT S (queryOp id low high) = S := by
  unfold stepT doT
  by_cases h : checkT (queryOp id low high) = 0
  · rw [if_neg (by rw [h]; simp), if_neg (by simp [queryOp]), if_neg (by simp [queryOp]), if_neg (by simp [queryOp]), if_neg (by simp [queryOp]), if_neg (by simp [queryOp]), if_pos (by simp [queryOp])]
  · rw [if_pos h]
theorem query_ans {S : PSt} (hg : ∀ p ∈ S.1, GoodRec p.2 ∧ keyOk p.1 = true) (hr : Rise S.1) (id : Int) (low high : List TVal) (hl : S.1.length ≤ 60) {a : Ans} (ha : (doT (queryOp id low high) S.1 S.2.1 S.2.2).1 = a) :
    (a.code ≠ 0 ∧ a.rows = []) ∨ (a.code = 0 ∧ ∃ fs, S.2.1[idxT id S.2.1]? = some (id, fs) ∧ (a.rows).Perm (S.1.filter fun p => hitB id fs low high p.2)) := by
  unfold doT at ha
  by_cases h : checkT (queryOp id low high) = 0
  · rw [if_neg (by rw [h]; simp), if_neg (by simp [queryOp]), if_neg (by simp [queryOp]), if_neg (by simp [queryOp]), if_neg (by simp [queryOp]), if_neg (by simp [queryOp]), if_pos (by simp [queryOp])] at ha
    subst ha
    exact query_plain hg hr id low high hl
  · rw [if_pos h] at ha
    subst ha
    exact .inl ⟨by simpa using h, rfl⟩
theorem Stands.few {w : World} {B sb mb : Nat} {S : PSt} (h : Stands w B sb mb S) : S.2.1.length ≤ 6 := by
  obtain ⟨ix, E, X, h1, h2, h3⟩ := h
  rw [← h3, List.length_map]
  exact h1.few
/-- the index that has the number is the one that is found -/
theorem hit_id {I : List (Int × List Int)} (hI : I.Pairwise fun x y => x.1 < y.1) {id num : Int} {fs gs : List Int} {low high r : List TVal} {b : Nat} (h : I[idxT id I]? = some (id, fs)) (hb : I[b]? = some (num, gs)) (e : num = id) : hitB id gs low high r = hitB id fs low high r := by
  subst e
  obtain ⟨h1, e1⟩ := List.getElem?_eq_some_iff.1 h
  obtain ⟨h2, e2⟩ := List.getElem?_eq_some_iff.1 hb
  have hp := List.pairwise_iff_getElem.1 hI
  have hbi : b = idxT num I := by
    rcases Nat.lt_trichotomy b (idxT num I) with hlt | heq | hgt
    · have := hp _ _ h2 h1 hlt
      rw [e1, e2] at this
      simp at this
    · exact heq
    · have := hp _ _ h1 h2 hgt
      rw [e1, e2] at this
      simp at this
  subst hbi
  rw [h] at hb
  injection hb with hb
  injection hb with _ hb
  rw [hb]
end Go.Proofs.YtknfjajmnlpfjaaGreat

namespace Go.Proofs.YtknfjajmnlpfjaaGreat

/-- an entry, with the row that it is of -/
def areaE (id : Int) (fs : List Int) (low high : List TVal) (p : List UInt8 × List TVal) : Option (List UInt8 × List UInt8 × List TVal) :=
  match showT id fs p.2 with
  | some m => if liesB m low high then some (entryT id m p.1, p) else none
  | none => none
def areaK (id : Int) (fs : List Int) (low high : List TVal) (M : Kv (List TVal)) : Kv (List UInt8 × List TVal) := M.filterMap (areaE id fs low high)
/-- the same, over rows as they lie in memory -/
def areaX (id : Int) (fs : List Int) (low high : List TVal) (x : List UInt8 × Value × List TVal) : Option (List UInt8 × List UInt8 × Value × List TVal) :=
  match showT id fs x.2.2 with
  | some m => if liesB m low high then some (entryT id m x.1, x) else none
  | none => none
def areaV (id : Int) (fs : List Int) (low high : List TVal) (rs : Kv (Value × List TVal)) : Kv (List UInt8 × Value × List TVal) := rs.filterMap (areaX id fs low high)
def plainP (p : List UInt8 × List UInt8 × Value × List TVal) : List UInt8 × List UInt8 × List TVal := (p.1, p.2.1, p.2.2.2)
theorem areaV_plain (id : Int) (fs : List Int) (low high : List TVal) : ∀ (rs : Kv (Value × List TVal)), (areaV id fs low high rs).map plainP = areaK id fs low high (mapK (·.2) rs)
  | [] => rfl
  | x :: l => by
    have ih := areaV_plain id fs low high l
    unfold areaV areaK at ih ⊢
    have e : areaE id fs low high (x.1, x.2.2) = (areaX id fs low high x).map plainP := by
      unfold areaE areaX
      cases showT id fs x.2.2 with
      | none => rfl
      | some m =>
        simp only
        by_cases h : liesB m low high = true
        · rw [if_pos h, if_pos h]; rfl
        · rw [if_neg h, if_neg h]; rfl
    have em : mapK (·.2) (x :: l) = (x.1, x.2.2) :: mapK (·.2) l := rfl
    rw [em, List.filterMap_cons, List.filterMap_cons, e]
    cases areaX id fs low high x with
    | none => exact ih
    | some y => simp only [Option.map_some, List.map_cons]; rw [ih]
theorem liesB_nil {m : List TVal} (h : rowErr m = 0) : liesB m [] [] = true := by
  unfold liesB
  have h0 : rowErr [] = 0 := rfl
  have h1 : 0 ≤ cmpRow m [] := by cases m <;> simp [cmpRow]
  simp [h, h0, h1, cmpRow]
theorem entry_key {id : Int} {m m' : List TVal} {k k' : List UInt8} (he : entryErr id m k = 0) (hi : ∀ u ∈ m, InI64 u.n) (he' : entryErr id m' k' = 0) (hi' : ∀ u ∈ m', InI64 u.n) (h : entryT id m k = entryT id m' k') : k = k' := by
  have h1 := hitK_entry (low := []) (high := []) he hi
  have h2 := hitK_entry (low := []) (high := []) he' hi'
  rw [if_pos (liesB_nil (entryErr_zero he).2.2.2.1)] at h1
  rw [if_pos (liesB_nil (entryErr_zero he').2.2.2.1)] at h2
  rw [h, h2] at h1
  injection h1 with h1
  exact h1.symm
theorem areaE_some {id : Int} {fs : List Int} {low high : List TVal} {p : List UInt8 × List TVal} {y : List UInt8 × List UInt8 × List TVal} (h : areaE id fs low high p = some y) : ∃ m, showT id fs p.2 = some m ∧ liesB m low high = true ∧ y = (entryT id m p.1, p) := by
  unfold areaE at h
  cases hs : showT id fs p.2 with
  | none => rw [hs] at h; cases h
  | some m =>
    rw [hs] at h
    simp only at h
    by_cases hl : liesB m low high = true
    · rw [if_pos hl] at h
      injection h with h
      exact ⟨m, rfl, hl, h.symm⟩
    · rw [if_neg hl] at h
      cases h
/-- unlike rows have unlike entries -/
theorem areaE_inj {id : Int} {fs : List Int} {low high low' high' : List TVal} {p q : List UInt8 × List TVal} {y z : List UInt8 × List UInt8 × List TVal} (hp : GoodRec p.2 ∧ keyOk p.1 = true) (hq : GoodRec q.2 ∧ keyOk q.1 = true) (h1 : areaE id fs low high p = some y) (h2 : areaE id fs low' high' q = some z) (he : y.1 = z.1) : p.1 = q.1 := by
  obtain ⟨m, s1, -, rfl⟩ := areaE_some h1
  obtain ⟨m', s2, -, rfl⟩ := areaE_some h2
  obtain ⟨e1, i1⟩ := show_entry hp.1 s1 hp.2
  obtain ⟨e2, i2⟩ := show_entry hq.1 s2 hq.2
  exact entry_key e1 i1 e2 i2 he
theorem rise_perm {α : Type} {l m : Kv α} (h : Rise l) (h' : Rise m) (hp : l.Perm m) : l = m := by
  exact List.Perm.eq_of_pairwise (le := fun p q : List UInt8 × α => p.1 < q.1) (fun a b _ _ hab hba => absurd hba (lt_asymm' hab)) h h' hp
theorem ents_area (id : Int) (fs : List Int) : ∀ (M : Kv (List TVal)), (∀ p ∈ M, GoodRec p.2 ∧ keyOk p.1 = true) → entsOf id fs M = (areaK id fs [] [] M).map (·.1)
  | [], _ => rfl
  | p :: M, h => by
    have ih := ents_area id fs M fun q hq => h q (by simp [hq])
    obtain ⟨hg, hk⟩ := h p (by simp)
    unfold entsOf areaK at ih ⊢
    cases hs : showT id fs p.2 with
    | none =>
      have e1 : entE id fs p.1 p.2 = none := by unfold entE; rw [hs]; rfl
      have e2 : areaE id fs [] [] p = none := by unfold areaE; rw [hs]
      rw [List.filterMap_cons_none (f := fun p : List UInt8 × List TVal => entE id fs p.1 p.2) (a := p) e1, List.filterMap_cons_none e2]
      exact ih
    | some m =>
      obtain ⟨h1, h2⟩ := show_entry hg hs hk
      have e1 : entE id fs p.1 p.2 = some (entryT id m p.1) := by unfold entE; rw [hs]; rfl
      have e2 : areaE id fs [] [] p = some (entryT id m p.1, p) := by
        unfold areaE
        rw [hs]
        simp only
        rw [if_pos (liesB_nil (entryErr_zero h1).2.2.2.1)]
      rw [List.filterMap_cons_some (f := fun p : List UInt8 × List TVal => entE id fs p.1 p.2) (a := p) e1, List.filterMap_cons_some e2, List.map_cons, ih]
/-- the area's entries of all -/
theorem area_filter (id : Int) (fs : List Int) (low high : List TVal) : ∀ (M : Kv (List TVal)), (∀ p ∈ M, GoodRec p.2 ∧ keyOk p.1 = true) → areaK id fs low high M = (areaK id fs [] [] M).filter fun y => hitB id fs low high y.2.2
  | [], _ => rfl
  | p :: M, h => by
    have ih := area_filter id fs low high M fun q hq => h q (by simp [hq])
    obtain ⟨hg, hk⟩ := h p (by simp)
    unfold areaK at ih ⊢
    cases hs : showT id fs p.2 with
    | none =>
      have e1 : areaE id fs low high p = none := by unfold areaE; rw [hs]
      have e2 : areaE id fs [] [] p = none := by unfold areaE; rw [hs]
      rw [List.filterMap_cons_none e1, List.filterMap_cons_none e2]
      exact ih
    | some m =>
      obtain ⟨h1, h2⟩ := show_entry hg hs hk
      have e2 : areaE id fs [] [] p = some (entryT id m p.1, p) := by
        unfold areaE
        rw [hs]
        simp only
        rw [if_pos (liesB_nil (entryErr_zero h1).2.2.2.1)]
      have e3 : hitB id fs low high p.2 = liesB m low high := by unfold hitB; rw [hs]
      rw [List.filterMap_cons_some e2]
      by_cases hl : liesB m low high = true
      · have e1 : areaE id fs low high p = some (entryT id m p.1, p) := by
          unfold areaE
          rw [hs]
          simp only
          rw [if_pos hl]
        rw [List.filterMap_cons_some e1, List.filter_cons_of_pos (by simp only; rw [e3]; exact hl), ih]
      · have e1 : areaE id fs low high p = none := by
          unfold areaE
          rw [hs]
          simp only
          rw [if_neg hl]
        rw [List.filterMap_cons_none e1, List.filter_cons_of_neg (by simp only; rw [e3]; exact hl), ih]
theorem area_mem {id : Int} {fs : List Int} {low high : List TVal} {M : Kv (List TVal)} {y : List UInt8 × List UInt8 × List TVal} (h : y ∈ areaK id fs low high M) : y.2 ∈ M ∧ ∃ m, showT id fs y.2.2 = some m ∧ y.1 = entryT id m y.2.1 := by
  obtain ⟨p, hp, he⟩ := List.mem_filterMap.1 h
  obtain ⟨m, s, -, rfl⟩ := areaE_some he
  exact ⟨hp, m, s, rfl⟩
/-- rows in the order of their entries -/
def areaL (id : Int) (fs : List Int) (low high : List TVal) (M : Kv (List TVal)) (L : Kv (List UInt8 × List TVal)) : Prop := Rise L ∧ L.Perm (areaK id fs low high M)
/-- what is shown is what the document's store shows -/
theorem shown_plain {id : Int} {FF : List (List Int)} {fs : List Int} {M : Kv (List TVal)} {L : Kv (List UInt8 × List TVal)} (hM : ∀ p ∈ M, GoodRec p.2 ∧ keyOk p.1 = true) (h : idxF id FF = some fs) (hL : areaL id fs [] [] M L) : shownI id (twinFrom 0 FF) M = L.map (·.1) := by
  have hm := (twin_idxF FF id fs).2 h
  obtain ⟨gs, hg⟩ := idxT_at ((idxT_lt id).2 ⟨fs, hm⟩)
  have hgm : (id, gs) ∈ twinFrom 0 FF := List.mem_of_getElem? hg
  have hgs : gs = fs := by
    have h1 := (twin_idxF FF id gs).1 hgm
    rw [h] at h1
    injection h1 with h1
    exact h1.symm
  unfold shownI
  rw [hg, hgs]
  show (entsOf id fs M).mergeSort leB = _
  rw [ents_area id fs M hM]
  exact ins_sort hL.1 hL.2
theorem shown_none {id : Int} {FF : List (List Int)} {M : Kv (List TVal)} (h : idxF id FF = none) : shownI id (twinFrom 0 FF) M = [] := by
  unfold shownI
  have hn : ¬ idxT id (twinFrom 0 FF) < (twinFrom 0 FF).length := fun hl => by
    obtain ⟨fs, hm⟩ := (idxT_lt id).1 hl
    rw [(twin_idxF FF id fs).1 hm] at h
    cases h
  rw [List.getElem?_eq_none (by omega)]
theorem filterMap_hit {id : Int} {fs : List Int} {low high : List TVal} : ∀ (L : Kv (List UInt8 × List TVal)), (∀ y ∈ L, (GoodRec y.2.2 ∧ keyOk y.2.1 = true) ∧ ∃ m, showT id fs y.2.2 = some m ∧ y.1 = entryT id m y.2.1) → (L.map (·.1)).filterMap (hitK low high) = (L.filter fun y => hitB id fs low high y.2.2).map (·.2.1)
  | [], _ => rfl
  | y :: L, h => by
    have ih := filterMap_hit (id := id) (fs := fs) (low := low) (high := high) L fun z hz => h z (by simp [hz])
    obtain ⟨⟨hg, hk⟩, m, hs, he⟩ := h y (by simp)
    obtain ⟨h1, h2⟩ := show_entry hg hs hk
    have e3 := hitK_entry (low := low) (high := high) h1 h2
    have e2 : hitB id fs low high y.2.2 = liesB m low high := by unfold hitB; rw [hs]
    rw [List.map_cons, he]
    by_cases hl : liesB m low high = true
    · rw [List.filterMap_cons_some (by rw [e3, if_pos hl]), List.filter_cons_of_pos (by show hitB id fs low high y.2.2 = true; rw [e2]; exact hl), List.map_cons, ih]
    · rw [List.filterMap_cons_none (by rw [e3, if_neg hl]), List.filter_cons_of_neg (by show ¬ hitB id fs low high y.2.2 = true; rw [e2]; exact hl), ih]
/-- a query answers as the document's store does -/
theorem query_twin {id : Int} {FF : List (List Int)} {fs : List Int} {low high : List TVal} {lim : Nat} {M : Kv (List TVal)} {L : Kv (List UInt8 × List TVal)} (hM : ∀ p ∈ M, GoodRec p.2 ∧ keyOk p.1 = true) (hr : Rise M) (h : idxF id FF = some fs) (hL : areaL id fs low high M L) :
    queryA id (twinFrom 0 FF) low high lim M = ⟨0, false, [], (L.map (·.2)).take lim, 0⟩ := by
  have hm := (twin_idxF FF id fs).2 h
  have hL0 : areaL id fs [] [] M ((areaK id fs [] [] M).mergeSort fun x y => decide (x.1 ≤ y.1)) := by
    have hp : ((areaK id fs [] [] M).mergeSort fun x y => decide (x.1 ≤ y.1)).Perm (areaK id fs [] [] M) := List.mergeSort_perm _ _
    refine ⟨?_, hp⟩
    have hs : ((areaK id fs [] [] M).mergeSort fun x y => decide (x.1 ≤ y.1)).Pairwise fun x y => decide (x.1 ≤ y.1) = true := List.pairwise_mergeSort (fun a b c h1 h2 => by simp only [decide_eq_true_eq] at h1 h2 ⊢; exact List.le_trans h1 h2) (fun a b => by simp only [Bool.or_eq_true, decide_eq_true_eq]; exact List.le_total a.1 b.1) _
    have hd : ((areaK id fs [] [] M).mergeSort fun x y => decide (x.1 ≤ y.1)).Pairwise fun x y => x.1 ≠ y.1 := by
      refine (List.Perm.pairwise_iff (R := fun x y : List UInt8 × List UInt8 × List TVal => x.1 ≠ y.1) (fun h => h.symm) hp).2 ?_
      refine List.pairwise_filterMap.2 ?_
      refine List.Pairwise.imp_of_mem (R := fun p q : List UInt8 × List TVal => p.1 < q.1) (fun {p q} hp hq hlt y hy z hz e => ?_) hr
      have := areaE_inj (hM p hp) (hM q hq) hy hz e
      rw [this] at hlt
      exact lt_irr _ hlt
    refine (List.Pairwise.and hs hd).imp fun {a b} h => ?_
    rcases List.le_iff_lt_or_eq.1 (of_decide_eq_true h.1) with h1 | h1
    · exact h1
    · exact absurd h1 h.2
  have hsh := shown_plain hM h hL0
  generalize (areaK id fs [] [] M).mergeSort (fun x y => decide (x.1 ≤ y.1)) = L0 at hL0 hsh
  have hmem : ∀ y ∈ L0, y ∈ areaK id fs [] [] M := fun y hy => hL0.2.subset hy
  have hfl : L0.filter (fun y => hitB id fs low high y.2.2) = L := by
    refine rise_perm (List.Pairwise.sublist List.filter_sublist hL0.1) hL.1 ?_
    refine (hL0.2.filter _).trans ?_
    rw [← area_filter id fs low high M hM]
    exact hL.2.symm
  unfold queryA
  rw [if_pos ((idxT_lt id).2 ⟨fs, hm⟩), hsh, filterMap_hit (id := id) (fs := fs) L0 fun y hy => ⟨hM _ (area_mem (hmem y hy)).1, (area_mem (hmem y hy)).2⟩, hfl]
  have e1 : (L.map fun y => y.2.1).take lim = ((L.map (·.2)).take lim).map (·.1) := by
    rw [← List.map_take, ← List.map_take, List.map_map]
    rfl
  rw [e1, rowsT_self hr fun p hp => ?_]
  obtain ⟨y, hy, rfl⟩ := List.mem_map.1 (List.mem_of_mem_take hp)
  exact (area_mem (hL.2.subset hy)).1
theorem query_none {id : Int} {FF : List (List Int)} {low high : List TVal} {lim : Nat} {M : Kv (List TVal)} (h : idxF id FF = none) : queryA id (twinFrom 0 FF) low high lim M = ⟨7, false, [], [], 0⟩ := by
  unfold queryA
  rw [if_neg fun hl => ?_]
  obtain ⟨fs, hm⟩ := (idxT_lt id).1 hl
  rw [(twin_idxF FF id fs).1 hm] at h
  cases h
end Go.Proofs.YtknfjajmnlpfjaaGreat

namespace Go.Proofs.YtknfjajmnlpfjaaGreat
open Go.RowKit
open Go.Lib (strCells compareBytes)

theorem key_shortQ {l : List TVal} (h : rowErr l = 0) {s : ByteArray} (hs : s.data.toList = keyT l) : s.size ≤ 268 := by
  have h4 := rowErr_ok.1 h
  have := keyL_len h4.2
  rw [Lib.size_eq, hs, keyT_eq h]
  omega
set_option maxRecDepth 100000 in
theorem full_any (A : Option Addr) (n c B : Nat) (l : List TVal) (w : World) (h : HasVals w B A n l) (hn : n ≤ maxLen) (hl : l.all notNull = true) :
    Calls Tryz.prog 93 #[.slice A n c] w fun e w' => e = .returned (.bool true) ∧ w = w' := by
  unfold maxLen at hn
  have H := Lib.hid h
  have Hl := Lib.hid hl
  clear h hl
  go_enter Tryz.func93, Tryz.ntmps93
  go_wp2
  go_loop [3] (fun i => ∃ k : Nat, k ≤ n ∧ i = .int .i64 (k : Int)) (fun i => n - (intOf i).toNat)
  case atStart => exact ⟨0, by omega, rfl⟩
  case round =>
    obtain ⟨k, hk, rfl⟩ := hrel
    have k0 : (0 : Int) ≤ (k : Int) := by omega
    by_cases hlt : k < n
    · obtain ⟨a, v, rfl, -, hv, c0, -, -⟩ := H.out.at_ hlt
      have k1 : (k : Int) < (n : Int) := by omega
      have hne : ¬ v.k = 0 := fun e => by
        have := List.all_eq_true.1 Hl.out v (List.mem_of_getElem? hv)
        unfold notNull at this
        simp [e] at this
      have hne2 : (v.k == 0) = false := beq_eq_false_iff_ne.2 hne
      clear hv
      go_wp2
      go_round
      case rel => exact ⟨k + 1, by omega, by go_num⟩
      case measure => simp [intOf]; omega
    · go_wp2
      go_ret
      exact ⟨rfl, rfl⟩
set_option maxRecDepth 100000 in
set_option maxHeartbeats 1600000 in
theorem refEntry_ok (id : Int) (A : Option Addr) (n c B : Nat) (l : List TVal) (key : ByteArray) (w : World) (h : HasVals w B A n l) (hn : n ≤ maxLen) (hw : B ≤ w.heap.size) (hi : ∀ u ∈ l, InI64 u.n) (he : entryErr id l key.data.toList = 0) :
    Calls Tryz.prog 60 #[.int .i64 id, .slice A n c, .string key] w fun e w' => e = .returned (.tuple #[.string ⟨(entryT id l key.data.toList).toArray⟩, .int .i64 0]) ∧ Below w.heap.size w w' := by
  obtain ⟨h1, h2, h3, h4, h5, h6⟩ := entryErr_zero he
  obtain ⟨k, rfl, hk1, hk6⟩ := idB_nat h1
  have hll : l.length = n := h.1
  have hks : key.size ≤ 16 := by
    unfold keyOk at h6
    simp only [Bool.and_eq_true, decide_eq_true_eq] at h6
    rw [Lib.size_eq]; exact h6.2
  have Hk := Lib.hid (refKey_any A n c B l w h hn hw hi)
  rw [h4] at Hk
  have Hf := Lib.hid (fun wx (hb : Below w.heap.size w wx) => full_any A n c B l wx (h.belowOf hb hw) hn h5)
  have Hkey := Lib.hid (fun wx => refRecKey_any key wx)
  rw [h6] at Hkey
  obtain ⟨sx, hsx⟩ : ∃ sx : ByteArray, ⟨(keyT l).toArray⟩ = sx := ⟨_, rfl⟩
  have Hsx : Hid (sx.data.toList = keyT l) := Lib.hid (by rw [← hsx])
  have hsl := key_shortQ h4 Hsx.out
  have Hend : Hid ((⟨#[0, UInt8.ofNat k]⟩ : ByteArray) ++ sx ++ ⟨#[0]⟩ ++ key = ⟨(entryT (k : Int) l key.data.toList).toArray⟩) := Lib.hid (by
    apply bytes_ext
    rw [entryT, if_pos he, idT]
    simp only [ByteArray.data_append, Array.toList_append, Hsx.out, keyT_eq h4]
    simp)
  unfold textErr at Hk
  rw [hsx] at Hk
  have hcv := fun w1 : World => string_run (lit_bytes w1 [0, UInt8.ofNat k] 5 #[.int .u8 0, .int .u8 (k : Int)] (by rw [byteCells_cons, byteCells_cons]; simp [byteCells]; omega)) 2
  simp only [List.length_cons, List.length_nil, Nat.zero_add, Nat.reduceAdd] at hcv
  have n1 : 1 ≤ n := by omega
  have n2 : n ≤ 2 := by omega
  have d1 : decide ((k : Int) < 1) = false := decide_eq_false (by omega)
  have d2 : decide ((6 : Int) < (k : Int)) = false := decide_eq_false (by omega)
  have d3 : ((n : Int) == 0) = false := beq_eq_false_iff_ne.2 (by omega)
  have e1 : ¬ ((k : Int) < 1) := by omega
  have e2 : ¬ ((6 : Int) < (k : Int)) := by omega
  have e3 : ¬ ((n : Int) = 0) := by omega
  have e4 : ¬ ((2 : Int) < (n : Int)) := by omega
  clear h he hi h1 h2 h3 h4 h5 h6 hsx hll
  go_enter Tryz.func60, Tryz.ntmps60
  go_wp2_with fail
  refine Hk.out.mono ?_
  rintro e w1 ⟨rfl, hb1⟩
  have Hb1 := Lib.hid hb1
  have hc1 := hcv w1
  clear hb1 hcv
  go_wp2_with fail
  refine (Hf.out w1 Hb1.out).mono ?_
  rintro e w2 ⟨rfl, rfl⟩
  go_wp2_with fail
  refine (Hkey.out w1).mono ?_
  rintro e w2 ⟨rfl, rfl⟩
  go_wp2
  go_ret2
  refine ⟨?_, Hb1.out.trans ((below_alloc w1 _).mono Hb1.out.size)⟩
  rw [← Hend.out]
  rfl
end Go.Proofs.YtknfjajmnlpfjaaGreat

/- slices.Insert of one part into a row of parts of the call's own. Condition: the rows are in memory. -/
import Derived.Test.YtefagaiaflddaaaCpyP
import Derived.Lib.Overlaps
import Derived.Lib.AppendZerosOnto
import Derived.Laws.Externs
import Derived.Deep.RegionLaw
namespace Go.Proofs.Ytefagaiaflddaaa
open Go.RowKit
open Go.Lib (strCells compareBytes)

/-- the row, one part longer: in its block, or in a new one; all else as it was -/
def InsPost (B : Nat) (v : Value) (L : List Pt) (w : World) (e : Ending) (w' : World) : Prop :=
  ∃ v', e = .returned v' ∧ OwnPts w' B v' L ∧ w.grownBy w' v.ownBlock ∧ (v'.ownBlock = v.ownBlock ∨ ∃ g, w.heap.size ≤ g ∧ v'.ownBlock = some g)
theorem ins_cells (l : List Pt) (i : Nat) (x : Pt) : ptCells (l.take i ++ ([x] ++ l.drop i)) = (ptCells l).take (i * 2) ++ (ptCells [x] ++ (ptCells l).drop (i * 2)) := by
  rw [ptCells_app, ptCells_app, ptCells_take, ptCells_drop]
theorem ins_len (l : List Pt) {i : Nat} (hi : i ≤ l.length) (x : Pt) : (l.take i ++ ([x] ++ l.drop i)).length = l.length + 1 := by
  simp only [List.length_append, List.length_take, List.length_drop, List.length_cons, List.length_nil]
  omega
set_option maxRecDepth 100000 in
set_option maxHeartbeats 1600000 in
theorem insert_end (v : Value) (B vb N : Nat) (l : List Pt) (x : Pt) (w : World) (h : OwnPts w B v l) (hN : l.length = N) (hB : B ≤ w.heap.size) (hn : N ≤ 1000000) (hx : Has w w.heap.size (some ⟨vb, 0, none⟩) (1 * 2) (ptCells [x])) :
    Calls Try.prog 38 #[v, .int .i64 (N : Int), .slice (some ⟨vb, 0, none⟩) 1 1] w (InsPost B v (l ++ [x]) w) := by
  obtain ⟨A, c, rfl, hc, hm, -⟩ := h.slice
  have H := Lib.hid h
  unfold OwnPts at H
  rw [hN] at H hc ⊢
  have HN := Lib.hid hN
  have HX := Lib.hid hx
  unfold maxLen at hm
  clear h hN hx
  obtain ⟨A', hA⟩ : ∃ A', (if c = N then A else Option.map (fun x => x.add (N * 2)) A) = A' := ⟨_, rfl⟩
  go_enter Try.func38, Try.ntmps38
  go_wp2_with (at_builtin; refine wpList_append_hasN (v := .slice A N c) rfl (.tmp 23) (.tmp 24) _ rfl 46 pt_elem (by omega) Try.underlying22 rfl H.out rfl HX.out (ptCells_one _) (by simp only [maxLen]; omega) (by omega) hB ?_; intro v1 w1 hown1 hg1 hz1; have HE := Lib.hid (And.intro hown1 (And.intro hg1 hz1)); clear hown1 hg1 hz1)
  all_goals
    go_ret
    refine ⟨_, rfl, ?_, HE.out.2.1, HE.out.2.2.imp id fun e => ⟨_, Nat.le_refl _, e⟩⟩
    unfold OwnPts
    rw [List.length_append, HN.out, ptCells_app]
    exact HE.out.1

theorem add_zero_at (g k : Nat) : (⟨g, 0, none⟩ : Addr).add k = ⟨g, k, none⟩ := by unfold Addr.add; split <;> simp_all
theorem sub3 (n i : Nat) : (n - i) * 2 = n * 2 - i * 2 := Nat.sub_mul n i 2
theorem put_first (X S : List Value) {i n : Nat} (hX : X.length = n * 2) (hi : i ≤ n) : ((X ++ S).take ((i + 1) * 2)).take (i * 2) = X.take (i * 2) := by
  rw [List.take_take, Nat.min_eq_left (by omega), List.take_append_of_le_length (by omega)]
theorem box_shape {w : World} {g : Nat} {t : TypeId} {cs : Array Value} (h : Box w g t cs) : w.shape? g = some (t, cs.size) := by
  unfold Box at h
  simp [World.shape?, h]
theorem box_end {w : World} {g k : Nat} {t : TypeId} {cs : Array Value} (h : Box w g t cs) : w.frozen? { block := g, off := k } = false := h.frozen k
theorem own_shape {w : World} {B n c g size : Nat} {e : TypeId} {xs : List Value} (h : w.ownsRow B e size (.slice (some ⟨g, 0, none⟩) n c) n xs) : w.shape? g = some (e, c * size) := by
  rcases h.2 with ⟨hv, -⟩ | ⟨g', cap, cur, hv, hB, hg, h1, h2, h3, h4⟩
  · cases hv
  · injection hv with e1 _ e3
    injection e1 with e1
    injection e1 with e1
    subst e1
    subst e3
    simp [World.shape?, hg, h3]
theorem shift_cells (X S Y : List Value) {i n : Nat} (hX : X.length = n * 2) (hS : S.length = 2) (hY : Y.length = 2) (hi : i < n) :
    let Z := (X ++ S).take ((i + 1) * 2) ++ (((X ++ S).drop (i * 2)).take ((n + 1 - (i + 1)) * 2) ++ (X ++ S).drop ((i + 1 + min (n + 1 - i) (n + 1 - (i + 1))) * 2))
    Z.take (i * 2) ++ (Y.take ((n + 1 - i) * 2) ++ Z.drop ((i + min 1 (n + 1 - i)) * 2)) = X.take (i * 2) ++ (Y ++ X.drop (i * 2)) := by
  intro Z
  have hm : min (n + 1 - i) (n + 1 - (i + 1)) = n - i := by omega
  have hm1 : min 1 (n + 1 - i) = 1 := by omega
  have e1 : ((X ++ S).drop (i * 2)).take ((n + 1 - (i + 1)) * 2) = X.drop (i * 2) := by
    rw [List.drop_append_of_le_length (by omega), List.take_append_of_le_length (by rw [List.length_drop]; omega), List.take_of_length_le (by rw [List.length_drop]; omega)]
  have e2 : (X ++ S).drop ((i + 1 + (n - i)) * 2) = [] := List.drop_of_length_le (by rw [List.length_append]; omega)
  have hZ : Z = (X ++ S).take ((i + 1) * 2) ++ X.drop (i * 2) := by
    show (X ++ S).take ((i + 1) * 2) ++ (((X ++ S).drop (i * 2)).take ((n + 1 - (i + 1)) * 2) ++ (X ++ S).drop ((i + 1 + min (n + 1 - i) (n + 1 - (i + 1))) * 2)) = _
    rw [e1, hm, e2, List.append_nil]
  have hl : ((X ++ S).take ((i + 1) * 2)).length = (i + 1) * 2 := by rw [List.length_take, List.length_append]; omega
  rw [hZ, hm1, List.take_append_of_le_length (by omega), put_first X S hX (by omega), List.take_of_length_le (l := Y) (by omega), List.drop_left' hl]
set_option maxRecDepth 100000 in
set_option maxHeartbeats 6400000 in
theorem insert_shift (B g c vb N i : Nat) (l : List Pt) (x : Pt) (w : World) (h : OwnPts w B (.slice (some ⟨g, 0, none⟩) N c) l) (hN : l.length = N) (hi : i < N) (hroom : N + 1 ≤ c) (hc : c ≤ 9223372036854775807) (hn : N ≤ 1000000)
    (hvb : vb ≠ g) (hx : Box w vb 46 #[.string x.lo, .int .i64 x.n]) :
    Calls Try.prog 38 #[.slice (some ⟨g, 0, none⟩) N c, .int .i64 (i : Int), .slice (some ⟨vb, 0, none⟩) 1 1] w (InsPost B (.slice (some ⟨g, 0, none⟩) N c) (l.take i ++ ([x] ++ l.drop i)) w) := by
  have ho := h
  unfold OwnPts at ho
  rw [hN] at ho
  obtain ⟨sp, hsp, ho1⟩ := own_longer ho (n' := N + 1) (by omega) hroom
  have hgw := (ho.lt g rfl).2
  have hlen : (ptCells l).length = N * 2 := by rw [ptCells_len, hN]
  have hhas := (Has.of_ownN ho1).drop (k := i * 2) (by omega)
  rw [← sub3, Option.map_some, add_zero_at] at hhas
  have hsp3 : sp.length = 2 := by rw [hsp]; omega
  have hone : ∀ u ∈ ((ptCells l ++ sp).drop (i * 2)).take ((N + 1 - (i + 1)) * 2), u.oneCell' = true := by
    rw [List.drop_append_of_le_length (by omega), List.take_append_of_le_length (by rw [List.length_drop]; omega)]
    exact fun u hu => ptCells_one l u (List.mem_of_mem_drop (List.mem_of_mem_take hu))
  obtain ⟨w1, hr1, ho2, hg1⟩ := run_copy_ownN (P := Try.prog) (t := 22) (ty := 3) (w := w.drew) Try.underlying22 pt_size (by omega) (o := i + 1) (dl := N + 1 - (i + 1)) (own_belowN ho1 (Below.refl _ _).drew) (c - (i + 1)) (c - i) (by omega) (hhas.belowOf (Below.refl _ w).drew (Nat.le_refl _)) (by omega) hone
  have hb1 : vb < w.heap.size := hx.lt
  have hx1 : Box w1 vb 46 #[.string x.lo, .int .i64 x.n] := (hg1.block vb hb1 (fun e => hvb (by injection e))).trans hx
  have hxh : Has w1 (vb + 1) (some ⟨vb, 0, none⟩) (1 * 2) (ptCells [x]) := by
    refine ⟨rfl, fun k u hu => ⟨_, rfl, by simp, ?_⟩⟩
    rw [add_zero_at, hx1.cell k, ← hu]
    simp [ptCells]
  obtain ⟨w2, hr2, ho3, hg2⟩ := run_copy_ownN (P := Try.prog) (t := 22) (ty := 3) (w := w1) Try.underlying22 pt_size (by omega) (o := i) (dl := N + 1 - i) ho2 (c - i) 1 (by omega) hxh (by omega) (fun u hu => ptCells_one [x] u (List.mem_of_mem_take hu))
  have hfin := shift_cells (ptCells l) sp (ptCells [x]) hlen hsp3 (by rfl) hi
  rw [hfin] at ho3
  have hG : w.grownBy w2 (some g) := by
    have h0 : w.grownBy w1 (some g) := ⟨hg1.os, hg1.tape, hg1.output, hg1.size, hg1.block⟩
    exact grownBy_trans2 h0 hg2
  have hov : ∀ lb cb, (callFunc 54 #[.slice (some ⟨vb, 0, none⟩) 1 1, .slice (some ⟨g, (i + 1) * 2, none⟩) lb cb]).run Try.prog w = .ok (.value (.bool false)) w := fun lb cb => by
    rw [run_callFunc_extern Try.func54 (by kernel_rfl) (by kernel_rfl) (by kernel_rfl) (e := Extern.SlicesOverlaps.overlaps #[22, 22] #[4]) (by kernel_rfl),
      Lib.run_overlaps_apart w 22 4 46 Try.underlying22 2 (fun w => by kernel_rfl) ⟨vb, 0, none⟩ ⟨g, (i + 1) * 2, none⟩ 1 1 lb cb hvb _ _ _ _ (box_shape hx) (own_shape ho) (by omega) (hx.frozen 0) (hx.frozen _)]
    rfl
  have HE : Hid (OwnPts w2 B (.slice (some ⟨g, 0, none⟩) (N + 1) c) (l.take i ++ ([x] ++ l.drop i)) ∧ w.grownBy w2 (some g)) := Lib.hid ⟨by unfold OwnPts; rw [ins_len l (by omega) x, hN, ins_cells]; exact ho3, hG⟩
  have Hr1 := Lib.hid hr1
  have Hr2 := Lib.hid hr2
  have hw1 : IntKind.i64.wrap ((i : Int) + 1) = (i : Int) + 1 := by rw [IntKind.wrap_i64]; omega
  have hb0 : (0 : Int) ≤ (i : Int) + 1 := by omega
  have htn : ((i : Int) + 1).toNat = i + 1 := by omega
  have hin : i ≤ N := by omega
  have hne : ¬ ((i : Int) = (N : Int)) := by omega
  have hc1 : ¬ (c = i + 1) := by omega
  have hc2 : ¬ (c = i) := by omega
  have hb3 : (i : Int) ≤ (N : Int) + 1 := by omega
  have hgt : ¬ ((c : Int) < (N : Int) + 1) := by omega
  clear h hN ho ho1 ho2 ho3 hgw hlen hhas hsp hsp3 hone hr1 hg1 hb1 hx1 hxh hr2 hg2 hfin hG hx
  go_enter Try.func38, Try.ntmps38
  go_wp2_with (simp only [hov])
  go_region_law (refine step_run_copy rfl (.tmp 73) (.tmp 76) _ _ rfl (by simp [Act.eval, Act.put]) (by simp [Act.eval, Act.put]) Hr1.out ?_)
  have hr2 := Hr2.out
  go_wp2
  go_ret
  exact ⟨_, rfl, HE.out.1, HE.out.2, .inl rfl⟩

theorem grow_cells (X Z Y : List Value) {i n : Nat} (hX : X.length = n * 2) (hZ : Z.length = (n + 1) * 2) (hZ1 : Z.take (i * 2) = X.take (i * 2)) (hY : Y.length = 2) (hi : i < n) :
    let V := Z.take (i * 2) ++ (Y.take ((n + 1 - i) * 2) ++ Z.drop ((i + min 1 (n + 1 - i)) * 2))
    V.take ((i + 1) * 2) ++ ((X.drop (i * 2)).take ((n + 1 - (i + 1)) * 2) ++ V.drop ((i + 1 + min (n - i) (n + 1 - (i + 1))) * 2)) = X.take (i * 2) ++ (Y ++ X.drop (i * 2)) := by
  intro V
  have hm1 : min 1 (n + 1 - i) = 1 := by omega
  have hm : i + 1 + min (n - i) (n + 1 - (i + 1)) = n + 1 := by omega
  have hV : V = (X.take (i * 2) ++ Y) ++ Z.drop ((i + 1) * 2) := by
    show Z.take (i * 2) ++ (Y.take ((n + 1 - i) * 2) ++ Z.drop ((i + min 1 (n + 1 - i)) * 2)) = _
    rw [hZ1, hm1, List.take_of_length_le (l := Y) (by omega), List.append_assoc]
  have hl : (X.take (i * 2) ++ Y).length = (i + 1) * 2 := by rw [List.length_append, List.length_take]; omega
  rw [hV, hm, List.take_left' hl, List.take_of_length_le (l := X.drop (i * 2)) (by rw [List.length_drop]; omega), List.drop_of_length_le (l := (X.take (i * 2) ++ Y) ++ Z.drop ((i + 1) * 2)) (by rw [List.length_append, List.length_drop, hl]; omega), List.append_nil, List.append_assoc]
set_option maxRecDepth 100000 in
set_option maxHeartbeats 6400000 in
theorem insert_grow (B g c vb N i : Nat) (l : List Pt) (x : Pt) (w : World) (h : OwnPts w B (.slice (some ⟨g, 0, none⟩) N c) l) (hN : l.length = N) (hi : i < N) (hroom : c < N + 1) (hB : B ≤ w.heap.size) (hn : N ≤ 1000000)
    (hx : Box w vb 46 #[.string x.lo, .int .i64 x.n]) :
    Calls Try.prog 38 #[.slice (some ⟨g, 0, none⟩) N c, .int .i64 (i : Int), .slice (some ⟨vb, 0, none⟩) 1 1] w (InsPost B (.slice (some ⟨g, 0, none⟩) N c) (l.take i ++ ([x] ++ l.drop i)) w) := by
  have ho := h
  unfold OwnPts at ho
  rw [hN] at ho
  have hcN : N ≤ c := by
    obtain ⟨A0, c0, e0, h1, -⟩ := own_sliceN ho
    injection e0 with _ _ e0
    omega
  have hgw := (ho.lt g rfl).2
  have hvw : vb < w.heap.size := hx.lt
  have hlen : (ptCells l).length = N * 2 := by rw [ptCells_len, hN]
  obtain ⟨q, hq, hz, hs, hb⟩ := pt_elem.get
  have hhas := Has.of_ownN ho
  have hold : (Builtin.firstCells q.size i (.slice (some ⟨g, 0, none⟩) i c)).run Try.prog w.drew = .ok ((ptCells l).take (i * 2)).toArray w.drew := by
    rw [hs]
    exact run_firstCells_some w.drew 2 i ⟨g, 0, none⟩ i c ((ptCells l).take (i * 2)) (by rw [List.length_take]; omega) (fun j v hj => by
      rw [List.getElem?_take] at hj
      split at hj
      · obtain ⟨a', e', -, hc'⟩ := hhas.2 j v hj
        injection e' with e'
        subst e'
        exact hc'
      · cases hj)
  have hik : i + (N + 1 - i) = N + 1 := by omega
  have hap := fun ty => Lib.run_append_grow_zeros (P := Try.prog) w 22 3 ty 46 q _ .i64 .i64 Try.underlying22 Try.underlying3 hq hz (some ⟨g, 0, none⟩) i c _ hold (N + 1 - i) (by omega) (by rw [hs]; omega) (by omega) (by omega) (by rw [hb]; omega) (by rw [hb, hik]; exact growslice_fits hroom (by omega))
  rw [hik] at hap
  have hge := grownCap_ge w (N + 1) c 46
  have hle := grownCap_le_maxLen w (N + 1) c 46 (by unfold maxLen; omega)
  obtain ⟨G, hG⟩ : ∃ G, grownCap w (N + 1) c 46 = G := ⟨_, rfl⟩
  rw [hG] at hge hle
  simp only [hG] at hap
  obtain ⟨ROW, hROW⟩ : ∃ ROW, ((ptCells l).take (i * 2)).toArray ++ Builtin.zeroCells (Value.agg #[.string ⟨#[]⟩, .int .i64 0]).cells (N + 1 - i) ++ Builtin.zeroCells (Value.agg #[.string ⟨#[]⟩, .int .i64 0]).cells (G - (N + 1)) = ROW := ⟨_, rfl⟩
  simp only [hROW] at hap
  have hz3 : (Value.agg #[.string ⟨#[]⟩, .int .i64 0]).cells.size = 2 := rfl
  have hRs : ROW.size = G * 2 := by
    rw [← hROW, Array.size_append, Array.size_append, size_zeroCells, size_zeroCells, hz3, List.size_toArray, List.length_take]
    omega
  have hRt : ROW.toList.take (i * 2) = (ptCells l).take (i * 2) := by
    rw [← hROW]
    simp only [Array.toList_append]
    rw [List.append_assoc, List.take_left' (by simp; omega)]
  obtain ⟨Z, hZ⟩ : ∃ Z, ROW.toList.take ((N + 1) * 2) = Z := ⟨_, rfl⟩
  have hZl : Z.length = (N + 1) * 2 := by rw [← hZ, List.length_take, Array.length_toList, hRs]; omega
  have hZ1 : Z.take (i * 2) = (ptCells l).take (i * 2) := by rw [← hZ, List.take_take, Nat.min_eq_left (by omega), hRt]
  have hoR : ((w.alloc (.cells ROW 46)).drew).ownsRow w.heap.size 46 2 (.slice (some ⟨w.heap.size, 0, none⟩) (N + 1) G) (N + 1) Z :=
    ⟨hZl, .inr ⟨w.heap.size, G, ROW, rfl, Nat.le_refl _, heap_alloc_new w _, hge, hle, hRs, hZ⟩⟩
  have hbR : Below w.heap.size w ((w.alloc (.cells ROW 46)).drew) := (below_box _).drew
  have hxR := hx.below hbR hvw
  have hxh : Has ((w.alloc (.cells ROW 46)).drew) (vb + 1) (some ⟨vb, 0, none⟩) (1 * 2) (ptCells [x]) := by
    refine ⟨rfl, fun k u hu => ⟨_, rfl, by simp, ?_⟩⟩
    rw [add_zero_at, hxR.cell k, ← hu]
    simp [ptCells]
  obtain ⟨w1, hr1, ho1, hg1⟩ := run_copy_ownN (P := Try.prog) (t := 22) (ty := 3) Try.underlying22 pt_size (by omega) (o := i) (dl := N + 1 - i) hoR (G - i) 1 (by omega) hxh (by omega) (fun u hu => ptCells_one [x] u (List.mem_of_mem_take hu))
  have hsR : w.heap.size < ((w.alloc (.cells ROW 46)).drew).heap.size := by show w.heap.size < (w.alloc _).heap.size; simp
  have hb1 : Below w.heap.size w w1 := hbR.grown hg1 (Nat.le_of_lt hsR) fun k hk => by injection hk with hk; omega
  have hd := hhas.drop (k := i * 2) (by omega)
  rw [← sub3, Option.map_some, add_zero_at] at hd
  obtain ⟨w2, hr2, ho2, hg2⟩ := run_copy_ownN (P := Try.prog) (t := 22) (ty := 3) (w := w1.drew) Try.underlying22 pt_size (by omega) (o := i + 1) (dl := N + 1 - (i + 1)) (own_belowN ho1 (Below.refl _ _).drew) (G - (i + 1)) (c - i) (by omega) (hd.belowOf hb1.drew (Nat.le_refl _)) (by omega) (fun u hu => ptCells_one l u (List.mem_of_mem_drop (List.mem_of_mem_take hu)))
  rw [grow_cells (ptCells l) Z (ptCells [x]) hlen hZl hZ1 (by rfl) hi] at ho2
  have hb2 : Below w.heap.size w w2 := hb1.drew.grown hg2 hb1.size fun k hk => by injection hk with hk; omega
  have hG2 : w.grownBy w2 (some g) := ⟨hb2.os, hb2.tape, hb2.output, hb2.size, fun k hk _ => hb2.block k hk⟩
  have HE : Hid (OwnPts w2 B (.slice (some ⟨w.heap.size, 0, none⟩) (N + 1) G) (l.take i ++ ([x] ++ l.drop i)) ∧ w.grownBy w2 (some g)) := Lib.hid ⟨by unfold OwnPts; rw [ins_len l (by omega) x, hN, ins_cells]; exact own_baseN ho2 hB, hG2⟩
  have hkk : (N : Int) + 1 - (i : Int) = ((N + 1 - i : Nat) : Int) := by omega
  rw [← hkk] at hap
  have Hap := Lib.hid hap
  have Hr1 := Lib.hid hr1
  have Hr2 := Lib.hid hr2
  have hw1 : IntKind.i64.wrap ((i : Int) + 1) = (i : Int) + 1 := by rw [IntKind.wrap_i64]; omega
  have hb0 : (0 : Int) ≤ (i : Int) + 1 := by omega
  have htn : ((i : Int) + 1).toNat = i + 1 := by omega
  have hin : i ≤ N := by omega
  have hin2 : i ≤ c := by omega
  have hne : ¬ ((i : Int) = (N : Int)) := by omega
  have hc1 : ¬ (G = i + 1) := by omega
  have hc2 : ¬ (c = i) := by omega
  have hc3 : ¬ (G = i) := by omega
  have hb3 : (i : Int) ≤ (N : Int) + 1 := by omega
  have hgt : (c : Int) < (N : Int) + 1 := by omega
  unfold maxLen at hle
  clear h hN ho hgw hvw hlen hq hz hs hb hhas hold hik hG hROW hz3 hRs hRt hZ hZl hZ1 hoR hbR hxR hxh hr1 ho1 hg1 hsR hb1 hd hr2 ho2 hg2 hb2 hG2 hkk hap hx
  go_enter Try.func38, Try.ntmps38
  have hr1 := Hr1.out
  go_wp2_with (at_builtin; refine Lib.wpList_append_run _ rfl _ _ _ _ rfl _ _ rfl rfl _ _ (Hap.out _) ?_)
  go_region_law (refine step_run_copy rfl (.tmp 50) (.tmp 53) _ _ rfl (by simp [Act.eval, Act.put]) (by simp [Act.eval, Act.put]) Hr2.out ?_)
  go_wp2
  go_ret
  exact ⟨_, rfl, HE.out.1, HE.out.2, .inr ⟨_, Nat.le_refl _, rfl⟩⟩
theorem insert_any (v : Value) (B vb N i : Nat) (l : List Pt) (x : Pt) (w : World) (h : OwnPts w B v l) (hN : l.length = N) (hi : i ≤ N) (hB : B ≤ w.heap.size) (hn : N ≤ 1000000) (hvb : v.ownBlock ≠ some vb)
    (hx : Box w vb 46 #[.string x.lo, .int .i64 x.n]) :
    Calls Try.prog 38 #[v, .int .i64 (i : Int), .slice (some ⟨vb, 0, none⟩) 1 1] w (InsPost B v (l.take i ++ ([x] ++ l.drop i)) w) := by
  by_cases e : i = N
  · subst e
    have hxh : Has w w.heap.size (some ⟨vb, 0, none⟩) (1 * 2) (ptCells [x]) := by
      refine ⟨rfl, fun k u hu => ⟨_, rfl, hx.lt, ?_⟩⟩
      rw [add_zero_at, hx.cell k, ← hu]
      simp [ptCells]
    have h1 := insert_end v B vb i l x w h hN hB hn hxh
    rwa [List.take_of_length_le (by omega), List.drop_of_length_le (by omega), List.append_nil]
  · have ho := h
    unfold OwnPts at ho
    rw [hN] at ho
    obtain ⟨A, c, rfl, h1, h2, -⟩ := own_sliceN ho
    obtain ⟨g, rfl, -⟩ := own_head ho (by omega)
    by_cases hc : N + 1 ≤ c
    · exact insert_shift B g c vb N i l x w (by rw [← hN]; rw [← hN] at h; exact h) hN (by omega) hc (by unfold maxLen at h2; omega) hn (fun e => hvb (by rw [e]; rfl)) hx
    · exact insert_grow B g c vb N i l x w h hN (by omega) (by omega) hB hn hx
end Go.Proofs.Ytefagaiaflddaaa

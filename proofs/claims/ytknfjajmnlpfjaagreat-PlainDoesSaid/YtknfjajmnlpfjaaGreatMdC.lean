/- Indexes of the program's store. Condition: the store is in memory. -/
import Derived.Test.YtknfjajmnlpfjaaGreatMdB
import Derived.Test.YtknfjajmnlpfjaaGreatMdQ
import Derived.Test.YtknfjajmnlpfjaaGreatMdD
import Derived.Test.YtknfjajmnlpfjaaGreatOpenOp
import Derived.Test.YtknfjajmnlpfjaaGreatOpenOps
namespace Go.Proofs.YtknfjajmnlpfjaaGreat
open Go.RowKit
open Go.Lib (strCells compareBytes)

/-- what a drop answers, and the indexes that it leaves -/
def dropA (id : Int) (I : List (Int × List Int)) : Ans × List (Int × List Int) :=
  if idxT id I < I.length then (⟨0, false, [], [], 0⟩, I.eraseIdx (idxT id I)) else (⟨7, false, [], [], 0⟩, I)
section
variable {B sb mb d : Nat} {ix : Value} {E : Kv (Value × List TVal)} {X : List Ix} {w : World}
set_option maxRecDepth 100000 in
set_option maxHeartbeats 3200000 in
theorem drop_do (h : Store w B sb mb ix E X d) (id : Int) (hX : X.length ≤ 6) :
    Calls Tryz.prog 29 #[.pointer (some ⟨sb, 0, none⟩), .int .i64 id] w (DoPost B sb mb ix E (mapK (·.2) E) (dropA id (X.map xi)).2 d (dropA id (X.map xi)).1 w) := by
  obtain ⟨w0, hw0⟩ : ∃ w0, w.alloc (.cells #[.int .i64 0, .bool false, .slice none 0 0, .slice none 0 0, .int .i64 0] 35) = w0 := ⟨_, rfl⟩
  have hb0 : Below w.heap.size w w0 := hw0 ▸ below_alloc _ _
  have hbx : Box w0 w.heap.size 35 #[.int .i64 0, .bool false, .slice none 0 0, .slice none 0 0, .int .i64 0] := hw0 ▸ Box.made _ _ _
  have hsz : w0.heap.size = w.heap.size + 1 := by rw [← hw0]; simp
  have H := Lib.hid h
  have H0 := Lib.hid (h.below hb0)
  have Hbx := Lib.hid hbx
  have Hb0 := Lib.hid hb0
  have Hsz := Lib.hid hsz
  have HX := Lib.hid hX
  unfold dropA
  rw [← posI_idxT, List.length_map]
  clear hb0 hbx hsz h hX
  by_cases hp : posI id X < X.length
  · simp only [if_pos hp]
    have Efind : Hid (findT id X = (posI id X : Int)) := Lib.hid (by unfold findT; rw [if_pos hp])
    generalize posI id X = p at hp Efind ⊢
    have hp0 : (0 : Int) ≤ (p : Int) := by omega
    obtain ⟨Ai, ci, rfl, -, -, -⟩ := own_sliceN H.out.irow
    obtain ⟨g, rfl, -⟩ := own_head H.out.irow (by omega)
    go_enter Tryz.func29, Tryz.ntmps29
    go_wp2_with fail
    refine (find_any id H0.out).mono ?_
    rintro e w1 ⟨rfl, hb1⟩
    rw [Efind.out]
    have H1 := Lib.hid (H0.out.below hb1)
    obtain ⟨q0, q1, q2, f0, f1, f2⟩ := H1.out.cells
    have Hb1 := Lib.hid hb1
    clear hb1
    have hX6 := HX.out
    have hap := H.out.apart.2 g rfl
    have hglt := (H.out.irow.lt g rfl).2
    obtain ⟨A', c', eA, hnc, -, -⟩ := own_sliceN H.out.irow
    injection eA with eA1 _ eA3
    subst eA1; subst eA3
    have hdel := delIx_any X p (p + 1) X.length ci g B w1 H1.out.irow hp rfl (by omega) hnc (fun x hx => by obtain ⟨A, c, e, _⟩ := intcells_slice (H1.out.flds x hx); exact ⟨A, _, c, e⟩)
    rw [show ((p + 1 : Nat) : Int) = (p : Int) + 1 by omega] at hdel
    have Hdel := Lib.hid hdel
    have Hap := Lib.hid hap
    have Hglt := Lib.hid hglt
    clear hdel hap hglt hnc
    go_wp2_with fail
    refine Hdel.out.mono ?_
    rintro e w2 ⟨rfl, oA, gA⟩
    have bx2 := H1.out.box.grown gA (fun e => Hap.out.1 (by injection e with e; first | exact e | exact e.symm))
    have hb2x : Box w2 w.heap.size 35 #[.int .i64 0, .bool false, .slice none 0 0, .slice none 0 0, .int .i64 0] := (Hbx.out.below Hb1.out Hbx.out.lt).grown gA (fun e => by have := Hglt.out; injection e with e; omega)
    have hgsb : w.heap.size ≠ sb := by have := H.out.lt.1; omega
    have c1 := bx2.cell 1
    have g1 := bx2.frozen 1
    obtain ⟨w3, hw3⟩ : ∃ w3, w2.setCell ⟨sb, 1, none⟩ (.slice (some ⟨g, 0, none⟩) (X.length - 1) ci) = w3 := ⟨_, rfl⟩
    have hbx3 : Box w3 w.heap.size 35 #[.int .i64 0, .bool false, .slice none 0 0, .slice none 0 0, .int .i64 0] := hw3 ▸ hb2x.far hgsb _
    obtain ⟨r0, r1, r2, r3, r4, k0, k1, k2, k3, k4⟩ := box5 hbx3
    obtain ⟨W3, hW3⟩ : ∃ W3, ((((w3.setCell ⟨w.heap.size, 0, none⟩ (.int .i64 0)).setCell ⟨w.heap.size, 1, none⟩ (.bool false)).setCell ⟨w.heap.size, 2, none⟩ (.slice none 0 0)).setCell ⟨w.heap.size, 3, none⟩ (.slice none 0 0)).setCell ⟨w.heap.size, 4, none⟩ (.int .i64 0) = W3 := ⟨_, rfl⟩
    obtain ⟨p0, p1, p2, p3, p4, -⟩ := box5 (box5_store hbx3 hW3)
    have hbs : Box W3 sb 59 #[.map (some mb), .slice (some ⟨g, 0, none⟩) (X.length - 1) ci, .int .i64 d] := (heap5 hgsb.symm hW3).trans (hw3 ▸ bx2.set_ 1 _)
    have Hend : Hid (DoPost B sb mb (.slice (some ⟨g, 0, none⟩) X.length ci) E (mapK (·.2) E) ((X.map xi).eraseIdx p) d ⟨0, false, [], [], 0⟩ w (.returned (replyV 0 false (.slice none 0 0) (.slice none 0 0) 0)) W3) := Lib.hid (by
      have hsame := same5 hW3
      have h5 : ∀ i, i ≠ w.heap.size → i ≠ sb → W3.heap[i]? = w2.heap[i]? := fun i h1 h2 => (heap5 h1 hW3).trans (by rw [← hw3]; exact Below.heap_setCell _ _ _ _ h2)
      have hbw : Below w.heap.size w w1 := Hb0.out.trans (Hb1.out.mono (by have := Hsz.out; omega))
      have hs2 : w.heap.size ≤ w1.heap.size := hbw.size
      have hk : ∀ i, i < w.heap.size → i ≠ sb → some i ≠ some g → W3.heap[i]? = w.heap[i]? := fun i hi h1 h2 => by
        rw [h5 i (by omega) h1, gA.block i (by omega) h2, hbw.block i hi]
      have hlen : (X.eraseIdx p).length = X.length - 1 := by rw [List.length_eraseIdx, if_pos hp]
      have hrow : W3.ownsRow B 74 2 (.slice (some ⟨g, 0, none⟩) (X.length - 1) ci) (X.eraseIdx p).length (ixCells (X.eraseIdx p)) := by
        rw [hlen]
        refine own_keep oA fun i hi => ?_
        have e : i = g := by injection hi with hi; exact hi.symm
        rw [e]
        exact h5 g (by have := Hglt.out; omega) Hap.out.1
      refine ⟨_, _, E, X.eraseIdx p, rfl, ans_plain _ _ _ _ _, H.out.newIx hbs hk hrow (fun x hx => H.out.fldKept hk (List.mem_of_mem_eraseIdx hx)) (H.out.ids.sublist (List.eraseIdx_sublist _ _)) (fun x hx => H.out.nums x (List.mem_of_mem_eraseIdx hx)) H.out.most, rfl, ?_, ?_, fun i hi => .inl hi, fun q hq => .inl hq⟩
      · simp [List.eraseIdx_eq_take_drop_succ]
      · refine ⟨hsame.1.trans ?_, hsame.2.1.trans ?_, hsame.2.2.1.trans ?_, ?_, fun i hi h1 _ h3 => hk i hi h1 h3⟩
        · rw [← hw3]; exact gA.os.trans hbw.os
        · rw [← hw3]; exact gA.tape.trans hbw.tape
        · rw [← hw3]; exact gA.output.trans hbw.output
        · have h6 : W3.heap.size = w2.heap.size := hsame.2.2.2.trans (by rw [← hw3]; simp [World.setCell])
          have := gA.size
          omega)
    clear oA gA bx2 hb2x hbx3 hbs
    go_wp2
    refine bodyPost_ret (v := replyV 0 false (.slice none 0 0) (.slice none 0 0) 0) ?_ rfl Hend.out
    simp [results, Tryz.results29, go_sem, replyV, p0, p1, p2, p3, p4]
  · simp only [if_neg hp]
    have Efind : Hid (findT id X = -1) := Lib.hid (by unfold findT; rw [if_neg hp])
    clear hp
    go_enter Tryz.func29, Tryz.ntmps29
    go_wp2_with fail
    refine (find_any id H0.out).mono ?_
    rintro e w5 ⟨rfl, hb5⟩
    rw [Efind.out]
    have hbx5 := Hbx.out.below hb5 Hbx.out.lt
    obtain ⟨r0, r1, r2, r3, r4, k0, k1, k2, k3, k4⟩ := box5 hbx5
    obtain ⟨W3, hW3⟩ : ∃ W3, ((((w5.setCell ⟨w.heap.size, 0, none⟩ (.int .i64 7)).setCell ⟨w.heap.size, 1, none⟩ (.bool false)).setCell ⟨w.heap.size, 2, none⟩ (.slice none 0 0)).setCell ⟨w.heap.size, 3, none⟩ (.slice none 0 0)).setCell ⟨w.heap.size, 4, none⟩ (.int .i64 0) = W3 := ⟨_, rfl⟩
    obtain ⟨p0, p1, p2, p3, p4, -⟩ := box5 (box5_store hbx5 hW3)
    have hs0 := Hsz.out
    have Hbw := Lib.hid (below5 (Hb0.out.trans (hb5.mono (by omega))) hW3)
    clear hbx5 hb5 hs0
    go_wp2
    refine bodyPost_ret (v := replyV 7 false (.slice none 0 0) (.slice none 0 0) 0) ?_ rfl (do_same H.out (ans_plain _ _ _ _ _) Hbw.out)
    simp [results, Tryz.results29, go_sem, replyV, p0, p1, p2, p3, p4]
end
end Go.Proofs.YtknfjajmnlpfjaaGreat

namespace Go.Proofs.YtknfjajmnlpfjaaGreat
open Go.RowKit
open Go.Lib (strCells compareBytes)

section
variable {B sb mb d : Nat} {ix : Value} {E : Kv (Value × List TVal)} {X : List Ix} {w : World}
set_option maxRecDepth 100000 in
set_option maxHeartbeats 3200000 in
theorem declare_many (h : Store w B sb mb ix E X 6) (A : Option Addr) (n c : Nat) :
    Calls Tryz.prog 28 #[.pointer (some ⟨sb, 0, none⟩), .slice A n c] w (DoPost B sb mb ix E (mapK (·.2) E) (X.map xi) 6 ⟨17, false, [], [], 0⟩ w) := by
  obtain ⟨w0, hw0⟩ : ∃ w0, w.alloc (.cells #[.int .i64 0, .bool false, .slice none 0 0, .slice none 0 0, .int .i64 0] 35) = w0 := ⟨_, rfl⟩
  have hb0 : Below w.heap.size w w0 := hw0 ▸ below_alloc _ _
  have hbx : Box w0 w.heap.size 35 #[.int .i64 0, .bool false, .slice none 0 0, .slice none 0 0, .int .i64 0] := hw0 ▸ Box.made _ _ _
  obtain ⟨q0, q1, q2, f0, f1, f2⟩ := (h.below hb0).cells
  have H := Lib.hid h
  obtain ⟨r0, r1, r2, r3, r4, k0, k1, k2, k3, k4⟩ := box5 hbx
  obtain ⟨W3, hW3⟩ : ∃ W3, ((((w0.setCell ⟨w.heap.size, 0, none⟩ (.int .i64 17)).setCell ⟨w.heap.size, 1, none⟩ (.bool false)).setCell ⟨w.heap.size, 2, none⟩ (.slice none 0 0)).setCell ⟨w.heap.size, 3, none⟩ (.slice none 0 0)).setCell ⟨w.heap.size, 4, none⟩ (.int .i64 0) = W3 := ⟨_, rfl⟩
  obtain ⟨p0, p1, p2, p3, p4, -⟩ := box5 (box5_store hbx hW3)
  have Hbw := Lib.hid (below5 hb0 hW3)
  clear hb0 hbx h
  go_enter Tryz.func28, Tryz.ntmps28
  go_wp2
  refine bodyPost_ret (v := replyV 17 false (.slice none 0 0) (.slice none 0 0) 0) ?_ rfl (do_same H.out (ans_plain _ _ _ _ _) Hbw.out)
  simp [results, Tryz.results28, go_sem, replyV, p0, p1, p2, p3, p4]
end
end Go.Proofs.YtknfjajmnlpfjaaGreat

namespace Go.Proofs.YtknfjajmnlpfjaaGreat
open Go.RowKit
open Go.Lib (strCells compareBytes)

/-- what Do answers to o on records M and indexes I of which n were declared, and what it leaves -/
def doT (o : TOp) (M : Kv (List TVal)) (I : List (Int × List Int)) (n : Nat) : Ans × Kv (List TVal) × List (Int × List Int) × Nat :=
  if ¬ checkT o = 0 then (⟨(checkT o : Int), false, [], [], 0⟩, M, I, n)
  else if o.k = 1 then (⟨0, (getK o.key.data.toList M).isSome, [], [], 0⟩, putK o.key.data.toList o.rc M, I, n)
  else if o.k = 2 then (⟨0, (getK o.key.data.toList M).isSome, [], [], 0⟩, delK o.key.data.toList M, I, n)
  else if o.k = 3 then (⟨0, (getK o.key.data.toList M).isSome, (getK o.key.data.toList M).getD [], [], 0⟩, M, I, n)
  else if o.k = 4 then ((casA o.key.data.toList o.old o.rc M).1, (casA o.key.data.toList o.old o.rc M).2, I, n)
  else if o.k = 5 then (scanA o.key.data.toList o.to.data.toList o.lim.toNat M, M, I, n)
  else if o.k = 6 then (queryA o.id I o.low o.high o.lim.toNat M, M, I, n)
  else if o.k = 7 then (if n = 6 then (⟨17, false, [], [], 0⟩, M, I, n) else (⟨0, false, [], [], (n : Int) + 1⟩, M, I ++ [((n : Int) + 1, o.fs)], n + 1))
  else if o.k = 8 then ((dropA o.id I).1, M, (dropA o.id I).2, n)
  else (⟨0, false, [], [], 0⟩, M, I, n)

theorem firstN_all : ∀ {l : List Nat}, firstN l = 0 → ∀ x ∈ l, x = 0
  | [], _, x, hx => by simp at hx
  | e :: l, h, x, hx => by
    unfold firstN at h
    by_cases he : e = 0
    · rw [if_pos he] at h
      rcases List.mem_cons.1 hx with rfl | hx
      · exact he
      · exact firstN_all h x hx
    · rw [if_neg he] at h
      exact absurd h he
theorem inE_ok {n lo hi : Int} (h : inE n lo hi = 0) : lo ≤ n ∧ n ≤ hi := by
  unfold inE at h
  split at h
  · cases h
  · omega
theorem keyE_ok {s : ByteArray} (h : keyE s = 0) : keyOk s.data.toList = true ∧ s.size ≤ 16 := by
  unfold keyE at h
  split at h
  · rename_i hk
    refine ⟨hk, ?_⟩
    unfold keyOk at hk
    simp only [Bool.and_eq_true, decide_eq_true_eq] at hk
    rw [Lib.size_eq]; exact hk.2
  · cases h
theorem rise_len : ∀ (X : List Ix) (a d : Int), a ≤ d → (X.Pairwise fun x y => x.num < y.num) → (∀ x ∈ X, a < x.num ∧ x.num ≤ d) → (X.length : Int) ≤ d - a
  | [], a, d, h, _, _ => by simp; omega
  | x :: l, a, d, _, hp, hx => by
    have hp' := List.pairwise_cons.1 hp
    have h1 := hx x (by simp)
    have := rise_len l x.num d h1.2 hp'.2 (fun y hy => ⟨hp'.1 y hy, (hx y (by simp [hy])).2⟩)
    simp only [List.length_cons]
    omega
section
variable {B sb mb d : Nat} {ix : Value} {E : Kv (Value × List TVal)} {X : List Ix} {w : World}
theorem Store.few (h : Store w B sb mb ix E X d) : X.length ≤ 6 := by
  have := rise_len X 0 d (by omega) h.ids (fun x hx => by have := h.nums x hx; omega)
  have := h.most
  omega
theorem do_any (h : Store w B sb mb ix E X d) (v : Value) (o : TOp) (C : Nat) (hC : C ≤ sb) (ho : OpIs w C v o) (hE : E.length ≤ 1000) :
    Calls Tryz.prog 9 #[.pointer (some ⟨sb, 0, none⟩), v] w
      (DoPost B sb mb ix E (doT o (mapK (·.2) E) (X.map xi) d).2.1 (doT o (mapK (·.2) E) (X.map xi) d).2.2.1 (doT o (mapK (·.2) E) (X.map xi) d).2.2.2 (doT o (mapK (·.2) E) (X.map xi) d).1 w) := by
  have hCw : C ≤ w.heap.size := by have := h.lt.1; omega
  have ho' := ho
  obtain ⟨rv, ov, fv, lv, hv, rfl, h1, h2, h3, h4, h5⟩ := ho
  have g1 := h1
  have g2 := h2
  have g3 := h3
  have g4 := h4
  have g5 := h5
  obtain ⟨Ar, nr, cr, rfl, -, -, -, hin⟩ := h1
  obtain ⟨Ao, no, co, rfl, -⟩ := h2
  obtain ⟨Af, nf, cf, rfl, -, -, hfh, -⟩ := h3
  obtain ⟨Al, nl, cl, rfl, -⟩ := h4
  obtain ⟨Ah, nh, ch, rfl, -⟩ := h5
  obtain ⟨k, key, to, rc, old, id, fs, low, high, lim, sp, nd⟩ := o
  unfold doT
  by_cases hz : checkT ⟨k, key, to, rc, old, id, fs, low, high, lim, sp, nd⟩ = 0
  · rw [if_neg (by simpa using hz)]
    have hall := firstN_all hz
    unfold errsT at hall
    dsimp only at hall ⊢
    by_cases k1 : k = 1
    · subst k1
      have a0 := keyE_ok (hall (keyE key) (by simp))
      have a1 := hall (recErr rc) (by simp)
      exact do_k1 h C hCw key to rc old low high id lim sp nd fs Ar Ao Af Al Ah nr cr no co nf cf nl cl nh ch ho' hz
        (fun w1 hb => put_do (h.below hb) key _ rc C (g1.belowOf hb hCw) (Nat.le_trans hCw hb.size) ⟨a1, hin⟩ a0.1 hE)
    rw [if_neg k1]
    by_cases k2 : k = 2
    · subst k2
      have a0 := keyE_ok (hall (keyE key) (by simp))
      exact do_k2 h C hCw key to rc old low high id lim sp nd fs Ar Ao Af Al Ah nr cr no co nf cf nl cl nh ch ho' hz
        (fun w1 hb => del_do (h.below hb) key (by omega))
    rw [if_neg k2]
    by_cases k3 : k = 3
    · subst k3
      have a0 := keyE_ok (hall (keyE key) (by simp))
      exact do_k3 h C hCw key to rc old low high id lim sp nd fs Ar Ao Af Al Ah nr cr no co nf cf nl cl nh ch ho' hz
        (fun w1 hb => get_do (h.below hb) key (by simp only [maxLen]; omega))
    rw [if_neg k3]
    by_cases k4 : k = 4
    · subst k4
      have a0 := keyE_ok (hall (keyE key) (by simp))
      have a1 := hall (recErr rc) (by simp)
      exact do_k4 h C hCw key to rc old low high id lim sp nd fs Ar Ao Af Al Ah nr cr no co nf cf nl cl nh ch ho' hz
        (fun w1 hb => cas_do (h.below hb) key _ _ old rc C (g2.belowOf hb hCw) (g1.belowOf hb hCw) (Nat.le_trans hCw hb.size) ⟨a1, hin⟩ a0.1 hE)
    rw [if_neg k4]
    by_cases k5 : k = 5
    · subst k5
      have a0 := inE_ok (hall (inE lim 1 64) (by simp))
      obtain ⟨m, rfl⟩ : ∃ m : Nat, lim = (m : Int) := ⟨lim.toNat, by omega⟩
      exact do_k5 h C hCw key to rc old low high id m sp nd fs Ar Ao Af Al Ah nr cr no co nf cf nl cl nh ch ho' hz
        (fun w1 hb => scan_do (h.below hb) key to m hE (by omega))
    rw [if_neg k5]
    by_cases k6 : k = 6
    · subst k6
      have a0 := inE_ok (hall (inE lim 1 64) (by simp))
      obtain ⟨m, rfl⟩ : ∃ m : Nat, lim = (m : Int) := ⟨lim.toNat, by omega⟩
      exact do_k6 h C hCw key to rc old low high id m sp nd fs Ar Ao Af Al Ah nr cr no co nf cf nl cl nh ch ho' hz
        (fun w1 hb => query_do (h.below hb) id _ _ low high m C (g4.belowOf hb hCw) (g5.belowOf hb hCw) (Nat.le_trans hCw hb.size) hE (by omega))
    rw [if_neg k6]
    by_cases k7 : k = 7
    · subst k7
      have a0 := hall (idxErr 1 fs) (by simp)
      by_cases hd : d = 6
      · subst hd
        exact do_k7 h C hCw key to rc old low high id lim sp nd fs Ar Ao Af Al Ah nr cr no co nf cf nl cl nh ch ho' hz
          (fun w1 hb => declare_many (h.below hb) _ _ _)
      · rw [if_neg hd]
        have hlt : d < 6 := by have := h.most; omega
        exact do_k7 h C hCw key to rc old low high id lim sp nd fs Ar Ao Af Al Ah nr cr no co nf cf nl cl nh ch ho' hz
          (fun w1 hb => declare_do (h.below hb) _ fs C (g3.belowOf hb hCw) (Nat.le_trans hCw hb.size) (fun a n c e => by
            injection e with e1 _ _
            subst e1
            have hpos : 0 < nf := by
              rcases Nat.eq_zero_or_pos nf with h0 | h0
              · subst h0
                have h6 : fs.length = 0 := hfh.1
                unfold idxErr at a0
                rw [if_pos (.inr h6)] at a0
                cases a0
              · exact h0
            obtain ⟨a', ea, hab, _⟩ := hfh.2.cell hpos
            injection ea with ea
            rw [ea]
            omega) a0 hlt h.few)
    rw [if_neg k7]
    by_cases k8 : k = 8
    · subst k8
      exact do_k8 h C hCw key to rc old low high id lim sp nd fs Ar Ao Af Al Ah nr cr no co nf cf nl cl nh ch ho' hz
        (fun w1 hb => drop_do (h.below hb) id h.few)
    rw [if_neg k8]
    have hk : 8 < k := by
      rcases Int.lt_or_le 8 k with hk | hk
      · exact hk
      · exfalso
        have := hall 1 (by
          rw [if_neg k1, if_neg (by omega), if_neg k4, if_neg k5, if_neg k6, if_neg k7, if_neg k8, if_neg (by omega), if_neg (by omega), if_neg (by omega)]
          simp)
        cases this
    exact do_other h C hCw k key to rc old low high id lim sp nd fs Ar Ao Af Al Ah nr cr no co nf cf nl cl nh ch ho' hz hk
  · rw [if_pos hz]
    exact do_err h C hCw k key to rc old low high id lim sp nd fs Ar Ao Af Al Ah nr cr no co nf cf nl cl nh ch ho' hz
end
end Go.Proofs.YtknfjajmnlpfjaaGreat

namespace Go.Proofs.YtknfjajmnlpfjaaGreat
open Go.RowKit
open Go.Lib (strCells compareBytes)

def SomeBool (w : World) (e : Ending) (w' : World) : Prop := ∃ b : Bool, e = .returned (.bool b) ∧ Below w.heap.size w w'
theorem light_some (v : Value) (l : List TVal) (B : Nat) (w : World) (h : IsVals w B v l) (hs : ∀ u ∈ l, u.s.size ≤ maxLen) : Calls Tryz.prog 43 #[v, .int .i64 300] w fun e w' => ∃ b : Bool, e = .returned (.bool b) ∧ w = w' := by
  obtain ⟨A, n, c, rfl, h1, h2, h3, -⟩ := h
  refine (light_any A n c B 300 l w h3 (Nat.le_trans h1 h2) (by omega) hs).mono ?_
  rintro e w' ⟨b, rfl, -, rfl⟩
  exact ⟨b, rfl, rfl⟩
set_option maxRecDepth 100000 in
set_option maxHeartbeats 3200000 in
theorem lightOp_any (v : Value) (o : TOp) (B : Nat) (w : World) (hB : B ≤ w.heap.size) (ho : OpIs w B v o) (hsh : OpShort o) : Calls Tryz.prog 19 #[v] w (SomeBool w) := by
  obtain ⟨rv, ov, fv, lv, hv, rfl, h1, h2, h3, h4, h5⟩ := ho
  obtain ⟨s1, s2, s3, s4, -⟩ := hsh
  have K1 := Lib.hid (fun wx (hb : Below w.heap.size w wx) => light_some rv o.rc B wx (h1.belowOf hb hB) s1)
  have K2 := Lib.hid (fun wx (hb : Below w.heap.size w wx) => light_some ov o.old B wx (h2.belowOf hb hB) s2)
  have K3 := Lib.hid (fun wx (hb : Below w.heap.size w wx) => light_some lv o.low B wx (h4.belowOf hb hB) s3)
  have K4 := Lib.hid (fun wx (hb : Below w.heap.size w wx) => light_some hv o.high B wx (h5.belowOf hb hB) s4)
  obtain ⟨A1, n1, c1, rfl, -⟩ := h1
  obtain ⟨A2, n2, c2, rfl, -⟩ := h2
  obtain ⟨A3, n3, c3, rfl, -⟩ := h3
  obtain ⟨A4, n4, c4, rfl, -⟩ := h4
  obtain ⟨A5, n5, c5, rfl, -⟩ := h5
  clear s1 s2 s3 s4
  obtain ⟨k, key, to, rc, old, id, fs, low, high, lim, sp, nd⟩ := o
  unfold opCells
  by_cases hk : key.size ≤ 300
  · by_cases ht : to.size ≤ 300
    · by_cases hf : n3 ≤ 300
      · go_enter Tryz.func19, Tryz.ntmps19
        go_wp2_with fail
        refine (K1.out _ (below_alloc _ _)).mono ?_
        rintro e w1 ⟨b1, rfl, rfl⟩
        cases b1 with
        | false => go_wp2; go_ret; exact ⟨false, rfl, below_alloc _ _⟩
        | true =>
          go_wp2_with fail
          refine (K2.out _ (below_alloc _ _)).mono ?_
          rintro e w1 ⟨b1, rfl, rfl⟩
          cases b1 with
          | false => go_wp2; go_ret; exact ⟨false, rfl, below_alloc _ _⟩
          | true =>
            go_wp2_with fail
            refine (K3.out _ (below_alloc _ _)).mono ?_
            rintro e w1 ⟨b1, rfl, rfl⟩
            cases b1 with
            | false => go_wp2; go_ret; exact ⟨false, rfl, below_alloc _ _⟩
            | true =>
              go_wp2_with fail
              refine (K4.out _ (below_alloc _ _)).mono ?_
              rintro e w1 ⟨b1, rfl, rfl⟩
              go_wp2
              go_ret
              exact ⟨b1, rfl, below_alloc _ _⟩
      · go_enter Tryz.func19, Tryz.ntmps19
        go_wp2
        go_ret
        exact ⟨false, rfl, below_alloc _ _⟩
    · go_enter Tryz.func19, Tryz.ntmps19
      go_wp2
      go_ret
      exact ⟨false, rfl, below_alloc _ _⟩
  · go_enter Tryz.func19, Tryz.ntmps19
    go_wp2
    go_ret
    exact ⟨false, rfl, below_alloc _ _⟩
end Go.Proofs.YtknfjajmnlpfjaaGreat

namespace Go.Proofs.YtknfjajmnlpfjaaGreat
open Go.RowKit
open Go.Lib (strCells compareBytes)

/-- operation i of a row: its cells -/
theorem ops_at {w : World} {B n : Nat} {A : Option Addr} {l : List TOp} (h : HasOps w B A n l) {i : Nat} (hi : i < n) : ∃ (a : Addr) (o : TOp) (rv ov fv lv hv : Value), A = some a ∧ a.block < B ∧ l[i]? = some o ∧ OpIs w B (.agg (opCells o rv ov fv lv hv)) o ∧
    w.cell? (a.add (i * 12)) = some (.int .i64 o.k) ∧ w.cell? ⟨(a.add (i * 12)).block, (a.add (i * 12)).off + 1, none⟩ = some (.string o.key) ∧ w.cell? ⟨(a.add (i * 12)).block, (a.add (i * 12)).off + 2, none⟩ = some (.string o.to) ∧
    w.cell? ⟨(a.add (i * 12)).block, (a.add (i * 12)).off + 3, none⟩ = some rv ∧ w.cell? ⟨(a.add (i * 12)).block, (a.add (i * 12)).off + 4, none⟩ = some ov ∧ w.cell? ⟨(a.add (i * 12)).block, (a.add (i * 12)).off + 5, none⟩ = some (.int .i64 o.id) ∧
    w.cell? ⟨(a.add (i * 12)).block, (a.add (i * 12)).off + 6, none⟩ = some fv ∧ w.cell? ⟨(a.add (i * 12)).block, (a.add (i * 12)).off + 7, none⟩ = some lv ∧ w.cell? ⟨(a.add (i * 12)).block, (a.add (i * 12)).off + 8, none⟩ = some hv ∧
    w.cell? ⟨(a.add (i * 12)).block, (a.add (i * 12)).off + 9, none⟩ = some (.int .i64 o.lim) ∧ w.cell? ⟨(a.add (i * 12)).block, (a.add (i * 12)).off + 10, none⟩ = some (.int .i64 o.sp) ∧ w.cell? ⟨(a.add (i * 12)).block, (a.add (i * 12)).off + 11, none⟩ = some (.int .i64 o.nd) := by
  have hil : i < l.length := by have := h.1; omega
  obtain ⟨a, cs, rfl, hab, h12, hc, ho⟩ := h.2 i l[i] (List.getElem?_eq_getElem hil)
  obtain ⟨rv, ov, fv, lv, hv, e, hr⟩ := ho
  injection e with e
  subst e
  have hs : ∀ k, 0 < k → (a.add (i * 12)).add k = ⟨(a.add (i * 12)).block, (a.add (i * 12)).off + k, none⟩ := fun k hk => by rw [addr_add, addr_step a (i * 12) k hk]
  refine ⟨a, l[i], rv, ov, fv, lv, hv, rfl, hab, List.getElem?_eq_getElem hil, ⟨rv, ov, fv, lv, hv, rfl, hr⟩, ?_, ?_, ?_, ?_, ?_, ?_, ?_, ?_, ?_, ?_, ?_, ?_⟩
  · have h0 := hc 0 _ rfl; rw [addr_add, Nat.add_zero] at h0; exact h0
  · rw [← hs 1 (by omega)]; exact hc 1 _ rfl
  · rw [← hs 2 (by omega)]; exact hc 2 _ rfl
  · rw [← hs 3 (by omega)]; exact hc 3 _ rfl
  · rw [← hs 4 (by omega)]; exact hc 4 _ rfl
  · rw [← hs 5 (by omega)]; exact hc 5 _ rfl
  · rw [← hs 6 (by omega)]; exact hc 6 _ rfl
  · rw [← hs 7 (by omega)]; exact hc 7 _ rfl
  · rw [← hs 8 (by omega)]; exact hc 8 _ rfl
  · rw [← hs 9 (by omega)]; exact hc 9 _ rfl
  · rw [← hs 10 (by omega)]; exact hc 10 _ rfl
  · rw [← hs 11 (by omega)]; exact hc 11 _ rfl
set_option maxRecDepth 100000 in
set_option maxHeartbeats 3200000 in
theorem allLight_any (v : Value) (l : List TOp) (C most : Nat) (w : World) (hC : C ≤ w.heap.size) (ho : IsOps w C v l) (hsh : ∀ o ∈ l, OpShort o) (hm : most ≤ 1000) :
    Calls Tryz.prog 5 #[v, .int .i64 (most : Int)] w fun e w' => ∃ b : Bool, e = .returned (.bool b) ∧ Below w.heap.size w w' ∧ (b = true → l.length ≤ most) := by
  obtain ⟨A, n, c, rfl, h1, h2, h3⟩ := ho
  have Hl : Hid (l.length = n) := Lib.hid h3.1
  have H := Lib.hid h3
  have HC := Lib.hid hC
  have Hsh := Lib.hid hsh
  clear h3 hsh
  unfold maxLen at h2
  by_cases hn : n ≤ most
  · have hdn : decide (most < n) = false := decide_eq_false (by omega)
    go_enter Tryz.func5, Tryz.ntmps5
    go_wp2
    go_loopw [4, 5] (fun _ i wr => ∃ k : Nat, k ≤ n ∧ i = .int .i64 (k : Int) ∧ Below w.heap.size w wr) (fun _ i _ => n - (intOf i).toNat)
    case atStart => exact ⟨0, by omega, rfl, Below.refl _ _⟩
    case round =>
      obtain ⟨k, hk, rfl, hb⟩ := hrel
      have Hb := Lib.hid hb
      by_cases hlt : k < n
      · obtain ⟨a, o, rv, ov, fv, lv, hv, rfl, hab, hol, hop, d0, d1, d2, d3, d4, d5, d6, d7, d8, d9, d10, d11⟩ := ops_at (H.out.belowOf hb hC) hlt
        have Hcall := Lib.hid (lightOp_any _ o C wr (Nat.le_trans hC hb.size) hop (Hsh.out o (List.mem_of_getElem? hol)))
        unfold opCells at Hcall
        have hk0 : (0 : Int) ≤ (k : Int) := by omega
        have hk1 : (k : Int) < (n : Int) := by omega
        clear hop hb hol
        go_wp2_with fail
        refine Hcall.out.mono ?_
        rintro e w2 ⟨b, rfl, hb2⟩
        have Hb2 := Lib.hid (Below.then Hb.out hb2)
        clear hb2
        cases b with
        | false =>
          go_wp2
          go_ret
          exact ⟨false, rfl, Hb2.out, by simp⟩
        | true =>
          go_wp2
          go_roundw
          case rel => exact ⟨k + 1, by omega, by go_num, Hb2.out⟩
          case measure => simp [intOf]; omega
      · go_wp2
        go_ret
        exact ⟨true, rfl, Hb.out, fun _ => by rw [Hl.out]; exact hn⟩
  · go_enter Tryz.func5, Tryz.ntmps5
    go_wp2
    go_ret
    exact ⟨false, rfl, Below.refl _ _, by simp⟩
end Go.Proofs.YtknfjajmnlpfjaaGreat

namespace Go.Proofs.YtknfjajmnlpfjaaGreat
open Go.RowKit
open Go.Lib (strCells compareBytes)

abbrev PSt := Kv (List TVal) × List (Int × List Int) × Nat
def stepT (S : PSt) (o : TOp) : PSt := (doT o S.1 S.2.1 S.2.2).2
def runT (l : List TOp) : PSt := l.foldl stepT ([], [], 0)
theorem runT_snoc (l : List TOp) (o : TOp) : runT (l ++ [o]) = stepT (runT l) o := by simp [runT]
theorem putK_len {α : Type} (k : List UInt8) (a : α) : ∀ (l : Kv α), (putK k a l).length ≤ l.length + 1
  | [] => by simp [putK]
  | p :: l => by
    have := putK_len k a l
    unfold putK
    repeat' split
    all_goals simp
    all_goals omega
theorem delK_len {α : Type} (k : List UInt8) : ∀ (l : Kv α), (delK k l).length ≤ l.length
  | [] => by simp [delK]
  | p :: l => by
    have := delK_len k l
    unfold delK
    repeat' split
    all_goals simp
    all_goals omega
theorem stepT_len (S : PSt) (o : TOp) : (stepT S o).1.length ≤ S.1.length + 1 := by
  unfold stepT doT casA
  repeat' split
  all_goals first | exact putK_len _ _ _ | exact Nat.le_succ_of_le (delK_len _ _) | simp
theorem mapK_len {α β : Type} (f : α → β) (E : Kv α) : (mapK f E).length = E.length := by simp [mapK]
section
variable {B sb mb d : Nat} {ix : Value} {E : Kv (Value × List TVal)} {X : List Ix} {w w' : World}
/-- what only the store owns lies at B or above -/
theorem Store.kept (h : Store w B sb mb ix E X d) (k : Kept3 sb mb ix w w') (hB : B ≤ w.heap.size) : Below B w w' :=
  ⟨k.os, k.tape, k.output, k.size, fun i hi => k.block i (by omega) (fun e => by have := h.sB; omega) (fun e => by have := h.mB; omega) (fun e => by have := (h.irow.lt i e.symm).1; omega)⟩
/-- the store stands as the state says -/
def Stands (w : World) (B sb mb : Nat) (S : PSt) : Prop := ∃ ix E X, Store w B sb mb ix E X S.2.2 ∧ mapK (·.2) E = S.1 ∧ X.map xi = S.2.1
theorem Stands.below {S : PSt} (h : Stands w B sb mb S) (hb : Below w.heap.size w w') : Stands w' B sb mb S := by
  obtain ⟨ix, E, X, h1, h2, h3⟩ := h
  exact ⟨ix, E, X, h1.below hb, h2, h3⟩
/-- Do, from a state to the next -/
theorem step_any {S : PSt} (h : Stands w B sb mb S) (v : Value) (o : TOp) (C : Nat) (hC : C ≤ sb) (ho : OpIs w C v o) (hl : S.1.length ≤ 1000) :
    Calls Tryz.prog 9 #[.pointer (some ⟨sb, 0, none⟩), v] w fun e w' => ∃ u, e = .returned u ∧ AnsIs w' w.heap.size u (doT o S.1 S.2.1 S.2.2).1 ∧ Stands w' B sb mb (stepT S o) ∧ Below B w w' := by
  obtain ⟨ix, E, X, h1, h2, h3⟩ := h
  have hE : E.length ≤ 1000 := by rw [← h2, mapK_len] at hl; exact hl
  have hd := do_any h1 v o C hC ho hE
  rw [h2, h3] at hd
  refine hd.mono ?_
  rintro e w' ⟨u, ix', E', X', rfl, ha, hs, hM, hI, hk, -, -⟩
  exact ⟨u, rfl, ha, ⟨ix', E', X', hs, hM, hI⟩, h1.kept hk (by have := h1.lt.1; have := h1.sB; omega)⟩
end
end Go.Proofs.YtknfjajmnlpfjaaGreat

namespace Go.Proofs.YtknfjajmnlpfjaaGreat
open Go.RowKit
open Go.Lib (strCells compareBytes)

set_option maxRecDepth 100000 in
set_option maxHeartbeats 1600000 in
theorem same_any (A A' : Option Addr) (n n' c c' C C' : Nat) (l m : List TVal) (w : World) (h : HasVals w C A n l) (h' : HasVals w C' A' n' m) (hn : n ≤ maxLen) (hn' : n' ≤ maxLen) :
    Calls Tryz.prog 20 #[.slice A n c, .slice A' n' c'] w fun e w' => e = .returned (.bool (decide (l = m))) ∧ Below w.heap.size w w' := by
  unfold maxLen at hn hn'
  have H := Lib.hid h
  have H' := Lib.hid h'
  have Hl := Lib.hid h.1
  have Hm := Lib.hid h'.1
  clear h h'
  by_cases hnn : n = n'
  · subst hnn
    go_enter Tryz.func20, Tryz.ntmps20
    go_wp2
    go_loopw [5] (fun i wr => ∃ k : Nat, k ≤ n ∧ i = .int .i64 (k : Int) ∧ Hid (l.take k = m.take k) ∧ ∃ q, wr = w.drewN q) (fun i _ => n - (intOf i).toNat)
    case atStart => exact ⟨0, by omega, rfl, Lib.hid rfl, 0, rfl⟩
    case round =>
      obtain ⟨k, hk, rfl, Ht, q, rfl⟩ := hrel
      by_cases hlt : k < n
      · obtain ⟨a, v, rfl, _, hv, c0, c1, c2⟩ := H.out.at_ hlt
        obtain ⟨b, u, rfl, _, hu, d0, d1, d2⟩ := H'.out.at_ hlt
        have hk0 : (0 : Int) ≤ (k : Int) := by omega
        have hk1 : (k : Int) < (n : Int) := by omega
        have Hv := Lib.hid hv
        have Hu := Lib.hid hu
        clear hv hu
        by_cases e : v = u
        · subst e
          go_wp2
          go_quiet (fail)
          go_wp2
          go_roundw
          case rel => exact ⟨k + 1, by omega, by go_num, Lib.hid (by rw [List.take_add_one, List.take_add_one, Ht.out, Hv.out, Hu.out]), _, rfl⟩
          case measure => simp [intOf]; omega
        · have E : Hid (decide (l = m) = false) := Lib.hid (decide_eq_false fun e' => by
            rw [e', Hu.out] at Hv
            exact e (Option.some.inj Hv.out).symm)
          obtain ⟨vk, vn, vs⟩ := v
          obtain ⟨uk, un, us⟩ := u
          have hx : (vk ≠ uk) ∨ (vk = uk ∧ vn ≠ un) ∨ (vk = uk ∧ vn = un ∧ vs ≠ us) := by
            by_cases h1 : vk = uk
            · by_cases h2 : vn = un
              · exact .inr (.inr ⟨h1, h2, fun h3 => e (by rw [h1, h2, h3])⟩)
              · exact .inr (.inl ⟨h1, h2⟩)
            · exact .inl h1
          simp only at c0 c1 c2 d0 d1 d2
          clear e
          rcases hx with hx | ⟨rfl, hx⟩ | ⟨rfl, rfl, hx⟩
          · have hb : (vk == uk) = false := by simpa using hx
            clear hx
            go_wp2
            go_quiet (fail)
            go_wp2
            go_ret
            exact ⟨ret_bool (by rw [E.out]), below_drews (below_drews (Below.refl _ _) _) _⟩
          · have hb : (vn == un) = false := by simpa using hx
            clear hx
            go_wp2
            go_quiet (fail)
            go_wp2
            go_ret
            exact ⟨ret_bool (by rw [E.out]), below_drews (below_drews (Below.refl _ _) _) _⟩
          · have hb2 : (vs.toList == us.toList) = false := by rw [eq_toList]; exact decide_eq_false fun e => hx (bytes_ext e)
            go_wp2
            go_quiet (fail)
            go_wp2
            go_ret
            exact ⟨ret_bool (by rw [E.out]), below_drews (below_drews (Below.refl _ _) _) _⟩
      · have E : Hid (decide (l = m) = true) := Lib.hid (decide_eq_true (by
          have h1 := Ht.out
          rwa [List.take_of_length_le (by have := Hl.out; omega), List.take_of_length_le (by have := Hm.out; omega)] at h1))
        go_wp2
        go_ret
        exact ⟨ret_bool (by rw [E.out]), below_drews (Below.refl _ _) _⟩
  · have E : Hid (decide (l = m) = false) := Lib.hid (decide_eq_false fun e => hnn (by rw [← Hl.out, ← Hm.out, e]))
    have hb : ((n : Int) != (n' : Int)) = true := by simp; omega
    clear hnn
    go_enter Tryz.func20, Tryz.ntmps20
    go_wp2
    go_ret
    exact ⟨ret_bool (by rw [E.out]), Below.refl _ _⟩
end Go.Proofs.YtknfjajmnlpfjaaGreat

namespace Go.Proofs.YtknfjajmnlpfjaaGreat
open Go.RowKit
open Go.Lib (strCells compareBytes)

def HasRows (w : World) (B : Nat) (A : Option Addr) (n : Nat) (rs : Kv (Value × List TVal)) : Prop :=
  rs.length = n ∧ Has w B A (n * 2) (rowCells rs) ∧ ∀ r ∈ rs, ∃ A' m c, r.2.1 = .slice A' m c ∧ m ≤ maxLen ∧ HasVals w B A' m r.2.2
theorem HasRows.belowOf {w w' : World} {B C n : Nat} {A : Option Addr} {rs : Kv (Value × List TVal)} (h : HasRows w B A n rs) (hb : Below C w w') (hC : B ≤ C) : HasRows w' B A n rs :=
  ⟨h.1, h.2.1.belowOf hb hC, fun r hr => by
    obtain ⟨A', m, c, e, h1, h2⟩ := h.2.2 r hr
    exact ⟨A', m, c, e, h1, h2.belowOf hb hC⟩⟩
/-- row i: its key and its record -/
theorem row_at {w : World} {B n : Nat} {A : Option Addr} {rs : Kv (Value × List TVal)} (h : HasRows w B A n rs) {i : Nat} (hi : i < n) : ∃ (a : Addr) (s : ByteArray) (A' : Option Addr) (m c : Nat) (r : List TVal) (x : List UInt8 × Value × List TVal), A = some a ∧ a.block < B ∧ rs[i]? = some x ∧ x.1 = s.data.toList ∧ x.2.2 = r ∧ m ≤ maxLen ∧ HasVals w B A' m r ∧
    w.cell? (a.add (i * 2)) = some (.string s) ∧ w.cell? ⟨(a.add (i * 2)).block, (a.add (i * 2)).off + 1, none⟩ = some (.slice A' m c) := by
  have hil : i < rs.length := by have := h.1; omega
  obtain ⟨A', m, c, e, h1, h2⟩ := h.2.2 rs[i] (List.getElem_mem hil)
  obtain ⟨c0, c1⟩ := rowCells_at rs i rs[i] (List.getElem?_eq_getElem hil)
  obtain ⟨a, rfl, hb, hc⟩ := h.2.1.all (by omega)
  refine ⟨a, ⟨rs[i].1.toArray⟩, A', m, c, _, rs[i], rfl, hb, List.getElem?_eq_getElem hil, by simp, rfl, h1, h2, hc _ _ c0, ?_⟩
  rw [← addr_step a _ 1 (by omega), ← e]
  exact hc _ _ c1
theorem mapK_at {α β : Type} {f : α → β} {l : Kv α} {i : Nat} {x : List UInt8 × α} (h : l[i]? = some x) : (mapK f l)[i]? = some (x.1, f x.2) := by simp [mapK, h]
theorem mapK_take {α β : Type} (f : α → β) (l : Kv α) (i : Nat) : mapK f (l.take i) = (mapK f l).take i := by simp [mapK, List.map_take]
set_option maxRecDepth 100000 in
set_option maxHeartbeats 1600000 in
theorem sameRows_any (A A' : Option Addr) (n n' c c' C C' : Nat) (rs rs' : Kv (Value × List TVal)) (w : World) (h : HasRows w C A n rs) (h' : HasRows w C' A' n' rs') (hC : C ≤ w.heap.size) (hC' : C' ≤ w.heap.size) (hn : n ≤ 1000) :
    Calls Tryz.prog 14 #[.slice A n c, .slice A' n' c'] w fun e w' => e = .returned (.bool (decide (mapK (·.2) rs = mapK (·.2) rs'))) ∧ Below w.heap.size w w' := by
  have H := Lib.hid h
  have H' := Lib.hid h'
  have Hl := Lib.hid h.1
  have Hm := Lib.hid h'.1
  have HC := Lib.hid hC
  have HC' := Lib.hid hC'
  clear h h'
  by_cases hnn : n = n'
  · subst hnn
    have hnb : ((n : Int) != (n : Int)) = false := by simp
    go_enter Tryz.func14, Tryz.ntmps14
    go_wp2
    go_loopw [4, 5] (fun _ i wr => ∃ k : Nat, k ≤ n ∧ i = .int .i64 (k : Int) ∧ Hid ((mapK (·.2) rs).take k = (mapK (·.2) rs').take k) ∧ Below w.heap.size w wr) (fun _ i _ => n - (intOf i).toNat)
    case atStart => exact ⟨0, by omega, rfl, Lib.hid rfl, Below.refl _ _⟩
    case round =>
      obtain ⟨k, hk, rfl, Ht, hb⟩ := hrel
      have Hb := Lib.hid hb
      clear hb
      by_cases hlt : k < n
      · obtain ⟨a, s, A1, m1, c1, r1, x1, rfl, hab, hx1, hs1, hr1, hm1, hv1, d0, d1⟩ := row_at (H.out.belowOf Hb.out HC.out) hlt
        obtain ⟨b, t, A2, m2, c2, r2, x2, rfl, hab', hx2, hs2, hr2, hm2, hv2, e0, e1⟩ := row_at (H'.out.belowOf Hb.out HC'.out) hlt
        have Hsame := Lib.hid (fun wx (hw : Below wr.heap.size wr wx) => same_any A1 A2 m1 m2 c1 c2 _ _ r1 r2 wx (hv1.belowOf hw (Nat.le_trans HC.out Hb.out.size)) (hv2.belowOf hw (Nat.le_trans HC'.out Hb.out.size)) hm1 hm2)
        have Hg1 := Lib.hid (mapK_at (f := fun p : Value × List TVal => p.2) hx1)
        have Hg2 := Lib.hid (mapK_at (f := fun p : Value × List TVal => p.2) hx2)
        rw [hs1, hr1] at Hg1
        rw [hs2, hr2] at Hg2
        have hk0 : (0 : Int) ≤ (k : Int) := by omega
        have hk1 : (k : Int) < (n : Int) := by omega
        clear hx1 hx2 hs1 hs2 hr1 hr2 hv1 hv2
        by_cases es : s.data.toList = t.data.toList
        · have hb1 : (s.toList == t.toList) = true := by rw [eq_toList]; exact decide_eq_true es
          have Hes := Lib.hid es
          clear es
          by_cases er : r1 = r2
          · have Ht2 : Hid ((mapK (fun p : Value × List TVal => p.2) rs).take (k + 1) = (mapK (fun p : Value × List TVal => p.2) rs').take (k + 1)) := Lib.hid (by
              rw [List.take_add_one, List.take_add_one, Ht.out, Hg1.out, Hg2.out, Hes.out, er])
            rw [decide_eq_true er] at Hsame
            clear er
            go_wp2
            go_region_held3 (fun wx => wx.cell? (a.add (k * 2)) = some (.string s) ∧ wx.cell? ⟨(a.add (k * 2)).block, (a.add (k * 2)).off + 1, none⟩ = some (.slice A1 m1 c1) ∧ wx.cell? (b.add (k * 2)) = some (.string t) ∧ wx.cell? ⟨(b.add (k * 2)).block, (b.add (k * 2)).off + 1, none⟩ = some (.slice A2 m2 c2))
              (first | assumption | exact ⟨d0, d1, e0, e1⟩ | exact ⟨keepcell (Below.then (below_drew _) hb2) d0, keepcell (Below.then (below_drew _) hb2) d1, keepcell (Below.then (below_drew _) hb2) e0, keepcell (Below.then (below_drew _) hb2) e1⟩)
              (first | (go_at_call 20; refine (Hsame.out _ (below_drew _)).mono ?_; rintro e w2 ⟨rfl, hb2⟩))
            all_goals
              have Hb2 := Lib.hid (Hb.out.trans ((Below.then (below_drew _) hb2).mono Hb.out.size))
              clear hb2
              go_wp2
              go_roundw
              case rel => exact ⟨k + 1, by omega, by go_num, Ht2, Hb2.out⟩
              case measure => simp [intOf]; omega
          · have E : Hid (decide (mapK (fun p : Value × List TVal => p.2) rs = mapK (fun p : Value × List TVal => p.2) rs') = false) := Lib.hid (decide_eq_false fun e' => by
              have h1 := Hg1.out
              rw [e', Hg2.out] at h1
              injection h1 with h1
              injection h1 with _ h1
              exact er h1.symm)
            rw [decide_eq_false er] at Hsame
            clear er
            go_wp2
            go_region_held3 (fun wx => wx.cell? (a.add (k * 2)) = some (.string s) ∧ wx.cell? ⟨(a.add (k * 2)).block, (a.add (k * 2)).off + 1, none⟩ = some (.slice A1 m1 c1) ∧ wx.cell? (b.add (k * 2)) = some (.string t) ∧ wx.cell? ⟨(b.add (k * 2)).block, (b.add (k * 2)).off + 1, none⟩ = some (.slice A2 m2 c2))
              (first | assumption | exact ⟨d0, d1, e0, e1⟩ | exact ⟨keepcell (Below.then (below_drew _) hb2) d0, keepcell (Below.then (below_drew _) hb2) d1, keepcell (Below.then (below_drew _) hb2) e0, keepcell (Below.then (below_drew _) hb2) e1⟩)
              (first | (go_at_call 20; refine (Hsame.out _ (below_drew _)).mono ?_; rintro e w2 ⟨rfl, hb2⟩))
            all_goals
              have Hb2 := Lib.hid (Hb.out.trans ((Below.then (below_drew _) hb2).mono Hb.out.size))
              clear hb2
              go_wp2
              go_ret
              exact ⟨ret_bool (by rw [E.out]), Hb2.out⟩
        · have hb1 : (s.toList == t.toList) = false := by rw [eq_toList]; exact decide_eq_false es
          have E : Hid (decide (mapK (fun p : Value × List TVal => p.2) rs = mapK (fun p : Value × List TVal => p.2) rs') = false) := Lib.hid (decide_eq_false fun e' => by
            have h1 := Hg1.out
            rw [e', Hg2.out] at h1
            injection h1 with h1
            injection h1 with h1 _
            exact es h1.symm)
          clear es
          go_wp2
          go_quiet (fail)
          go_wp2
          go_ret
          exact ⟨ret_bool (by rw [E.out]), below_drews Hb.out _⟩
      · have E : Hid (decide (mapK (fun p : Value × List TVal => p.2) rs = mapK (fun p : Value × List TVal => p.2) rs') = true) := Lib.hid (decide_eq_true (by
          have h1 := Ht.out
          rwa [List.take_of_length_le (by rw [mapK_len]; have := Hl.out; omega), List.take_of_length_le (by rw [mapK_len]; have := Hm.out; omega)] at h1))
        go_wp2
        go_ret
        exact ⟨ret_bool (by rw [E.out]), Hb.out⟩
  · have E : Hid (decide (mapK (fun p : Value × List TVal => p.2) rs = mapK (fun p : Value × List TVal => p.2) rs') = false) := Lib.hid (decide_eq_false fun e => hnn (by
      have h1 := congrArg List.length e
      rw [mapK_len, mapK_len] at h1
      rw [← Hl.out, ← Hm.out, h1]))
    have hb : ((n : Int) != (n' : Int)) = true := by simp; omega
    clear hnn
    go_enter Tryz.func14, Tryz.ntmps14
    go_wp2
    go_ret
    exact ⟨ret_bool (by rw [E.out]), Below.refl _ _⟩
end Go.Proofs.YtknfjajmnlpfjaaGreat

namespace Go.Proofs.YtknfjajmnlpfjaaGreat
open Go.RowKit
open Go.Lib (strCells compareBytes)

def getOp (key : ByteArray) : TOp := ⟨3, key, ⟨#[]⟩, [], [], 0, [], [], [], 0, 0, 0⟩
def casOp (key : ByteArray) (old rc : List TVal) : TOp := ⟨4, key, ⟨#[]⟩, rc, old, 0, [], [], [], 0, 0, 0⟩
theorem keyE_two (s : ByteArray) : keyE s = 0 ∨ keyE s = 1 := by unfold keyE; split <;> simp
theorem recErr_few (l : List TVal) : recErr l = 0 ∨ recErr l = 1 ∨ recErr l = 4 := by
  unfold recErr rowErr
  repeat' split
  all_goals simp
theorem check_get (key : ByteArray) : checkT (getOp key) = keyE key := by
  unfold checkT errsT getOp
  rcases keyE_two key with h | h <;> simp [h, firstN]
theorem check_cas (key : ByteArray) (old rc : List TVal) : (checkT (casOp key old rc) = 0 ∨ checkT (casOp key old rc) = 1 ∨ checkT (casOp key old rc) = 4) ∧ (checkT (casOp key old rc) = 0 → keyE key = 0 ∧ recErr rc = 0) ∧ (keyE key = 1 → checkT (casOp key old rc) = 1) := by
  unfold checkT errsT casOp oldE
  rcases keyE_two key with h | h <;> rcases recErr_few rc with h1 | h1 | h1 <;> rcases recErr_few old with h2 | h2 | h2 <;> by_cases h3 : old.length = 0 <;> simp [h, h1, h2, h3, firstN]
theorem do_get (key : ByteArray) (S : PSt) : (keyE key = 1 → doT (getOp key) S.1 S.2.1 S.2.2 = (⟨1, false, [], [], 0⟩, S)) ∧
    (keyE key = 0 → doT (getOp key) S.1 S.2.1 S.2.2 = (⟨0, (getK key.data.toList S.1).isSome, (getK key.data.toList S.1).getD [], [], 0⟩, S)) := by
  refine ⟨fun h => ?_, fun h => ?_⟩
  · unfold doT
    rw [if_pos (by rw [check_get, h]; simp), check_get, h]
    rfl
  · unfold doT
    rw [if_neg (by rw [check_get, h]; simp), if_neg (by simp [getOp]), if_neg (by simp [getOp]), if_pos (by simp [getOp])]
    rfl
theorem do_cas_err (key : ByteArray) (old rc : List TVal) (S : PSt) (h : checkT (casOp key old rc) ≠ 0) : doT (casOp key old rc) S.1 S.2.1 S.2.2 = (⟨(checkT (casOp key old rc) : Int), false, [], [], 0⟩, S) := by
  unfold doT
  rw [if_pos h]
theorem do_cas_ok (key : ByteArray) (old rc : List TVal) (S : PSt) (h : checkT (casOp key old rc) = 0) : doT (casOp key old rc) S.1 S.2.1 S.2.2 = ((casA key.data.toList old rc S.1).1, (casA key.data.toList old rc S.1).2, S.2) := by
  unfold doT
  rw [if_neg (by rw [h]; simp), if_neg (by simp [casOp]), if_neg (by simp [casOp]), if_neg (by simp [casOp]), if_pos (by simp [casOp])]
  rfl
theorem getK_putK {α : Type} (k : List UInt8) (a : α) : ∀ (M : Kv α), getK k (putK k a M) = some a
  | [] => by simp [putK, getK]
  | y :: l => by
    unfold putK
    split
    · simp [getK]
    · split
      · simp [getK]
      · rename_i h
        unfold getK
        rw [if_neg h]
        exact getK_putK k a l

theorem cas_plain (S : PSt) (key : ByteArray) (old one two : List TVal) (was a now b : Ans) (hw : (doT (getOp key) S.1 S.2.1 S.2.2).1 = was) (ha : (doT (casOp key old one) S.1 S.2.1 S.2.2).1 = a)
    (hn : (doT (getOp key) (stepT S (casOp key old one)).1 (stepT S (casOp key old one)).2.1 (stepT S (casOp key old one)).2.2).1 = now)
    (hb : (doT (casOp key old two) (stepT S (casOp key old one)).1 (stepT S (casOp key old one)).2.1 (stepT S (casOp key old one)).2.2).1 = b) :
    (a.code ≠ 0 ∧ a.code ≠ 9 ∧ was = now) ∨ (a.code = 9 ∧ was.rc ≠ old ∧ a.rc = was.rc ∧ now.rc = was.rc) ∨
    (a.code = 0 ∧ was.rc = old ∧ a.there = was.there ∧ now.rc = one ∧ ((b.code = 9 ∧ b.rc = one) ∨ (b.code = 0 ∧ one = old) ∨ (b.code ≠ 9 ∧ b.code ≠ 0 ∧ b.code = (checkT (casOp key old two) : Int)))) := by
  obtain ⟨c1, c2, c3⟩ := check_cas key old one
  by_cases he : checkT (casOp key old one) = 0
  · have hk := (c2 he).1
    have hS : stepT S (casOp key old one) = ((casA key.data.toList old one S.1).2, S.2) := by unfold stepT; rw [do_cas_ok key old one S he]
    rw [hS] at hn hb
    rw [do_cas_ok key old one S he] at ha
    rw [(do_get key S).2 hk] at hw
    have hn2 := (do_get key ((casA key.data.toList old one S.1).2, S.2)).2 hk
    dsimp only at hn hn2 hb
    rw [hn2] at hn
    dsimp only at hn hw ha
    subst hn hw ha
    by_cases hm : (getK key.data.toList S.1).getD [] = old
    · have e1 : casA key.data.toList old one S.1 = (⟨0, (getK key.data.toList S.1).isSome, [], [], 0⟩, putK key.data.toList one S.1) := by unfold casA; rw [if_pos hm]
      refine .inr (.inr ⟨by rw [e1], hm, by rw [e1], by rw [e1]; simp [getK_putK], ?_⟩)
      rw [e1] at hb
      dsimp only at hb
      by_cases hf : checkT (casOp key old two) = 0
      · have hb2 := do_cas_ok key old two (putK key.data.toList one S.1, S.2) hf
        dsimp only at hb2
        rw [hb2] at hb
        subst hb
        unfold casA
        rw [getK_putK]
        by_cases ho : one = old
        · right; left
          simp [ho]
        · left
          simp [ho]
      · have hb2 := do_cas_err key old two (putK key.data.toList one S.1, S.2) hf
        dsimp only at hb2
        rw [hb2] at hb
        subst hb
        right; right
        have := (check_cas key old two).1
        dsimp only
        omega
    · have e1 : casA key.data.toList old one S.1 = (⟨9, (getK key.data.toList S.1).isSome, (getK key.data.toList S.1).getD [], [], 0⟩, S.1) := by unfold casA; rw [if_neg hm]
      exact .inr (.inl ⟨by rw [e1], hm, by rw [e1], by rw [e1]⟩)
  · have hS : stepT S (casOp key old one) = S := by unfold stepT; rw [do_cas_err key old one S he]
    rw [hS, hw] at hn
    rw [do_cas_err key old one S he] at ha
    subst ha
    left
    dsimp only
    exact ⟨by omega, by omega, hn⟩
theorem cas_codes (S : PSt) (key : ByteArray) (r : Ans) (h : (doT (getOp key) S.1 S.2.1 S.2.2).1 = r) : r.rows = [] ∧ r.num = 0 ∧ (r.code = 0 ∨ r.code = 1) := by
  rcases keyE_two key with hk | hk
  · rw [(do_get key S).2 hk] at h
    subst h
    exact ⟨rfl, rfl, .inl rfl⟩
  · rw [(do_get key S).1 hk] at h
    subst h
    exact ⟨rfl, rfl, .inr rfl⟩
theorem step_get (S : PSt) (key : ByteArray) : stepT S (getOp key) = S := by
  unfold stepT
  rcases keyE_two key with hk | hk
  · rw [(do_get key S).2 hk]
  · rw [(do_get key S).1 hk]
end Go.Proofs.YtknfjajmnlpfjaaGreat

namespace Go.Proofs.YtknfjajmnlpfjaaGreat
open Go.RowKit
open Go.Lib (strCells compareBytes)

theorem ans_iff (a b : Ans) : (a.code = b.code ∧ a.there = b.there ∧ a.num = b.num ∧ a.rc = b.rc ∧ a.rows = b.rows) ↔ a = b :=
  ⟨fun ⟨h1, h2, h3, h4, h5⟩ => by cases a; cases b; simp_all, fun h => by subst h; simp⟩
instance : DecidableEq Ans := fun a b => decidable_of_iff _ (ans_iff a b)
theorem ownRows_has {w : World} {base : Nat} {v : Value} {L : Kv (List TVal)} (h : RowsIs w base v L) : ∃ (A : Option Addr) (c : Nat) (rs : Kv (Value × List TVal)), v = .slice A L.length c ∧ L.length ≤ c ∧ c ≤ maxLen ∧ HasRows w w.heap.size A L.length rs ∧ mapK (·.2) rs = L := by
  obtain ⟨rs, ⟨h1, h2⟩, rfl⟩ := h
  obtain ⟨A, c, rfl, h3, h4, h5⟩ := own_sliceN h1
  have hl : (mapK (fun p : Value × List TVal => p.2) rs).length = rs.length := mapK_len _ _
  refine ⟨A, c, rs, by rw [hl], by rw [hl]; exact h3, h4, ⟨by rw [hl], by rw [hl]; exact h5, fun r hr => ?_⟩, rfl⟩
  obtain ⟨A', c', e, g1, g2, g3⟩ := own_sliceN (h2 r hr)
  exact ⟨A', _, c', e, Nat.le_trans g1 g2, rfl, g3⟩

set_option maxRecDepth 100000 in
set_option maxHeartbeats 3200000 in
theorem sameReply_any (a b : Ans) (u v : Value) (B B' : Nat) (w : World) (h : AnsIs w B u a) (h' : AnsIs w B' v b) (hl : a.rows.length ≤ 1000) :
    Calls Tryz.prog 8 #[u, v] w fun e w' => e = .returned (.bool (decide (a = b))) ∧ Below w.heap.size w w' := by
  obtain ⟨rv, sv, rfl, hr, hR⟩ := h
  obtain ⟨rv', sv', rfl, hr', hR'⟩ := h'
  obtain ⟨A1, c1, rfl, g1, g1', hv1⟩ := own_sliceN hr
  obtain ⟨A2, c2, rfl, g2, g2', hv2⟩ := own_sliceN hr'
  obtain ⟨A3, c3, rs, rfl, g3, g3', hs3, e3⟩ := ownRows_has hR
  obtain ⟨A4, c4, rs', rfl, g4, g4', hs4, e4⟩ := ownRows_has hR'
  obtain ⟨code, there, rc, rows, num⟩ := a
  obtain ⟨code', there', rc', rows', num'⟩ := b
  dsimp only at *
  have hv1' : HasVals w w.heap.size A1 rc.length rc := ⟨rfl, hv1⟩
  have hv2' : HasVals w w.heap.size A2 rc'.length rc' := ⟨rfl, hv2⟩
  have Hsame := Lib.hid (fun wx (hb : Below w.heap.size w wx) => same_any A1 A2 _ _ c1 c2 w.heap.size w.heap.size rc rc' wx (hv1'.belowOf hb (Nat.le_refl _)) (hv2'.belowOf hb (Nat.le_refl _)) (Nat.le_trans g1 g1') (Nat.le_trans g2 g2'))
  have Hrows := Lib.hid (fun wx (hb : Below w.heap.size w wx) => sameRows_any A3 A4 _ _ c3 c4 w.heap.size w.heap.size rs rs' wx (hs3.belowOf hb (Nat.le_refl _)) (hs4.belowOf hb (Nat.le_refl _)) hb.size hb.size hl)
  rw [e3, e4] at Hrows
  have Hfin := Lib.hid (ans_iff ⟨code, there, rc, rows, num⟩ ⟨code', there', rc', rows', num'⟩)
  dsimp only at Hfin
  generalize hRR : decide ((⟨code, there, rc, rows, num⟩ : Ans) = ⟨code', there', rc', rows', num'⟩) = R
  have HR := Lib.hid hRR
  clear hRR
  generalize rc.length = z1 at *
  generalize rc'.length = z2 at *
  generalize rows.length = z3 at *
  generalize rows'.length = z4 at *
  clear hv1' hv2' hv1 hv2 hr hr' hR hR' hs3 hs4 e3 e4 g1 g1' g2 g2' g3 g3' g4 g4' hl
  unfold replyV
  have Hb0 : Hid (∀ o o', Below w.heap.size w ((w.alloc o).alloc o')) := Lib.hid fun o o' => ((Below.refl _ _).alloc (Nat.le_refl _) _).alloc (by simp) _
  have Hbx1 : Hid (∀ o, Box ((w.alloc (.cells #[.int .i64 code, .bool there, .slice A1 z1 c1, .slice A3 z3 c3, .int .i64 num] 35)).alloc o) w.heap.size 35 #[.int .i64 code, .bool there, .slice A1 z1 c1, .slice A3 z3 c3, .int .i64 num]) := Lib.hid fun o => (Box.made _ _ _).alloc o
  have Hbx2 : Hid (∀ o, Box ((w.alloc o).alloc (.cells #[.int .i64 code', .bool there', .slice A2 z2 c2, .slice A4 z4 c4, .int .i64 num'] 35)) (w.heap.size + 1) 35 #[.int .i64 code', .bool there', .slice A2 z2 c2, .slice A4 z4 c4, .int .i64 num']) := Lib.hid fun o => by
    have := Box.made (w.alloc o) 35 #[.int .i64 code', .bool there', .slice A2 z2 c2, .slice A4 z4 c4, .int .i64 num']
    rwa [World.size_alloc] at this
  by_cases hc : code = code'
  · subst hc
    have hq1 : (code == code) = true := by simp
    by_cases ht : there = there'
    · subst ht
      have hq2 : (there == there) = true := by simp
      by_cases hnum : num = num'
      · subst hnum
        have hq3 : (num == num) = true := by simp
        by_cases hrc : rc = rc'
        · rw [decide_eq_true hrc] at Hsame
          have E : Hid (R = decide (rows = rows')) := Lib.hid (by rw [← HR.out]; exact decide_eq_decide.2 (by rw [← Hfin.out]; simp [hrc]))
          clear hrc
          go_enter Tryz.func8, Tryz.ntmps8
          go_wp2_with fail
          refine (Hsame.out _ (Hb0.out _ _)).mono ?_
          rintro e w2 ⟨rfl, hb2⟩
          have Hb2 : Hid (Below w.heap.size w w2) := Lib.hid ((Hb0.out _ _).trans (hb2.mono (Hb0.out _ _).size))
          have q1 := ((Hbx1.out _).below hb2 (Hbx1.out _).lt).cell 3
          have q2 := ((Hbx2.out _).below hb2 (Hbx2.out _).lt).cell 3
          clear hb2
          go_wp2_with fail
          refine (Hrows.out _ Hb2.out).mono ?_
          rintro e w3 ⟨rfl, hb3⟩
          go_wp2
          go_ret
          exact ⟨ret_bool (by rw [E.out]), Hb2.out.trans (hb3.mono Hb2.out.size)⟩
        · rw [decide_eq_false hrc] at Hsame
          have E : Hid (R = false) := Lib.hid (by rw [← HR.out]; exact decide_eq_false (by rw [← Hfin.out]; simp [hrc]))
          clear hrc
          go_enter Tryz.func8, Tryz.ntmps8
          go_wp2_with fail
          refine (Hsame.out _ (Hb0.out _ _)).mono ?_
          rintro e w2 ⟨rfl, hb2⟩
          have Hb2 : Hid (Below w.heap.size w w2) := Lib.hid ((Hb0.out _ _).trans (hb2.mono (Hb0.out _ _).size))
          go_wp2
          go_ret
          exact ⟨ret_bool (by rw [E.out]), Hb2.out⟩
      · have hq3 : (num == num') = false := by simpa using hnum
        have E : Hid (R = false) := Lib.hid (by rw [← HR.out]; exact decide_eq_false (by rw [← Hfin.out]; simp [hnum]))
        clear hnum
        go_enter Tryz.func8, Tryz.ntmps8
        go_wp2
        go_ret
        exact ⟨ret_bool (by rw [E.out]), Hb0.out _ _⟩
    · have hq2 : (there == there') = false := by simpa using ht
      have E : Hid (R = false) := Lib.hid (by rw [← HR.out]; exact decide_eq_false (by rw [← Hfin.out]; simp [ht]))
      clear ht
      go_enter Tryz.func8, Tryz.ntmps8
      go_wp2
      go_ret
      exact ⟨ret_bool (by rw [E.out]), Hb0.out _ _⟩
  · have hq1 : (code == code') = false := by simpa using hc
    have E : Hid (R = false) := Lib.hid (by rw [← HR.out]; exact decide_eq_false (by rw [← Hfin.out]; simp [hc]))
    clear hc
    go_enter Tryz.func8, Tryz.ntmps8
    go_wp2
    go_ret
    exact ⟨ret_bool (by rw [E.out]), Hb0.out _ _⟩
end Go.Proofs.YtknfjajmnlpfjaaGreat

namespace Go.Proofs.YtknfjajmnlpfjaaGreat
open Go.RowKit
open Go.Lib (strCells compareBytes)

/-- blocks of cells that are no store and no indexes stay -/
def Stays (w w' : World) : Prop := ∀ (i : Nat) (cur : Array Value) (t : TypeId) (fz : Nat × Nat), w.heap[i]? = some (.cells cur t fz) → t ≠ 59 → t ≠ 74 → w'.heap[i]? = some (.cells cur t fz)
section
variable {w w1 w2 w' : World}
theorem Stays.refl (w : World) : Stays w w := fun _ _ _ _ h _ _ => h
theorem Stays.trans (h : Stays w w1) (k : Stays w1 w2) : Stays w w2 := fun i cur t fz e h1 h2 => k i cur t fz (h i cur t fz e h1 h2) h1 h2
theorem Stays.below (h : Below w.heap.size w w') : Stays w w' := fun i _ _ _ e _ _ => (h.block i (Array.getElem?_eq_some_iff.1 e).1).trans e
theorem Stays.alloc (h : Stays w w1) (o : Obj) : Stays w (w1.alloc o) := h.trans (Stays.below ((Below.refl _ _).alloc (Nat.le_refl _) _))
theorem Box.stays {g : Nat} {t : TypeId} {cs : Array Value} (h : Box w g t cs) (hs : Stays w w') (h1 : t ≠ 59) (h2 : t ≠ 74) : Box w' g t cs := hs g cs t (0, 0) h h1 h2
theorem own_stays {B m size : Nat} {e : TypeId} {v : Value} {xs : List Value} (h : w.ownsRow B e size v m xs) (hs : Stays w w') (h1 : e ≠ 59) (h2 : e ≠ 74) : w'.ownsRow B e size v m xs :=
  own_keep h fun g hg => by
    obtain ⟨cur, hc⟩ := own_type h hg
    rw [hs g cur e (0, 0) hc h1 h2, hc]
theorem RowsIs.stays {B : Nat} {v : Value} {L : Kv (List TVal)} (h : RowsIs w B v L) (hs : Stays w w') : RowsIs w' B v L := by
  obtain ⟨rs, ⟨h1, h2⟩, e⟩ := h
  exact ⟨rs, ⟨own_stays h1 hs (by decide) (by decide), fun r hr => own_stays (h2 r hr) hs (by decide) (by decide)⟩, e⟩
theorem AnsIs.stays {B : Nat} {v : Value} {a : Ans} (h : AnsIs w B v a) (hs : Stays w w') : AnsIs w' B v a := by
  obtain ⟨rv, sv, e, h1, h2⟩ := h
  exact ⟨rv, sv, e, own_stays h1 hs (by decide) (by decide), h2.stays hs⟩
theorem Kept3.stays {B sb mb d : Nat} {ix : Value} {E : Kv (Value × List TVal)} {X : List Ix} (h : Store w B sb mb ix E X d) (k : Kept3 sb mb ix w w') : Stays w w' := fun i cur t fz e h1 h2 => by
  refine (k.block i (Array.getElem?_eq_some_iff.1 e).1 (fun ei => ?_) (fun ei => ?_) (fun ei => ?_)).trans e
  · subst ei
    have hb := h.box
    unfold Box at hb
    rw [hb] at e
    injection e with e
    injection e with _ ht _
    exact h1 ht.symm
  · subst ei
    obtain ⟨es, c, hm⟩ := map_block h.own
    rw [hm] at e
    injection e with e
    cases e
  · obtain ⟨cur', hc⟩ := own_type h.irow ei.symm
    rw [hc] at e
    injection e with e
    injection e with _ ht _
    exact h2 ht.symm
variable {B sb mb : Nat}
/-- Do, from a state to the next; what was answered before stays -/
theorem step_stays {S : PSt} (h : Stands w B sb mb S) (v : Value) (o : TOp) (C : Nat) (hC : C ≤ sb) (ho : OpIs w C v o) (hl : S.1.length ≤ 1000) :
    Calls Tryz.prog 9 #[.pointer (some ⟨sb, 0, none⟩), v] w fun e w' => ∃ u, e = .returned u ∧ AnsIs w' w.heap.size u (doT o S.1 S.2.1 S.2.2).1 ∧ Stands w' B sb mb (stepT S o) ∧ Below B w w' ∧ Stays w w' := by
  obtain ⟨ix, E, X, h1, h2, h3⟩ := h
  have hE : E.length ≤ 1000 := by rw [← h2, mapK_len] at hl; exact hl
  have hd := do_any h1 v o C hC ho hE
  rw [h2, h3] at hd
  refine hd.mono ?_
  rintro e w' ⟨u, ix', E', X', rfl, ha, hs, hM, hI, hk, -, -⟩
  exact ⟨u, rfl, ha, ⟨ix', E', X', hs, hM, hI⟩, h1.kept hk (by have := h1.lt.1; have := h1.sB; omega), hk.stays h1⟩
/-- an answer's parts -/
theorem AnsIs.parts {b : Nat} {v : Value} {a : Ans} (h : AnsIs w b v a) : ∃ (A : Option Addr) (c : Nat) (A' : Option Addr) (c' : Nat), v = .agg #[.int .i64 a.code, .bool a.there, .slice A a.rc.length c, .slice A' a.rows.length c', .int .i64 a.num] ∧ a.rc.length ≤ c ∧ c ≤ maxLen ∧
    w.ownsRow b 53 3 (.slice A a.rc.length c) a.rc.length (valCells a.rc) ∧ RowsIs w b (.slice A' a.rows.length c') a.rows := by
  obtain ⟨rv, sv, rfl, h1, h2⟩ := h
  obtain ⟨A, c, rfl, g1, g2, _⟩ := own_sliceN h1
  obtain ⟨A', c', rs, rfl, _⟩ := ownRows_has h2
  exact ⟨A, c, A', c', rfl, g1, g2, h1, h2⟩
theorem own_vals {b m c : Nat} {A : Option Addr} {l : List TVal} (h : w.ownsRow b 53 3 (.slice A m c) m (valCells l)) : HasVals w w.heap.size A m l := by
  have h1 := Has.of_ownN h
  have hl := h1.1
  rw [valCells_len] at hl
  exact ⟨by omega, h1⟩
theorem isVals_slice {C n c : Nat} {A : Option Addr} {l : List TVal} (h : IsVals w C (.slice A n c) l) : n ≤ c ∧ c ≤ maxLen ∧ HasVals w C A n l := by
  obtain ⟨A', n', c', e, h1, h2, h3, _⟩ := h
  injection e with e1 e2 e3
  subst e1; subst e2; subst e3
  exact ⟨h1, h2, h3⟩
/-- records that stand in a store have a value at least -/
theorem Stands.pos {S : PSt} (h : Stands w B sb mb S) : ∀ p ∈ S.1, 1 ≤ p.2.length := by
  obtain ⟨ix, E, X, h1, h2, h3⟩ := h
  intro p hp
  rw [← h2] at hp
  obtain ⟨q, hq, rfl⟩ := List.mem_map.1 hp
  exact (h1.good q hq).1.pos
end
end Go.Proofs.YtknfjajmnlpfjaaGreat

namespace Go.Proofs.YtknfjajmnlpfjaaGreat
open Go.RowKit
open Go.Lib (strCells compareBytes)

theorem lt_zero : ∀ (l k : List UInt8), ¬ (k < l ++ [0]) ↔ l < k
  | [], [] => by simp
  | [], x :: r => by
    simp [List.cons_lt_cons_iff]
  | a :: l, [] => by simp
  | a :: l, x :: r => by
    have ih := lt_zero l r
    simp only [List.cons_append, List.cons_lt_cons_iff]
    constructor
    · intro h
      rcases Nat.lt_trichotomy a.toNat x.toNat with h1 | h1 | h1
      · exact .inl h1
      · have e : a = x := UInt8.toNat_inj.1 h1
        refine .inr ⟨e, ih.1 fun h2 => h (.inr ⟨e.symm, h2⟩)⟩
      · exact absurd (.inl h1) h
    · rintro (h | ⟨rfl, h⟩) h2
      · rcases h2 with h2 | ⟨rfl, _⟩
        · exact absurd (UInt8.lt_trans h h2) (UInt8.lt_irrefl _)
        · exact UInt8.lt_irrefl _ h
      · rcases h2 with h2 | ⟨_, h2⟩
        · exact UInt8.lt_irrefl _ h2
        · exact ih.2 h h2
theorem drop_after {W : List (List UInt8)} (hW : W.Pairwise fun a b => a < b) {j : Nat} {x : List UInt8} (hx : W[j]? = some x) : W.filter (fun k => decide (x < k)) = W.drop (j + 1) := by
  obtain ⟨hj, rfl⟩ := List.getElem?_eq_some_iff.1 hx
  have e : W = W.take (j + 1) ++ W.drop (j + 1) := (List.take_append_drop _ _).symm
  have h1 : (W.take (j + 1)).filter (fun k => decide (W[j] < k)) = [] := by
    rw [List.filter_eq_nil_iff]
    intro k hk
    obtain ⟨i, hi, rfl⟩ := List.getElem_of_mem hk
    rw [List.length_take] at hi
    rw [List.getElem_take]
    have hij : i ≤ j := by omega
    rcases Nat.lt_or_ge i j with h | h
    · have := List.pairwise_iff_getElem.1 hW i j (by omega) hj h
      simp
      exact fun h2 => absurd (List.lt_trans this h2) (List.lt_irrefl _)
    · have : i = j := by omega
      subst this
      simp [List.lt_irrefl]
  have h2 : (W.drop (j + 1)).filter (fun k => decide (W[j] < k)) = W.drop (j + 1) := by
    rw [List.filter_eq_self]
    intro k hk
    obtain ⟨i, hi, rfl⟩ := List.getElem_of_mem hk
    rw [List.length_drop] at hi
    rw [List.getElem_drop]
    have := List.pairwise_iff_getElem.1 hW j (j + 1 + i) hj (by omega) (by omega)
    simpa using this
  generalize W[j] = y at h1 h2 ⊢
  conv => lhs; rw [e]
  rw [List.filter_append, h1, h2, List.nil_append]
/-- behind a key that lies in the scan: what is left of it -/
theorem inK_next {f t x k : List UInt8} (hx : inK f t x = true) : inK (x ++ [0]) t k = (inK f t k && decide (x < k)) := by
  have h1 : decide (k < x ++ [0]) = !decide (x < k) := by
    have := lt_zero x k
    by_cases h : x < k
    · simp [h, this.2 h]
    · have h2 : k < x ++ [0] := Classical.byContradiction fun h2 => h (this.1 h2)
      simp [h, h2]
  unfold inK outK at *
  rw [h1]
  by_cases h : x < k
  · have hf : ¬ k < f := fun h2 => by
      have h3 : ¬ x < f := by
        intro h3
        simp [h3] at hx
      exact h3 (List.lt_trans h h2)
    simp [h, hf]
  · simp [h]
theorem page_next {K : List (List UInt8)} (hK : K.Pairwise fun a b => a < b) {f t x : List UInt8} {j s : Nat} (hx : (K.filter (inK f t))[j + s]? = some x) :
    K.filter (inK (x ++ [0]) t) = (K.filter (inK f t)).drop (j + (s + 1)) := by
  have hm := List.mem_of_getElem? hx
  have hin : inK f t x = true := (List.mem_filter.1 hm).2
  have h1 : K.filter (inK (x ++ [0]) t) = (K.filter (inK f t)).filter (fun k => decide (x < k)) := by
    rw [List.filter_filter]
    congr 1
    funext k
    rw [inK_next hin, Bool.and_comm]
  rw [h1, drop_after (hK.filter _) hx, Nat.add_assoc]
theorem take_pages {α : Type} (W : List α) (a s : Nat) : W.take a ++ (W.drop a).take s = W.take (a + s) := by rw [List.take_add]

def scanOp (f t : ByteArray) (lim : Int) : TOp := ⟨5, f, t, [], [], 0, [], [], [], lim, 0, 0⟩
theorem check_scan (f t : ByteArray) (lim : Int) (hf : f.size ≤ 16) (ht : t.size ≤ 16) (h1 : 1 ≤ lim) (h2 : lim ≤ 64) : checkT (scanOp f t lim) = 0 := by
  have a1 : inE (f.size : Int) 0 16 = 0 := by unfold inE; rw [if_neg (by omega)]
  have a2 : inE (t.size : Int) 0 16 = 0 := by unfold inE; rw [if_neg (by omega)]
  have a3 : inE lim 1 64 = 0 := by unfold inE; rw [if_neg (by omega)]
  unfold checkT errsT scanOp
  simp [a1, a2, a3, firstN]
theorem do_scan (f t : ByteArray) (lim : Int) (S : PSt) (hf : f.size ≤ 16) (ht : t.size ≤ 16) (h1 : 1 ≤ lim) (h2 : lim ≤ 64) : doT (scanOp f t lim) S.1 S.2.1 S.2.2 = (scanA f.data.toList t.data.toList lim.toNat S.1, S) := by
  unfold doT
  rw [if_neg (by rw [check_scan f t lim hf ht h1 h2]; simp), if_neg (by simp [scanOp]), if_neg (by simp [scanOp]), if_neg (by simp [scanOp]), if_neg (by simp [scanOp]), if_pos (by simp [scanOp])]
  rfl
theorem step_scan (f t : ByteArray) (lim : Int) (S : PSt) (hf : f.size ≤ 16) (ht : t.size ≤ 16) (h1 : 1 ≤ lim) (h2 : lim ≤ 64) : stepT S (scanOp f t lim) = S := by
  unfold stepT
  rw [do_scan f t lim S hf ht h1 h2]
theorem Stands.rise {w : World} {B sb mb : Nat} {S : PSt} (h : Stands w B sb mb S) : (S.1.map (·.1)).Pairwise (· < ·) := by
  obtain ⟨ix, E, X, h1, h2, h3⟩ := h
  have := (rise_map (fun p : Value × List TVal => p.2)).2 h1.rise
  rw [h2] at this
  exact rise_keys this
theorem rowsT_len (M : Kv (List TVal)) (ks : List (List UInt8)) : (rowsT M ks).length = ks.length := by simp [rowsT]
theorem rowsT_app (M : Kv (List TVal)) (a b : List (List UInt8)) : rowsT M (a ++ b) = rowsT M a ++ rowsT M b := by simp [rowsT]
theorem field_rows (c : Int) (b : Bool) (A A' : Option Addr) (n m n' m' : Nat) (i : Int) (w : World) : (Instr.field 35 (.agg #[.int .i64 c, .bool b, .slice A n m, .slice A' n' m', .int .i64 i]) 3).run Tryz.prog w = .ok (.slice A' n' m') w := by kernel_rfl
section
variable {w w' : World} {B sb mb N m : Nat} {v : Value} {xs : List Value}
/-- the store stays where a row of rows grows -/
theorem Stands.grown {S : PSt} (h : Stands w B sb mb S) (ho : w.ownsRow N 55 2 v m xs) (hg : w.grownBy w' v.ownBlock) : Stands w' B sb mb S := by
  obtain ⟨ix, E, X, h1, h2, h3⟩ := h
  refine ⟨ix, E, X, h1.frame fun i o hi ho' _ => hg.block i (Array.getElem?_eq_some_iff.1 hi).1 fun e => ?_, h2, h3⟩
  obtain ⟨cur, hc⟩ := own_type ho e.symm
  rw [hc] at hi
  injection hi with hi
  subst hi
  rcases ho' with e | e | e | e <;> exact absurd e (by decide)
theorem vals_grown {b k : Nat} {u : Value} {l : List TVal} (h : w.ownsRow b 53 3 u k (valCells l)) (ho : w.ownsRow N 55 2 v m xs) (hg : w.grownBy w' v.ownBlock) : w'.ownsRow b 53 3 u k (valCells l) :=
  own_keep h fun g hgr => hg.block g (h.lt g hgr).2 fun e => by
    obtain ⟨cur, hc⟩ := own_type h hgr
    obtain ⟨cur', hc'⟩ := own_type ho e.symm
    rw [hc'] at hc
    injection hc with hc
    injection hc with _ hc _
    exact absurd hc (by decide)
/-- rows stay where another row of rows grows -/
theorem OwnRows.other {b : Nat} {u : Value} {rs : Kv (Value × List TVal)} (h : OwnRows w b u rs) (ho : w.ownsRow N 55 2 v m xs) (hg : w.grownBy w' v.ownBlock) (hne : ∀ g, u.ownBlock = some g → v.ownBlock ≠ some g) : OwnRows w' b u rs :=
  ⟨own_keep h.1 fun g hgr => hg.block g (h.1.lt g hgr).2 fun e => hne g hgr e.symm, fun r hr => vals_grown (h.2 r hr) ho hg⟩
theorem OwnRows.append {b : Nat} {u v' : Value} {rs rs2 : Kv (Value × List TVal)} (h : OwnRows w b v rs) (h2 : OwnRows w b u rs2) (hown : w'.ownsRow b 55 2 v' (rs.length + rs2.length) (rowCells rs ++ rowCells rs2)) (hg : w.grownBy w' v.ownBlock) : OwnRows w' b v' (rs ++ rs2) := by
  refine ⟨by rw [List.length_append, rowCells_app]; exact hown, fun r hr => ?_⟩
  rcases List.mem_append.1 hr with hr | hr
  · exact vals_grown (h.2 r hr) h.1 hg
  · exact vals_grown (h2.2 r hr) h.1 hg
theorem OwnRows.stays' {b : Nat} {u : Value} {rs : Kv (Value × List TVal)} (h : OwnRows w b u rs) (hs : Stays w w') : OwnRows w' b u rs := ⟨own_stays h.1 hs (by decide) (by decide), fun r hr => own_stays (h.2 r hr) hs (by decide) (by decide)⟩
theorem rowCells_one : ∀ (rs : Kv (Value × List TVal)), (∀ r ∈ rs, ∃ A n c, r.2.1 = .slice A n c) → ∀ u ∈ rowCells rs, u.oneCell' = true
  | [], _, u, hu => by simp [rowCells] at hu
  | r :: l, h, u, hu => by
    simp only [rowCells, List.mem_cons] at hu
    rcases hu with rfl | rfl | hu
    · rfl
    · obtain ⟨A, n, c, e⟩ := h r (by simp)
      rw [e]
      rfl
    · exact rowCells_one l (fun x hx => h x (by simp [hx])) u hu
theorem OwnRows.slices {b : Nat} {u : Value} {rs : Kv (Value × List TVal)} (h : OwnRows w b u rs) : ∀ r ∈ rs, ∃ A n c, r.2.1 = .slice A n c := fun r hr => by
  obtain ⟨A, c, e, _⟩ := own_sliceN (h.2 r hr)
  exact ⟨A, _, c, e⟩
theorem OwnRows.has {b n c : Nat} {A : Option Addr} {rs : Kv (Value × List TVal)} (h : OwnRows w b (.slice A n c) rs) : n = rs.length ∧ HasRows w w.heap.size A n rs := by
  obtain ⟨A', c', e, h3, h4, h5⟩ := own_sliceN h.1
  injection e with e1 e2 e3
  subst e1; subst e2; subst e3
  refine ⟨rfl, rfl, h5, fun r hr => ?_⟩
  obtain ⟨A', c', e, g1, g2, g3⟩ := own_sliceN (h.2 r hr)
  exact ⟨A', _, c', e, Nat.le_trans g1 g2, rfl, g3⟩
theorem rowsT_at {M : Kv (List TVal)} {P : List (List UInt8)} {rs : Kv (Value × List TVal)} (h : mapK (·.2) rs = rowsT M P) {i : Nat} {x : List UInt8 × Value × List TVal} (hx : rs[i]? = some x) : P[i]? = some x.1 := by
  have h1 := mapK_at (f := fun p : Value × List TVal => p.2) hx
  rw [h] at h1
  unfold rowsT at h1
  rw [List.getElem?_map] at h1
  cases hp : P[i]? with
  | none => rw [hp] at h1; simp at h1
  | some k =>
    rw [hp] at h1
    simp at h1
    rw [h1.1]
end
end Go.Proofs.YtknfjajmnlpfjaaGreat

namespace Go.Proofs.YtknfjajmnlpfjaaGreat
open Go.RowKit
open Go.Lib (strCells compareBytes)

theorem keysRec {E : Kv (Value × List TVal)} (h : Rise E) : (keysOf E).map (fun k => (k, recOf k E)) = mapK (·.2) E := by
  unfold keysOf mapK
  rw [List.map_map]
  refine List.map_congr_left fun p hp => ?_
  have h1 : getK p.1 E = some p.2 := getK_of_mem h (by simpa using hp)
  simp only [Function.comp, recOf, h1]
set_option maxRecDepth 100000 in
set_option maxHeartbeats 800000 in
theorem allRows_any {w : World} {B sb mb : Nat} {S : PSt} (h : Stands w B sb mb S) (hl : S.1.length ≤ 1000) :
    Calls Tryz.prog 15 #[.pointer (some ⟨sb, 0, none⟩)] w fun e w' => ∃ v, e = .returned v ∧ RowsIs w' w.heap.size v S.1 ∧ Below w.heap.size w w' := by
  obtain ⟨ix, E, X, h1, h2, h3⟩ := h
  have hE : E.length ≤ 1000 := by rw [← h2, mapK_len] at hl; exact hl
  have Hk := Lib.hid (keys_any h1 hE)
  have H1 := Lib.hid h1
  have H2 := Lib.hid h2
  have HE := Lib.hid hE
  clear h1 h2 hE hl
  go_enter Tryz.func15, Tryz.ntmps15
  go_wp2_with fail
  refine Hk.out.mono ?_
  rintro e w1 ⟨v, rfl, hown, hb1⟩
  obtain ⟨A, c, rfl, _, _, hh⟩ := own_slice hown
  have Hr := Lib.hid (rows_any (H1.out.below hb1) A E.length c w1.heap.size (keysOf E) hh (Nat.le_refl _) HE.out (fun k hk => by
    obtain ⟨p, hp, rfl⟩ := List.mem_map.1 hk
    have := (H1.out.good p hp).2
    unfold keyOk at this
    simp only [Bool.and_eq_true, decide_eq_true_eq] at this
    omega))
  have Hb1 := Lib.hid hb1
  clear hown hh hb1
  generalize E.length = z at *
  go_wp2_with fail
  refine Hr.out.mono ?_
  rintro e w2 ⟨v2, rfl, hR, hb2⟩
  go_wp2
  go_ret
  refine ⟨_, rfl, ?_, Hb1.out.trans (hb2.mono Hb1.out.size)⟩
  rw [keysRec H1.out.rise, H2.out] at hR
  exact hR.base Hb1.out.size
end Go.Proofs.YtknfjajmnlpfjaaGreat

namespace Go.Proofs.YtknfjajmnlpfjaaGreat
open Go.RowKit
open Go.Lib (strCells compareBytes)

/-- a row of indexes of the call's own, the fields too -/
def IdxIs (w : World) (base : Nat) (v : Value) (I : List (Int × List Int)) : Prop :=
  ∃ X : List Ix, w.ownsRow base 74 2 v X.length (ixCells X) ∧ (∀ x ∈ X, w.ownsRow base 3 1 x.v x.fs.length (intCells x.fs)) ∧ X.map xi = I
theorem ints_grown {w w' : World} {b N k m : Nat} {u v : Value} {zs : List Int} {xs : List Value} (h : w.ownsRow b 3 1 u k (intCells zs)) (ho : w.ownsRow N 74 2 v m xs) (hg : w.grownBy w' v.ownBlock) : w'.ownsRow b 3 1 u k (intCells zs) :=
  own_keep h fun g hgr => hg.block g (h.lt g hgr).2 fun e => by
    obtain ⟨cur, hc⟩ := own_type h hgr
    obtain ⟨cur', hc'⟩ := own_type ho e.symm
    rw [hc'] at hc
    injection hc with hc
    injection hc with _ hc _
    exact absurd hc (by decide)
theorem idx_some {fs : List Int} (h : idxErr 1 fs = 0) : 1 ≤ fs.length ∧ fs.length ≤ 1000 := by
  unfold idxErr at h
  by_cases h1 : isIdB 1 = false ∨ fs.length = 0
  · rw [if_pos h1] at h; cases h
  · rw [if_neg h1] at h
    by_cases h2 : 2 < fs.length
    · rw [if_pos h2] at h; cases h
    · have : fs.length ≠ 0 := fun e => h1 (.inr e)
      omega
set_option maxRecDepth 100000 in
set_option maxHeartbeats 3200000 in
theorem allIdx_any {w : World} {B sb mb : Nat} {S : PSt} (h : Stands w B sb mb S) :
    Calls Tryz.prog 17 #[.pointer (some ⟨sb, 0, none⟩)] w fun e w' => ∃ v, e = .returned v ∧ IdxIs w' w.heap.size v S.2.1 ∧ Below w.heap.size w w' := by
  obtain ⟨ix, E, X, h1, h2, h3⟩ := h
  have hfew := h1.few
  have H1 := Lib.hid h1
  have H3 := Lib.hid h3
  obtain ⟨Ai, ci, rfl, _, _, hhi⟩ := own_sliceN h1.irow
  have Hi := Lib.hid hhi
  obtain ⟨q0, q1, q2, -, -, -⟩ := h1.cells
  obtain ⟨n, hn⟩ : ∃ n, X.length = n := ⟨_, rfl⟩
  have HX := Lib.hid hn
  rw [hn] at q1 Hi hfew
  clear h1 h2 h3 hhi hn
  go_enter Tryz.func17, Tryz.ntmps17
  go_wp2
  clear q0 q1 q2
  go_loopw [3, 5, 11] (fun lv _ i wr => ∃ (k : Nat) (Y : List Ix), k ≤ n ∧ i = .int .i64 (k : Int) ∧ Y.length = k ∧ wr.ownsRow w.heap.size 74 2 lv k (ixCells Y) ∧ Hid (∀ x ∈ Y, wr.ownsRow w.heap.size 3 1 x.v x.fs.length (intCells x.fs)) ∧ Below w.heap.size w wr ∧ Hid (Y.map xi = (X.take k).map xi)) (fun _ _ i _ => n - (intOf i).toNat)
  case atStart => exact ⟨0, [], by omega, rfl, rfl, World.ownsRow_nil _ _ _ _, Lib.hid (by simp), Below.refl _ _, Lib.hid rfl⟩
  case round =>
    obtain ⟨k, Y, hk, rfl, hY, hown, Hf, hb, Hm⟩ := hrel
    have Hown := Lib.hid hown
    have Hb := Lib.hid hb
    have HY := Lib.hid hY
    have hsz := hb.size
    clear hown hb hY
    by_cases hlt : k < n
    · have hkl : k < X.length := by have := HX.out; omega
      obtain ⟨a, rfl, _, hall⟩ := (Hi.out.belowOf Hb.out (Nat.le_refl _)).all (by omega)
      obtain ⟨c0, c1⟩ := ixCells_at X k X[k] (List.getElem?_eq_getElem hkl)
      have d0 := hall _ _ c0
      have d1 := hall _ _ c1
      rw [addr_step a _ 1 (by omega)] at d1
      have hfl := (H1.out.below Hb.out).flds X[k] (List.getElem_mem hkl)
      have hnum := (H1.out.nums X[k] (List.getElem_mem hkl))
      have E1 : Hid (X.take (k + 1) = X.take k ++ [X[k]]) := Lib.hid (by rw [List.take_succ_eq_append_getElem hkl])
      generalize X[k] = x at d0 d1 hfl hnum E1
      obtain ⟨hs1, hs2⟩ := idx_some hnum.2.2.1
      obtain ⟨num, xv, fs⟩ := x
      dsimp only at d0 d1 hfl hs1 hs2
      obtain ⟨Af, cf, rfl, _, _, hhf⟩ := own_slice hfl
      obtain ⟨w0, hw0⟩ : ∃ w0, wr.alloc (.cells #[.int .i64 num, .slice Af fs.length cf] 74) = w0 := ⟨_, rfl⟩
      have hb0 : Below wr.heap.size wr w0 := hw0 ▸ below_alloc _ _
      have hbx : Box w0 wr.heap.size 74 #[.int .i64 num, .slice Af fs.length cf] := hw0 ▸ Box.made _ _ _
      have p0 := hbx.cell 0
      have p1 := hbx.cell 1
      have Hcl := Lib.hid (fun wx (hb : Below w0.heap.size w0 wx) => cloneInts_any Af fs.length cf wr.heap.size fs wx ⟨rfl, (hhf.belowOf hb0 (Nat.le_refl _)).belowOf hb hb0.size⟩ hs1 hs2 (Nat.le_trans hb0.size hb.size))
      have Hown0 := Lib.hid (own_belowN Hown.out hb0)
      have Hf0 := Lib.hid (fun y hy => own_below (Hf.out y hy) hb0)
      have Hb0 := Lib.hid (Hb.out.trans (hb0.mono hsz))
      have hz0 : wr.heap.size < w0.heap.size := hbx.lt
      have Hlb := Lib.hid (fun g hg => (Hown.out.lt g hg).2)
      have hk0 : (0 : Int) ≤ (k : Int) := by omega
      have hk1 : (k : Int) < (n : Int) := by omega
      clear hfl hnum hhf hkl c0 c1 hall hs1 hb0
      go_wp2
      go_region_held3 (fun wx => wx.cell? ⟨wr.heap.size, 0, none⟩ = some (.int .i64 num) ∧ wx.cell? ⟨wr.heap.size, 1, none⟩ = some (.slice Af fs.length cf))
        (first | assumption | exact ⟨p0, p1⟩ | exact ⟨keepcell (by assumption) p0, keepcell (by assumption) p1⟩ | exact ⟨keepcell (Below.then bD (below_alloc _ _)) p0, keepcell (Below.then bD (below_alloc _ _)) p1⟩ | exact ⟨keepA _ _ (keepcell (Below.then bD (below_alloc _ _)) p0), keepA _ _ (keepcell (Below.then bD (below_alloc _ _)) p1)⟩)
        (first
          | (refine step_append_hasN (by rfl) _ _ _ (by rfl) 74 idx_elem (by omega) Tryz.underlying49 (by rfl) (oD.alloc _) (by rfl) (Has.lit wR #[.int .i64 num, .slice Av fs.length cv] _) (by intro u hu; simp at hu; rcases hu with rfl | rfl <;> rfl) (by simp only [maxLen]; omega) (by omega) (by simp; have := bD.size; omega) ?_; intro lA wA oA gA zA; have keepA : ∀ (j : Nat) (u : Value), (wR.alloc (.cells #[.int .i64 num, .slice Av fs.length cv] 74)).cell? ⟨wr.heap.size, j, none⟩ = some u → wA.cell? ⟨wr.heap.size, j, none⟩ = some u := fun j u hu => World.grownBy.cell gA hu (fun e => by have h1 := Hlb.out wr.heap.size e.symm; omega))
          | (go_at_call 42; refine (Hcl.out _ (below_drew _)).mono ?_; rintro e wR ⟨vR, rfl, oR, bR⟩; obtain ⟨Av, cv, rfl, -⟩ := own_slice oR; have bD : Below w0.heap.size w0 wR := Below.then (below_drew _) bR; have oD := own_belowN Hown0.out bD))
      all_goals
        have hf' : ∀ y ∈ Y ++ [(⟨num, .slice Av fs.length cv, fs⟩ : Ix)], wA.ownsRow w.heap.size 3 1 y.v y.fs.length (intCells y.fs) := fun y hy => by
          rcases List.mem_append.1 hy with hy | hy
          · exact ints_grown ((own_below (Hf0.out y hy) bD).alloc _) (oD.alloc _) gA
          · simp only [List.mem_singleton] at hy
            subst hy
            exact ints_grown ((own_base oR Hb0.out.size).alloc _) (oD.alloc _) gA
        have Hf' := Lib.hid hf'
        have Hb' := Lib.hid (below_ownN ((Hb0.out.trans (bD.mono Hb0.out.size)).alloc (Nat.le_trans Hb0.out.size bD.size) (.cells #[.int .i64 num, .slice Av fs.length cv] 74)) (oD.alloc _) gA (by simp; have := bD.size; have := Hb0.out.size; omega))
        have HoA := Lib.hid oA
        clear hf' oD oR oA gA zA keepA bD bR
        go_wp2
        go_roundw
        case rel =>
          refine ⟨k + 1, Y ++ [⟨num, .slice Av fs.length cv, fs⟩], by omega, by go_num, by rw [List.length_append, HY.out]; rfl, ?_, Hf', Hb'.out, Lib.hid ?_⟩
          · rw [ixCells_app]
            exact HoA.out
          · rw [E1.out, List.map_append, List.map_append, Hm.out]
            rfl
        case measure => simp [intOf]; omega
    · have hkn : k = n := by omega
      have Hm' : Hid (Y.map xi = X.map xi) := Lib.hid (by rw [Hm.out, List.take_of_length_le (by have := HX.out; omega)])
      go_wp2
      go_ret
      exact ⟨_, rfl, ⟨Y, by rw [HY.out]; exact Hown.out, Hf.out, by rw [Hm'.out, H3.out]⟩, Hb.out⟩
end Go.Proofs.YtknfjajmnlpfjaaGreat

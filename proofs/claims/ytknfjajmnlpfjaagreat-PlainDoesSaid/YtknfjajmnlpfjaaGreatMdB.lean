/- slices.Delete of one index. -/
import Derived.Test.YtknfjajmnlpfjaaGreatMdQ
import Derived.Laws.StructEq
import Derived.Lib.SliceRun
import Derived.Lib.LazyBuf
import Derived.Laws.IdiomCopy
import Derived.Shelf.SlSortFuncK.RowK2
import Derived.Deep.RegionLaw
namespace Go.Proofs.YtknfjajmnlpfjaaGreat
open Go.RowKit
open Go.Lib (strCells compareBytes)

section
variable {B sb mb d : Nat} {ix : Value} {E : Kv (Value × List TVal)} {X : List Ix} {w : World}
theorem isSome_mapK (k : List UInt8) (E : Kv (Value × List TVal)) : (getK k (mapK (·.2) E)).isSome = (getK k E).isSome := by rw [mapK_get]; cases getK k E <;> rfl
theorem recOf_mapK (E : Kv (Value × List TVal)) (k : List UInt8) : (getK k (mapK (·.2) E)).getD [] = recOf k E := (recOf_map E k).symm
theorem get_do (h : Store w B sb mb ix E X d) (s : ByteArray) (hs : s.size ≤ maxLen) :
    Calls Tryz.prog 24 #[.pointer (some ⟨sb, 0, none⟩), .string s] w (DoPost B sb mb ix E (mapK (·.2) E) (X.map xi) d ⟨0, (getK s.data.toList (mapK (·.2) E)).isSome, (getK s.data.toList (mapK (·.2) E)).getD [], [], 0⟩ w) := by
  refine (get_any h s hs).mono ?_
  rintro e w' ⟨v, rfl, ho, hb⟩
  rw [isSome_mapK, recOf_mapK]
  exact do_same h ⟨_, _, rfl, own_baseN ho (by omega), RowsIs.nil _ _⟩ hb

theorem del_end {g : Nat} {w0 wM W3 : World} {k : List UInt8} {x' y' z' u' v' : Value} (hb0 : Below w.heap.size w w0) (hg : w.heap.size = g)
    (hs : Store w B sb mb ix E X d) (hM : wM.ownsMap Tryz.prog 9 Rv mb E.length ((dmap (·.1) E).del (.string k))) (hT : w0.mapTurned wM mb) (hsz : w0.heap.size = g + 1)
    (hW : ((((wM.setCell ⟨g, 0, none⟩ x').setCell ⟨g, 1, none⟩ y').setCell ⟨g, 2, none⟩ z').setCell ⟨g, 3, none⟩ u').setCell ⟨g, 4, none⟩ v' = W3) :
    Store W3 B sb mb ix (delK k E) X d ∧ Kept3 sb mb ix w W3 := by
  have hgr := hT.grown
  have step : ∀ i, i < w.heap.size → i ≠ mb → W3.heap[i]? = w.heap[i]? := fun i hi hne => by
    rw [heap5 (by omega) hW, hgr.block i (by omega) (fun e => by injection e with e; exact hne e), hb0.block i hi]
  have hmb : mb < w.heap.size := hs.lt.2
  have hM3 : W3.ownsMap Tryz.prog 9 Rv mb E.length ((dmap (·.1) E).del (.string k)) := map_keep hM (heap5 (by omega) hW)
  have hap := hs.apart
  have e : (dmap (fun a : Value × List TVal => a.1) E).del (.string k) = dmap (·.1) (delK k E) := dmap_del (fun a : Value × List TVal => a.1) k E hs.rise
  rw [e] at hM3
  have hM4 := map_size hM3
  rw [dmap_size] at hM4
  have hne : ∀ i cur t, w.heap[i]? = some (.cells cur t (0, 0)) → i ≠ mb := fun i cur t hc e => by
    obtain ⟨es, c, hm⟩ := map_block hs.own
    rw [e, hm] at hc
    cases hc
  refine ⟨{ hs with
      box := (step sb hs.lt.1 hap.1).trans hs.box
      own := hM4
      rise := hs.rise.del
      recs := fun p hp => own_keep (hs.recs p (mem_delK hp)) fun i hi => ?_
      good := fun p hp => hs.good p (mem_delK hp)
      irow := own_keep hs.irow fun i hi => step i (hs.irow.lt i hi).2 (hap.2 i hi).2
      flds := fun x hx => own_keep (hs.flds x hx) fun i hi => ?_ }, ?_⟩
  · obtain ⟨cur, hc⟩ := own_type (hs.recs p (mem_delK hp)) hi
    exact step i ((hs.recs p (mem_delK hp)).lt i hi).2 (hne i _ _ hc)
  · obtain ⟨cur, hc⟩ := own_type (hs.flds x hx) hi
    exact step i ((hs.flds x hx).lt i hi).2 (hne i _ _ hc)
  · have q1 := same5 hW
    refine ⟨q1.1.trans (hgr.os.trans hb0.os), q1.2.1.trans (hgr.tape.trans hb0.tape), q1.2.2.1.trans (hgr.output.trans hb0.output), ?_, fun i hi _ h2 _ => step i hi h2⟩
    have := hgr.size
    omega
set_option maxRecDepth 100000 in
set_option maxHeartbeats 3200000 in
theorem del_any (h : Store w B sb mb ix E X d) (s : ByteArray) (hs : s.size ≤ 1000) :
    Calls Tryz.prog 23 #[.pointer (some ⟨sb, 0, none⟩), .string s] w fun e w' => e = .returned (replyV 0 (getK s.data.toList E).isSome (.slice none 0 0) (.slice none 0 0) 0) ∧ Store w' B sb mb ix (delK s.data.toList E) X d ∧ Kept3 sb mb ix w w' := by
  obtain ⟨w0, hw0⟩ : ∃ w0, w.alloc (.cells #[.int .i64 0, .bool false, .slice none 0 0, .slice none 0 0, .int .i64 0] 35) = w0 := ⟨_, rfl⟩
  have hb0 : Below w.heap.size w w0 := hw0 ▸ below_alloc _ _
  have hbx : Box w0 w.heap.size 35 #[.int .i64 0, .bool false, .slice none 0 0, .slice none 0 0, .int .i64 0] := hw0 ▸ Box.made _ _ _
  have hsz : w0.heap.size = w.heap.size + 1 := by rw [← hw0]; simp
  have h0 := h.below hb0
  obtain ⟨q0, q1, q2, f0, f1, f2⟩ := h0.cells
  obtain ⟨A', n', c', hlk, -, -⟩ := h0.look s (by simp only [maxLen]; omega)
  have hkey := WideMaps.keyOf_string_mk Tryz.underlying9 (s := s) (by simp only [maxLen]; omega)
  have Hown0 := Lib.hid h0.own
  have Hbx := Lib.hid hbx
  have Hb0 := Lib.hid hb0
  have Hsz := Lib.hid hsz
  have H := Lib.hid h
  have Hkey := Lib.hid hkey
  clear hb0 hbx hsz h0 h q1 q2 f0 f1 f2 hkey
  generalize (getK s.data.toList E).isSome = there at hlk ⊢
  go_enter Tryz.func23, Tryz.ntmps23
  go_wp2_with (at_delete; refine wpList_delete_own _ rfl _ _ 57 9 rfl 32 strKeyed Tryz.underlying57 Rv mb E.length (dmap (·.1) E) rfl Hown0.out _ _ rfl Hkey.out ?_; intro wM mM tM; obtain ⟨r0, r1, r2, r3, r4, k0, k1, k2, k3, k4⟩ := box5 (turned_box tM Hbx.out); obtain ⟨W3, hW3⟩ : ∃ W3, ((((wM.setCell ⟨w.heap.size, 0, none⟩ (.int .i64 0)).setCell ⟨w.heap.size, 1, none⟩ (.bool there)).setCell ⟨w.heap.size, 2, none⟩ (.slice none 0 0)).setCell ⟨w.heap.size, 3, none⟩ (.slice none 0 0)).setCell ⟨w.heap.size, 4, none⟩ (.int .i64 0) = W3 := ⟨_, rfl⟩; obtain ⟨p0, p1, p2, p3, p4, -⟩ := box5 (box5_store (turned_box tM Hbx.out) hW3); have Hend := Lib.hid (del_end Hb0.out rfl H.out mM tM Hsz.out hW3); clear mM tM)
  refine bodyPost_ret (v := replyV 0 there (.slice none 0 0) (.slice none 0 0) 0) ?_ rfl ⟨rfl, Hend.out.1, Hend.out.2⟩
  simp [results, Tryz.results23, go_sem, replyV, p0, p1, p2, p3, p4]
theorem del_do (h : Store w B sb mb ix E X d) (s : ByteArray) (hs : s.size ≤ 1000) :
    Calls Tryz.prog 23 #[.pointer (some ⟨sb, 0, none⟩), .string s] w (DoPost B sb mb ix E (delK s.data.toList (mapK (·.2) E)) (X.map xi) d ⟨0, (getK s.data.toList (mapK (·.2) E)).isSome, [], [], 0⟩ w) := by
  refine (del_any h s hs).mono ?_
  rintro e w' ⟨rfl, hS, hK⟩
  exact ⟨_, ix, _, X, rfl, by rw [isSome_mapK]; exact ans_plain _ _ _ _ _, hS, mapK_del _ _ _, rfl, hK, fun _ hg => .inl hg, fun p hp => .inl (mem_delK hp)⟩
end
end Go.Proofs.YtknfjajmnlpfjaaGreat

namespace Go.Proofs.YtknfjajmnlpfjaaGreat
open Go.RowKit
open Go.Lib (strCells compareBytes)

theorem tval_eq (u v : TVal) : (u.k = v.k ∧ u.n = v.n ∧ u.s = v.s) ↔ u = v := by
  cases u; cases v; simp
instance : DecidableEq TVal := fun u v => decidable_of_iff _ (tval_eq u v)
set_option maxRecDepth 100000 in
set_option maxHeartbeats 1600000 in
theorem equal_any (A A' : Option Addr) (n n' c c' C C' : Nat) (l m : List TVal) (w : World) (h : HasVals w C A n l) (h' : HasVals w C' A' n' m) (hn : n ≤ maxLen) (hn' : n' ≤ maxLen) :
    Calls Tryz.prog 47 #[.slice A n c, .slice A' n' c'] w fun e w' => e = .returned (.bool (decide (l = m))) ∧ Below w.heap.size w w' := by
  unfold maxLen at hn hn'
  have H := Lib.hid h
  have H' := Lib.hid h'
  have Hl := Lib.hid h.1
  have Hm := Lib.hid h'.1
  clear h h'
  by_cases hnn : n = n'
  · subst hnn
    go_enter Tryz.func47, Tryz.ntmps47
    go_wp2
    go_loopw [5, 13] (fun _ i wr => ∃ k : Nat, k ≤ n ∧ i = .int .i64 (k : Int) ∧ Hid (l.take k = m.take k) ∧ ∃ q, wr = w.drewN q) (fun _ i _ => n - (intOf i).toNat)
    case atStart => exact ⟨0, by omega, rfl, Lib.hid rfl, 0, rfl⟩
    case round =>
      obtain ⟨k, hk, rfl, Ht, q, rfl⟩ := hrel
      by_cases hlt : k < n
      · obtain ⟨a, v, rfl, _, hv, c0, c1, c2⟩ := H.out.at_ hlt
        obtain ⟨b, u, rfl, _, hu, d0, d1, d2⟩ := H'.out.at_ hlt
        have hk0 : (0 : Int) ≤ (k : Int) := by omega
        have hk1 : (k : Int) < (n : Int) := by omega
        have Hv := Lib.hid hv
        have Hu := Lib.hid hu
        clear hv hu
        by_cases e : v = u
        · subst e
          go_wp2
          go_quiet (fail)
          go_wp2
          go_roundw
          case rel => exact ⟨k + 1, by omega, by go_num, Lib.hid (by rw [List.take_add_one, List.take_add_one, Ht.out, Hv.out, Hu.out]), _, rfl⟩
          case measure => simp [intOf]; omega
        · have E : Hid (decide (l = m) = false) := Lib.hid (decide_eq_false fun e' => by
            rw [e', Hu.out] at Hv
            exact e (Option.some.inj Hv.out).symm)
          obtain ⟨vk, vn, vs⟩ := v
          obtain ⟨uk, un, us⟩ := u
          have hx : (vk ≠ uk) ∨ (vk = uk ∧ vn ≠ un) ∨ (vk = uk ∧ vn = un ∧ vs ≠ us) := by
            by_cases h1 : vk = uk
            · by_cases h2 : vn = un
              · exact .inr (.inr ⟨h1, h2, fun h3 => e (by rw [h1, h2, h3])⟩)
              · exact .inr (.inl ⟨h1, h2⟩)
            · exact .inl h1
          simp only at c0 c1 c2 d0 d1 d2
          clear e
          rcases hx with hx | ⟨rfl, hx⟩ | ⟨rfl, rfl, hx⟩
          · have hb : (vk == uk) = false := by simpa using hx
            clear hx
            go_wp2
            go_quiet (fail)
            go_wp2
            go_ret
            exact ⟨ret_bool (by rw [E.out]), below_drews (below_drews (Below.refl _ _) _) _⟩
          · have hb : (vn == un) = false := by simpa using hx
            clear hx
            go_wp2
            go_quiet (fail)
            go_wp2
            go_ret
            exact ⟨ret_bool (by rw [E.out]), below_drews (below_drews (Below.refl _ _) _) _⟩
          · have hb2 : (vs.toList == us.toList) = false := by rw [eq_toList]; exact decide_eq_false fun e => hx (bytes_ext e)
            go_wp2
            go_quiet (fail)
            go_wp2
            go_ret
            exact ⟨ret_bool (by rw [E.out]), below_drews (below_drews (Below.refl _ _) _) _⟩
      · have E : Hid (decide (l = m) = true) := Lib.hid (decide_eq_true (by
          have h1 := Ht.out
          rwa [List.take_of_length_le (by have := Hl.out; omega), List.take_of_length_le (by have := Hm.out; omega)] at h1))
        go_wp2
        go_ret
        exact ⟨ret_bool (by rw [E.out]), below_drews (Below.refl _ _) _⟩
  · have E : Hid (decide (l = m) = false) := Lib.hid (decide_eq_false fun e => hnn (by rw [← Hl.out, ← Hm.out, e]))
    have hb : ((n : Int) != (n' : Int)) = true := by simp; omega
    clear hnn
    go_enter Tryz.func47, Tryz.ntmps47
    go_wp2
    go_ret
    exact ⟨ret_bool (by rw [E.out]), Below.refl _ _⟩

section
variable {B sb mb d : Nat} {ix : Value} {E : Kv (Value × List TVal)} {X : List Ix} {w : World}
theorem DoPost.trans0 {n : Nat} {M : Kv (List TVal)} {I : List (Int × List Int)} {a : Ans} {w1 w2 : World} {e : Ending} (hb : Below w.heap.size w w1) (h : DoPost B sb mb ix E M I n a w1 e w2) : DoPost B sb mb ix E M I n a w e w2 := by
  obtain ⟨v, ix', E', X', e, ha, hs, hM, hI, hk, hx, hnew⟩ := h
  have hsz := hb.size
  exact ⟨v, ix', E', X', e, ha.base hsz, hs, hM, hI, ⟨hk.os.trans hb.os, hk.tape.trans hb.tape, hk.output.trans hb.output, Nat.le_trans hsz hk.size, fun i hi a b c => (hk.block i (by omega) a b c).trans (hb.block i hi)⟩, fun g hg => (hx g hg).imp id (fun h => by omega), fun p hp => (hnew p hp).imp id fun ho => own_baseN ho hsz⟩
def casA (k : List UInt8) (old rc : List TVal) (M : Kv (List TVal)) : Ans × Kv (List TVal) :=
  if (getK k M).getD [] = old then (⟨0, (getK k M).isSome, [], [], 0⟩, putK k rc M) else (⟨9, (getK k M).isSome, (getK k M).getD [], [], 0⟩, M)
set_option maxRecDepth 100000 in
set_option maxHeartbeats 3200000 in
theorem cas_do (h : Store w B sb mb ix E X d) (s : ByteArray) (ov r : Value) (old l : List TVal) (C : Nat) (ho : IsVals w C ov old) (hr : IsVals w C r l) (hC : C ≤ w.heap.size) (hl : GoodRec l) (hk : keyOk s.data.toList = true) (hE : E.length ≤ 1000) :
    Calls Tryz.prog 25 #[.pointer (some ⟨sb, 0, none⟩), .string s, ov, r] w (DoPost B sb mb ix E (casA s.data.toList old l (mapK (·.2) E)).2 (X.map xi) d (casA s.data.toList old l (mapK (·.2) E)).1 w) := by
  have hss : s.size ≤ 16 := by
    unfold keyOk at hk
    simp only [Bool.and_eq_true, decide_eq_true_eq] at hk
    rw [Lib.size_eq]; exact hk.2
  have Ho := Lib.hid ho
  have Hr := Lib.hid hr
  obtain ⟨A1, n1, c1, rfl, -⟩ := ho
  obtain ⟨A2, n2, c2, rfl, -⟩ := hr
  obtain ⟨w0, hw0⟩ : ∃ w0, w.alloc (.cells #[.int .i64 0, .bool false, .slice none 0 0, .slice none 0 0, .int .i64 0] 35) = w0 := ⟨_, rfl⟩
  have hb0 : Below w.heap.size w w0 := hw0 ▸ below_alloc _ _
  have hbx : Box w0 w.heap.size 35 #[.int .i64 0, .bool false, .slice none 0 0, .slice none 0 0, .int .i64 0] := hw0 ▸ Box.made _ _ _
  have hsz : w0.heap.size = w.heap.size + 1 := by rw [← hw0]; simp
  have H := Lib.hid h
  have H0 := Lib.hid (h.below hb0)
  have Hget := Lib.hid (get_any H0.out s (by simp only [maxLen]; omega))
  have Hbx := Lib.hid hbx
  have Hb0 := Lib.hid hb0
  have Hsz := Lib.hid hsz
  have HC := Lib.hid hC
  have HE := Lib.hid hE
  have Hl := Lib.hid hl
  have Hk := Lib.hid hk
  obtain ⟨g1, -, -⟩ := h.recGood s.data.toList
  have Hg1 := Lib.hid g1
  rw [casA, isSome_mapK, recOf_mapK]
  generalize hth : (getK s.data.toList E).isSome = there at Hget ⊢
  generalize hR : recOf s.data.toList E = R at Hget Hg1 ⊢
  clear hb0 hbx hsz h hC hE hl hk g1
  by_cases hc : R = old
  · simp only [if_pos hc]
    have Hc := Lib.hid hc
    clear hc
    go_enter Tryz.func25, Tryz.ntmps25
    go_wp2_with fail
    refine Hget.out.mono ?_
    rintro e w1 ⟨v, rfl, hown, hb1⟩
    obtain ⟨Av, cv, rfl, hv1, hv2, hv3⟩ := own_sliceN hown
    obtain ⟨w2, hw2⟩ : ∃ w2, w1.alloc (.cells #[.int .i64 0, .bool there, .slice Av R.length cv, .slice none 0 0, .int .i64 0] 35) = w2 := ⟨_, rfl⟩
    have hb2 : Below w1.heap.size w1 w2 := hw2 ▸ below_alloc _ _
    have hbx2 : Box w2 w1.heap.size 35 #[.int .i64 0, .bool there, .slice Av R.length cv, .slice none 0 0, .int .i64 0] := hw2 ▸ Box.made _ _ _
    have Hb2 := Lib.hid (Below.then hb1 hb2)
    have Hbw2 := Lib.hid (Hb0.out.trans ((Below.then hb1 hb2).mono (by rw [Hsz.out]; omega)))
    have Hbx2 := Lib.hid hbx2
    have Hown2 := Lib.hid (own_belowN hown hb2)
    obtain ⟨A1', n1', c1', e1, a1, a2, a3, -⟩ := Ho.out.belowOf Hbw2.out HC.out
    injection e1 with e11 e12 e13
    subst e11; subst e12; subst e13
    have Heq := Lib.hid (equal_any Av A1 R.length n1 cv c1 _ C R old w2 ⟨rfl, hv3.below hb2⟩ a3 (Nat.le_trans hv1 hv2) (Nat.le_trans a1 a2))
    have Hw2 := Lib.hid hw2
    have Hw1 := Lib.hid hb1
    clear hw2 hb2 hbx2 hown hb1 hv1 hv2 hv3 a1 a2 a3
    simp only [replyV]
    rw [decide_eq_true Hc.out] at Heq
    go_wp2_with fail
    rw [Hw2.out]
    refine Heq.out.mono ?_
    rintro e w3 ⟨rfl, hb3⟩
    have Hbw3 := Lib.hid (Below.then Hbw2.out hb3)
    have Hb03 := Lib.hid (Below.then Hb2.out hb3)
    clear hb3
    go_wp2_with fail
    refine (put_any (H.out.below Hbw3.out) s _ l C (Hr.out.belowOf Hbw3.out HC.out) (Nat.le_trans HC.out Hbw3.out.size) Hl.out Hk.out HE.out).mono ?_
    rintro e w5 ⟨v, rfl, hs5, ho5, hk5⟩
    have hg0 : w.heap.size < w3.heap.size := by have := Hb03.out.size; have := Hsz.out; omega
    have hbx3 := Hbx.out.below Hb03.out Hbx.out.lt
    have hbx5 := (show Box w5 _ _ _ from (hk5.block _ hg0 (by have := H.out.lt.1; omega) (by have := H.out.lt.2; omega) (fun e => by have := (H.out.irow.lt _ e.symm).2; omega)).trans hbx3)
    obtain ⟨r0, r1, r2, r3, r4, k0, k1, k2, k3, k4⟩ := box5 hbx5
    obtain ⟨W3, hW3⟩ : ∃ W3, ((((w5.setCell ⟨w.heap.size, 0, none⟩ (.int .i64 0)).setCell ⟨w.heap.size, 1, none⟩ (.bool there)).setCell ⟨w.heap.size, 2, none⟩ (.slice none 0 0)).setCell ⟨w.heap.size, 3, none⟩ (.slice none 0 0)).setCell ⟨w.heap.size, 4, none⟩ (.int .i64 0) = W3 := ⟨_, rfl⟩
    obtain ⟨p0, p1, p2, p3, p4, -⟩ := box5 (box5_store hbx5 hW3)
    have hsame := same5 hW3
    have hkeep : ∀ i, i < w3.heap.size → i ≠ w.heap.size → i ≠ sb → i ≠ mb → some i ≠ ix.ownBlock → W3.heap[i]? = w3.heap[i]? := fun i h1 h2 h3 h4 h5 => (heap5 h2 hW3).trans (hk5.block i h1 h3 h4 h5)
    have Hend : Hid (DoPost B sb mb ix E (putK s.data.toList l (mapK (·.2) E)) (X.map xi) d ⟨0, there, [], [], 0⟩ w (.returned (replyV 0 there (.slice none 0 0) (.slice none 0 0) 0)) W3) := Lib.hid (by
      have hlt := H.out.lt
      refine ⟨_, ix, putK s.data.toList (v, l) E, X, rfl, ans_plain _ _ _ _ _, store5 hs5 hbx5 hW3, mapK_put _ _ _ _, rfl, ?_, fun _ hg => .inl hg, fun p hp => ?_⟩
      · refine ⟨hsame.1.trans (hk5.os.trans Hbw3.out.os), hsame.2.1.trans (hk5.tape.trans Hbw3.out.tape), hsame.2.2.1.trans (hk5.output.trans Hbw3.out.output), ?_, fun i hi c1 c2 c3 => ?_⟩
        · have := hk5.size; have := Hbw3.out.size; omega
        · rw [hkeep i (by omega) (by omega) c1 c2 c3, Hbw3.out.block i hi]
      · rcases mem_putK hp with rfl | hp
        · exact .inr (own_baseN (own5 ho5 hg0 hW3) Hbw3.out.size)
        · exact .inl hp)
    clear hbx5 hkeep hbx3 hs5 ho5 hk5
    simp only [replyV]
    go_wp2
    refine bodyPost_ret (v := replyV 0 there (.slice none 0 0) (.slice none 0 0) 0) ?_ rfl Hend.out
    simp [results, Tryz.results25, go_sem, replyV, p0, p1, p2, p3, p4]
  · simp only [if_neg hc]
    have Hc := Lib.hid hc
    clear hc
    go_enter Tryz.func25, Tryz.ntmps25
    go_wp2_with fail
    refine Hget.out.mono ?_
    rintro e w1 ⟨v, rfl, hown, hb1⟩
    obtain ⟨Av, cv, rfl, hv1, hv2, hv3⟩ := own_sliceN hown
    obtain ⟨w2, hw2⟩ : ∃ w2, w1.alloc (.cells #[.int .i64 0, .bool there, .slice Av R.length cv, .slice none 0 0, .int .i64 0] 35) = w2 := ⟨_, rfl⟩
    have hb2 : Below w1.heap.size w1 w2 := hw2 ▸ below_alloc _ _
    have hbx2 : Box w2 w1.heap.size 35 #[.int .i64 0, .bool there, .slice Av R.length cv, .slice none 0 0, .int .i64 0] := hw2 ▸ Box.made _ _ _
    have Hb2 := Lib.hid (Below.then hb1 hb2)
    have Hbw2 := Lib.hid (Hb0.out.trans ((Below.then hb1 hb2).mono (by rw [Hsz.out]; omega)))
    have Hbx2 := Lib.hid hbx2
    have Hown2 := Lib.hid (own_belowN hown hb2)
    obtain ⟨A1', n1', c1', e1, a1, a2, a3, -⟩ := Ho.out.belowOf Hbw2.out HC.out
    injection e1 with e11 e12 e13
    subst e11; subst e12; subst e13
    have Heq := Lib.hid (equal_any Av A1 R.length n1 cv c1 _ C R old w2 ⟨rfl, hv3.below hb2⟩ a3 (Nat.le_trans hv1 hv2) (Nat.le_trans a1 a2))
    have Hw2 := Lib.hid hw2
    have Hw1 := Lib.hid hb1
    clear hw2 hb2 hbx2 hown hb1 hv1 hv2 hv3 a1 a2 a3
    simp only [replyV]
    rw [decide_eq_false Hc.out] at Heq
    go_wp2_with fail
    rw [Hw2.out]
    refine Heq.out.mono ?_
    rintro e w3 ⟨rfl, hb3⟩
    have Hbw3 := Lib.hid (Below.then Hbw2.out hb3)
    have Hb03 := Lib.hid (Below.then Hb2.out hb3)
    have hbx3 := Hbx.out.below Hb03.out Hbx.out.lt
    have hbc := Hbx2.out.below hb3 Hbx2.out.lt
    have hgne : w1.heap.size ≠ w.heap.size := by have := Hb2.out.size; have := Hw1.out.size; have := Hsz.out; omega
    obtain ⟨w4, hw4⟩ : ∃ w4, w3.setCell ⟨w1.heap.size, 0, none⟩ (.int .i64 9) = w4 := ⟨_, rfl⟩
    have hbc4 : Box w4 w1.heap.size 35 #[.int .i64 9, .bool there, .slice Av R.length cv, .slice none 0 0, .int .i64 0] := hw4 ▸ hbc.set_ 0 _
    have hbx4 : Box w4 w.heap.size 35 #[.int .i64 0, .bool false, .slice none 0 0, .slice none 0 0, .int .i64 0] := hw4 ▸ hbx3.far hgne.symm _
    have hown4 : w4.ownsRow (w0.heap.size + 1) 53 3 (.slice Av R.length cv) R.length (valCells R) := by
      have h3 := own_belowN Hown2.out hb3
      refine own_keep h3 fun g hg => ?_
      rw [← hw4]
      refine Below.heap_setCell _ _ _ _ (fun e => ?_)
      obtain ⟨cur, hcc⟩ := own_type h3 hg
      have e' : g = w1.heap.size := e
      unfold Box at hbc
      rw [e', hbc] at hcc
      injection hcc with hcc; injection hcc with _ hcc; exact absurd hcc (by decide)
    have hb4 : Below w.heap.size w w4 := by rw [← hw4]; exact Hbw3.out.setCell (by show w.heap.size ≤ w1.heap.size; have := Hw1.out.size; have := Hsz.out; omega) _
    obtain ⟨r0, r1, r2, r3, r4, k0, k1, k2, k3, k4⟩ := box5 hbx4
    obtain ⟨t0, t1, t2, t3, t4, -⟩ := box5 hbc4
    obtain ⟨u0, -, -, -, -, ku0, -⟩ := box5 hbc
    obtain ⟨W3, hW3⟩ : ∃ W3, ((((w4.setCell ⟨w.heap.size, 0, none⟩ (.int .i64 9)).setCell ⟨w.heap.size, 1, none⟩ (.bool there)).setCell ⟨w.heap.size, 2, none⟩ (.slice Av R.length cv)).setCell ⟨w.heap.size, 3, none⟩ (.slice none 0 0)).setCell ⟨w.heap.size, 4, none⟩ (.int .i64 0) = W3 := ⟨_, rfl⟩
    obtain ⟨p0, p1, p2, p3, p4, -⟩ := box5 (box5_store hbx4 hW3)
    have hbW := below5 hb4 hW3
    have hownW := own5 hown4 (by have := Hsz.out; omega) hW3
    have Hend : Hid (DoPost B sb mb ix E (mapK (·.2) E) (X.map xi) d ⟨9, there, R, [], 0⟩ w (.returned (replyV 9 there (.slice Av R.length cv) (.slice none 0 0) 0)) W3) :=
      Lib.hid (do_same H.out ⟨_, _, rfl, own_baseN hownW (by have := Hsz.out; omega), RowsIs.nil _ _⟩ hbW)
    clear hb4 hown4 hbx4 hbc4 hbc hbx3 hb3 hownW hbW
    go_wp2
    refine bodyPost_ret (v := replyV 9 there (.slice Av R.length cv) (.slice none 0 0) 0) ?_ rfl Hend.out
    simp [results, Tryz.results25, go_sem, replyV, p0, p1, p2, p3, p4]
end
end Go.Proofs.YtknfjajmnlpfjaaGreat

namespace Go.Proofs.YtknfjajmnlpfjaaGreat
open Go.RowKit
open Go.Lib (strCells compareBytes)

/-- a key that a scan from f to t leaves out -/
def outK (f t k : List UInt8) : Bool := decide (k < f) || (!(t == []) && !(decide (k < t)))
set_option maxRecDepth 100000 in
theorem scan1_any (key f t : ByteArray) (g1 g2 : Nat) (w : World) (h1 : w.cell? ⟨g1, 0, none⟩ = some (.string f)) (h2 : w.cell? ⟨g2, 0, none⟩ = some (.string t)) :
    Calls Tryz.prog 49 #[.string key, .pointer (some ⟨g1, 0, none⟩), .pointer (some ⟨g2, 0, none⟩)] w fun e w' => e = .returned (.bool (outK f.data.toList t.data.toList key.data.toList)) ∧ Below w.heap.size w w' := by
  obtain ⟨b1, e1⟩ : ∃ b, decide (key.data.toList < f.data.toList) = b := ⟨_, rfl⟩
  obtain ⟨b2, e2⟩ : ∃ b, (t.data.toList == []) = b := ⟨_, rfl⟩
  obtain ⟨b3, e3⟩ : ∃ b, decide (key.data.toList < t.data.toList) = b := ⟨_, rfl⟩
  have E : Hid (outK f.data.toList t.data.toList key.data.toList = (b1 || (!b2 && !b3))) := Lib.hid (by unfold outK; rw [e1, e2, e3])
  have m1 : Op.bytesLess key.toList f.toList = b1 := by rw [bytesLess_lt, Lib.toList_data, Lib.toList_data]; exact e1
  have m3 : Op.bytesLess key.toList t.toList = b3 := by rw [bytesLess_lt, Lib.toList_data, Lib.toList_data]; exact e3
  have m2 : (t.toList == []) = b2 := by rw [Lib.toList_data]; exact e2
  clear e1 e2 e3
  cases b1 <;> cases b2 <;> cases b3 <;>
  · go_enter Tryz.func49, Tryz.ntmps49
    go_wp2
    go_ret
    exact ⟨ret_bool (by rw [E.out]; rfl), Below.refl _ _⟩
set_option maxRecDepth 100000 in
set_option maxHeartbeats 1600000 in
theorem idxS_any (ks : List (List UInt8)) (f t : ByteArray) (A : Option Addr) (n c C g1 g2 : Nat) (w : World) (h : Has w C A n (strRow ks)) (hC : C ≤ w.heap.size) (hn : n ≤ 1000) (h1 : w.cell? ⟨g1, 0, none⟩ = some (.string f)) (h2 : w.cell? ⟨g2, 0, none⟩ = some (.string t)) :
    Calls Tryz.prog 86 #[.slice A n c, .func (.func 49) #[] #[.pointer (some ⟨g1, 0, none⟩), .pointer (some ⟨g2, 0, none⟩)]] w fun e w' => ∃ z, e = .returned (.int .i64 z) ∧ Below w.heap.size w w' ∧
      ((z = -1 ∧ ∀ k ∈ ks, outK f.data.toList t.data.toList k = false) ∨ ∃ i : Nat, i < n ∧ z = (i : Int) ∧ (∀ j y, j < i → ks[j]? = some y → outK f.data.toList t.data.toList y = false) ∧ ∀ y, ks[i]? = some y → outK f.data.toList t.data.toList y = true) := by
  have Hl : Hid (ks.length = n) := Lib.hid (by have := h.1; simpa [strRow] using this)
  have H := Lib.hid h
  have H1 := Lib.hid h1
  have H2 := Lib.hid h2
  have HC := Lib.hid hC
  clear h h1 h2 hC
  go_enter Tryz.func86, Tryz.ntmps86
  go_wp2
  go_loopw [5, 8] (fun _ i wr => ∃ k : Nat, k ≤ n ∧ i = .int .i64 (k : Int) ∧ Below w.heap.size w wr ∧ Hid (∀ j y, j < k → ks[j]? = some y → outK f.data.toList t.data.toList y = false)) (fun _ i _ => n - (intOf i).toNat)
  case atStart => exact ⟨0, by omega, rfl, Below.refl _ _, Lib.hid (fun j y hj => by omega)⟩
  case round =>
    obtain ⟨k, hk, rfl, hb, Hj⟩ := hrel
    have Hb := Lib.hid hb
    clear hb
    by_cases hlt : k < n
    · obtain ⟨a, rfl, hab, hc0⟩ := (H.out.belowOf Hb.out HC.out).cell hlt
      have hkl : k < ks.length := by have := Hl.out; omega
      have e0 : (strRow ks).getD k undef = .string ⟨ks[k].toArray⟩ := by simp [strRow, hkl, encStr]
      rw [e0] at hc0
      have Hx : Hid (ks[k]? = some ks[k]) := Lib.hid (List.getElem?_eq_getElem hkl)
      generalize ks[k] = key at hc0 Hx
      obtain ⟨s, hs⟩ : ∃ s : ByteArray, ⟨key.toArray⟩ = s := ⟨_, rfl⟩
      have Hkey : Hid (s.data.toList = key) := Lib.hid (by rw [← hs])
      rw [hs] at hc0
      have Hcl := Lib.hid (scan1_any s f t g1 g2 wr (keepcell Hb.out H1.out) (keepcell Hb.out H2.out))
      rw [Hkey.out] at Hcl
      have hk0 : (0 : Int) ≤ (k : Int) := by omega
      have hk1 : (k : Int) < (n : Int) := by omega
      clear e0 hs hkl
      cases hd : outK f.data.toList t.data.toList key with
      | true =>
        rw [hd] at Hcl
        have Hd := Lib.hid hd
        clear hd
        go_wp2_with fail
        refine Hcl.out.mono ?_
        rintro e w2 ⟨rfl, hb2⟩
        have Hb2 := Lib.hid (Below.then Hb.out hb2)
        clear hb2
        go_wp2
        go_ret
        exact ⟨_, rfl, Hb2.out, .inr ⟨k, hlt, rfl, Hj.out, fun y hy => by rw [Hx.out] at hy; injection hy with hy; rw [← hy]; exact Hd.out⟩⟩
      | false =>
        rw [hd] at Hcl
        have Hj2 : Hid (∀ j y, j < k + 1 → ks[j]? = some y → outK f.data.toList t.data.toList y = false) := Lib.hid (fun j y hj hy => by
          rcases Nat.lt_or_ge j k with h | h
          · exact Hj.out j y h hy
          · have : j = k := by omega
            subst this
            rw [Hx.out] at hy
            injection hy with hy
            rw [← hy]; exact hd)
        clear hd
        go_wp2_with fail
        refine Hcl.out.mono ?_
        rintro e w2 ⟨rfl, hb2⟩
        have Hb2 := Lib.hid (Below.then Hb.out hb2)
        clear hb2
        go_wp2
        go_roundw
        case rel => exact ⟨k + 1, by omega, by go_num, Hb2.out, Hj2⟩
        case measure => simp [intOf]; omega
    · go_wp2
      go_ret
      exact ⟨_, rfl, Hb.out, .inl ⟨rfl, fun y hy => by
        obtain ⟨j, hj, e⟩ := List.getElem_of_mem hy
        exact Hj.out j y (by have := Hl.out; omega) (by rw [List.getElem?_eq_getElem hj, e])⟩⟩
end Go.Proofs.YtknfjajmnlpfjaaGreat

namespace Go.Proofs.YtknfjajmnlpfjaaGreat
open Go.RowKit
open Go.Lib (strCells compareBytes)

def inK (f t k : List UInt8) : Bool := !outK f t k
theorem strRow_len (l : List (List UInt8)) : (strRow l).length = l.length := by simp [strRow]
theorem strRow_set (l : List (List UInt8)) (i : Nat) (k : List UInt8) : (strRow l).set i (encStr k) = strRow (l.set i k) := by simp [strRow, List.map_set]
theorem take_set {α : Type} {l : List α} {i : Nat} (h : i < l.length) (x : α) : (l.set i x).take (i + 1) = l.take i ++ [x] := by
  rw [List.take_succ_eq_append_getElem (by simpa using h)]
  simp [List.take_set_of_le]
set_option maxRecDepth 100000 in
set_option maxHeartbeats 3200000 in
theorem delF_any (ks : List (List UInt8)) (f t : ByteArray) (v : Value) (n B g1 g2 : Nat) (w : World) (h : w.ownsRow B 9 1 v n (strRow ks)) (hB : B ≤ w.heap.size) (hn : n ≤ 1000) (hg1 : g1 < B) (hg2 : g2 < B) (h1 : w.cell? ⟨g1, 0, none⟩ = some (.string f)) (h2 : w.cell? ⟨g2, 0, none⟩ = some (.string t)) :
    Calls Tryz.prog 48 #[v, .func (.func 49) #[] #[.pointer (some ⟨g1, 0, none⟩), .pointer (some ⟨g2, 0, none⟩)]] w fun e w' => ∃ A m c, e = .returned (.slice A m c) ∧ m ≤ c ∧ m ≤ n ∧ c ≤ maxLen ∧ Has w' w'.heap.size A m (strRow (ks.filter (inK f.data.toList t.data.toList))) ∧ Below B w w' := by
  have Hl : Hid (ks.length = n) := Lib.hid (by have := h.1; simpa [strRow] using this)
  obtain ⟨A, c, rfl, hnc, hcm, hhas⟩ := own_slice h
  have Hown := Lib.hid h
  have Hhas := Lib.hid hhas
  have H1 := Lib.hid h1
  have H2 := Lib.hid h2
  have HB := Lib.hid hB
  have Hg1 := Lib.hid hg1
  have Hg2 := Lib.hid hg2
  clear h hhas h1 h2 hB hg1 hg2
  have Hi := Lib.hid (idxS_any ks f t A n c w.heap.size g1 g2 w Hhas.out (Nat.le_refl _) hn H1.out H2.out)
  unfold maxLen at hcm
  go_enter Tryz.func48, Tryz.ntmps48
  go_wp2_with fail
  refine Hi.out.mono ?_
  rintro e w1 ⟨z, rfl, hb1, hz⟩
  have Hb1 := Lib.hid (hb1.mono HB.out)
  have Hown1 := Lib.hid (own_below Hown.out hb1)
  have Hhas1 : Hid (Has w1 w1.heap.size A n (strRow ks)) := Lib.hid (by
    obtain ⟨A', c', e, _, _, hh⟩ := own_slice Hown1.out
    injection e with e1 _ _
    subst e1
    exact hh)
  clear hb1
  rcases hz with ⟨rfl, hz⟩ | ⟨i0, hi0, rfl, hz1, hz2⟩
  · have Hz := Lib.hid hz
    clear hz
    go_wp2
    go_ret
    refine ⟨A, n, c, rfl, hnc, Nat.le_refl _, hcm, ?_, Hb1.out⟩
    rw [List.filter_eq_self.2 (fun k hk => by simp [inK, Hz.out k hk])]
    exact Hhas1.out
  · obtain ⟨g, rfl, hBg⟩ := own_at Hown1.out (by omega)
    have HBg := Lib.hid hBg
    have hne : ((i0 : Int) == -1) = false := by simp
    clear hBg
    have Hz0 : Hid (ks.take i0 = (ks.take (i0 + 1)).filter (inK f.data.toList t.data.toList)) := Lib.hid (by
      have hkl : i0 < ks.length := by have := Hl.out; omega
      rw [List.take_succ_eq_append_getElem hkl, List.filter_append, List.filter_eq_self.2 (fun k hk => by
        obtain ⟨j, hj, e⟩ := List.getElem_of_mem hk
        rw [List.length_take] at hj
        rw [List.getElem_take] at e
        simp [inK, hz1 j k (by omega) (by rw [← e]; exact List.getElem?_eq_getElem (by omega))])]
      simp [inK, hz2 _ (List.getElem?_eq_getElem hkl)])
    clear hz1 hz2
    go_wp2
    go_loopw [5, 6, 7] (fun iv jv _ wr => ∃ (i j : Nat) (L : List (List UInt8)), i < j ∧ j ≤ n ∧ iv = .int .i64 (i : Int) ∧ jv = .int .i64 (j : Int) ∧ wr.ownsRow B 9 1 (.slice (some ⟨g, 0, none⟩) n c) n (strRow L) ∧ Hid (L.take i = (ks.take j).filter (inK f.data.toList t.data.toList)) ∧ Hid (L.drop j = ks.drop j) ∧ Below B w wr) (fun _ jv _ _ => n - (intOf jv).toNat)
    case atStart => exact ⟨i0, i0 + 1, ks, by omega, by omega, rfl, by simp, Hown1.out, Hz0, Lib.hid rfl, Hb1.out⟩
    case round =>
      obtain ⟨i, j, L, hij, hj, rfl, rfl, hown, Ht, Hd, hb⟩ := hrel
      have Hb := Lib.hid hb
      have HL : Hid (L.length = n) := Lib.hid (by have := hown.1; rw [strRow_len] at this; omega)
      have Hown := Lib.hid hown
      clear hb hown
      by_cases hlt : j < n
      · have hjl : j < L.length := by have := HL.out; omega
        have hkl : j < ks.length := by have := Hl.out; omega
        have Hkj : Hid (L[j] = ks[j]) := Lib.hid (by
          have h1 := congrArg (fun l : List (List UInt8) => l[0]?) Hd.out
          simpa [hjl, hkl] using h1)
        have hc0 := Hown.out.cellAt j (by omega)
        rw [strRow, List.getElem?_map, List.getElem?_eq_getElem hjl, Hkj.out] at hc0
        have Ek : Hid ((ks.take (j + 1)).filter (inK f.data.toList t.data.toList) = (ks.take j).filter (inK f.data.toList t.data.toList) ++ (if inK f.data.toList t.data.toList ks[j] then [ks[j]] else [])) := Lib.hid (by
          rw [List.take_succ_eq_append_getElem hkl, List.filter_append]
          by_cases hq : inK f.data.toList t.data.toList ks[j] = true <;> simp [hq])
        have Hd2 : Hid (L.drop (j + 1) = ks.drop (j + 1)) := Lib.hid (by rw [← List.drop_drop, ← List.drop_drop, Hd.out])
        generalize ks[j] = key at hc0 Ek Hkj
        obtain ⟨s, hs⟩ : ∃ s : ByteArray, ⟨key.toArray⟩ = s := ⟨_, rfl⟩
        have Hkey : Hid (s.data.toList = key) := Lib.hid (by rw [← hs])
        simp only [Option.map_some, encStr] at hc0
        rw [hs] at hc0
        have Hcl := Lib.hid (scan1_any s f t g1 g2 wr ((Hb.out.cell (show (⟨g1, 0, none⟩ : Addr).block < B from Hg1.out)).trans H1.out) ((Hb.out.cell (show (⟨g2, 0, none⟩ : Addr).block < B from Hg2.out)).trans H2.out))
        rw [Hkey.out] at Hcl
        have hj0 : (0 : Int) ≤ (j : Int) := by omega
        have hj1 : (j : Int) < (n : Int) := by omega
        have hi0 : (0 : Int) ≤ (i : Int) := by omega
        have hi1 : (i : Int) < (n : Int) := by omega
        have hBw : B ≤ wr.heap.size := Nat.le_trans HB.out Hb.out.size
        clear hs Hkj
        cases hd : outK f.data.toList t.data.toList key with
        | true =>
          rw [hd] at Hcl
          have Ht2 : Hid (L.take i = (ks.take (j + 1)).filter (inK f.data.toList t.data.toList)) := Lib.hid (by rw [Ek.out, Ht.out]; simp [inK, hd])
          clear hd
          go_wp2_with fail
          refine Hcl.out.mono ?_
          rintro e w2 ⟨rfl, hb2⟩
          have Hb2 := Lib.hid (Hb.out.trans (hb2.mono hBw))
          have Hown2 := Lib.hid (own_below Hown.out hb2)
          clear hb2
          go_wp2
          go_roundw
          case rel => exact ⟨i, j + 1, L, by omega, by omega, rfl, by go_num, Hown2.out, Ht2, Hd2, Hb2.out⟩
          case measure => simp [intOf]; omega
        | false =>
          rw [hd] at Hcl
          have Ht2 : Hid ((L.set i key).take (i + 1) = (ks.take (j + 1)).filter (inK f.data.toList t.data.toList)) := Lib.hid (by rw [Ek.out, take_set (by omega), Ht.out]; simp [inK, hd])
          have Hd3 : Hid ((L.set i key).drop (j + 1) = ks.drop (j + 1)) := Lib.hid (by rw [List.drop_set_of_lt (by omega), Hd2.out])
          clear hd
          go_wp2_with fail
          refine Hcl.out.mono ?_
          rintro e w2 ⟨rfl, hb2⟩
          have hb2' := Hb.out.trans (hb2.mono hBw)
          have hown2 := own_below Hown.out hb2
          have hst := hown2.stored i (encStr key)
          have hc2 : w2.cell? ⟨g, i, none⟩ = some (encStr L[i]) := by rw [hown2.cellAt i (by omega), strRow, List.getElem?_map, List.getElem?_eq_getElem (by omega)]; rfl
          have hf2 := hown2.frozenAt i
          obtain ⟨w3, hw3⟩ : ∃ w3, w2.setCell ⟨g, i, none⟩ (.string s) = w3 := ⟨_, rfl⟩
          have ek : encStr key = .string s := by rw [← Hkey.out]
          rw [ek, hw3] at hst
          rw [← ek, strRow_set] at hst
          have Hown3 := Lib.hid hst.1
          have Hb3 : Hid (Below B w w3) := Lib.hid (by rw [← hw3]; exact hb2'.setCell (show B ≤ g from HBg.out) _)
          clear hb2 hb2' hown2 hst ek
          go_wp2
          go_roundw
          case rel => exact ⟨i + 1, j + 1, L.set i key, by omega, by omega, by go_num, by go_num, Hown3.out, Ht2, Hd3, Hb3.out⟩
          case measure => simp [intOf]; omega
      · have hin : i < n := by omega
        have hjn : j = n := by omega
        have hcl : ∀ ty, (Builtin.clear_ #[41] ty #[.slice (some ⟨g, i, none⟩) (n - i) (c - i)]).run Tryz.prog wr = .ok (.tuple #[]) (wr.setCells g i (List.replicate (n - i) (.string ⟨#[]⟩))) :=
          fun ty => Lib.run_clear_slice wr 41 9 ty (.string ⟨#[]⟩) Tryz.underlying41 (fun w => by kernel_rfl) rfl rfl g i (n - i) (c - i) (by omega) (fun k hk => by rw [Hown.out.cellAt (i + k) (by omega), List.getElem?_eq_getElem (by rw [strRow_len]; have := HL.out; omega)]; rfl) (fun k hk => Hown.out.frozenAt (i + k))
        have Hend : Hid (i = (ks.filter (inK f.data.toList t.data.toList)).length ∧ L.take i = ks.filter (inK f.data.toList t.data.toList)) := Lib.hid (by
          have h1 := Ht.out
          rw [hjn, List.take_of_length_le (l := ks) (by have := Hl.out; omega)] at h1
          refine ⟨?_, h1⟩
          rw [← h1, List.length_take]
          have := HL.out; omega)
        obtain ⟨W, hW⟩ : ∃ W, wr.setCells g i (List.replicate (n - i) (.string ⟨#[]⟩)) = W := ⟨_, rfl⟩
        rw [hW] at hcl
        have Hhas : Hid (Has W W.heap.size (some ⟨g, 0, none⟩) i (strRow (ks.filter (inK f.data.toList t.data.toList)))) := Lib.hid (by
          obtain ⟨A', c', e, _, _, hh⟩ := own_slice Hown.out
          injection e with e1 _ _
          subst e1
          have hh := hh.take (k := i) (by omega)
          have e2 : (strRow L).take i = strRow (ks.filter (inK f.data.toList t.data.toList)) := by rw [← Hend.out.2]; simp [strRow]
          rw [e2] at hh
          refine ⟨hh.1, fun k u hu => ?_⟩
          obtain ⟨a, ea, hab, hac⟩ := hh.2 k u hu
          injection ea with ea
          subst ea
          have hki : k < i := by have := (List.getElem?_eq_some_iff.1 hu).1; rw [hh.1] at this; exact this
          refine ⟨_, rfl, ?_, ?_⟩
          · rw [← hW, Sort.size_setCells]; exact hab
          · rw [← hW, World.cell?_setCells_out _ _ _ _ _ (fun _ _ => .inl (by unfold Addr.add; split <;> (dsimp only; omega)))]; exact hac)
        have HbW : Hid (Below B w W) := Lib.hid (hW ▸ below_setCells HBg.out _ _ _ Hb.out)
        clear hW
        go_wp2_with (simp only [hcl])
        go_ret
        exact ⟨_, i, c, rfl, by omega, by omega, hcm, Hhas.out, HbW.out⟩
end Go.Proofs.YtknfjajmnlpfjaaGreat

namespace Go.Proofs.YtknfjajmnlpfjaaGreat
open Go.RowKit
open Go.Lib (strCells compareBytes)

/-- what a scan answers -/
def scanA (f t : List UInt8) (lim : Nat) (M : Kv (List TVal)) : Ans := ⟨0, false, [], rowsT M (((M.map (·.1)).filter (inK f t)).take lim), 0⟩
theorem below5B {w w0 W : World} {g B : Nat} {x' y' z' u' v' : Value} (h : Below B w0 w) (hB : B ≤ g) (hW : ((((w.setCell ⟨g, 0, none⟩ x').setCell ⟨g, 1, none⟩ y').setCell ⟨g, 2, none⟩ z').setCell ⟨g, 3, none⟩ u').setCell ⟨g, 4, none⟩ v' = W) : Below B w0 W := by
  subst hW
  exact ((((h.setCell hB _).setCell hB _).setCell hB _).setCell hB _).setCell hB _
section
variable {B sb mb d : Nat} {ix : Value} {E : Kv (Value × List TVal)} {X : List Ix} {w : World}
set_option maxRecDepth 100000 in
set_option maxHeartbeats 3200000 in
theorem scan_do (h : Store w B sb mb ix E X d) (f t : ByteArray) (lim : Nat) (hE : E.length ≤ 1000) (hlim : lim ≤ 64) :
    Calls Tryz.prog 26 #[.pointer (some ⟨sb, 0, none⟩), .string f, .string t, .int .i64 (lim : Int)] w (DoPost B sb mb ix E (mapK (·.2) E) (X.map xi) d (scanA f.data.toList t.data.toList lim (mapK (·.2) E)) w) := by
  obtain ⟨wa, hwa⟩ : ∃ wa, w.alloc (.cells #[.string f] 9) = wa := ⟨_, rfl⟩
  have hba : Below w.heap.size w wa := hwa ▸ below_alloc _ _
  have hca : wa.cell? ⟨w.heap.size, 0, none⟩ = some (.string f) := hwa ▸ (Box.made w (cs := #[.string f]) (t := 9)).cell 0
  have hsa : wa.heap.size = w.heap.size + 1 := by rw [← hwa]; simp
  obtain ⟨wb, hwb⟩ : ∃ wb, wa.alloc (.cells #[.string t] 9) = wb := ⟨_, rfl⟩
  have hbb : Below wa.heap.size wa wb := hwb ▸ below_alloc _ _
  have hcb : wb.cell? ⟨w.heap.size + 1, 0, none⟩ = some (.string t) := by
    have h1 := hwb ▸ (Box.made wa (cs := #[.string t]) (t := 9)).cell 0
    rw [hsa] at h1; exact h1
  have hsb : wb.heap.size = w.heap.size + 1 + 1 := by rw [← hwb]; simp [hsa]
  obtain ⟨w0, hw0⟩ : ∃ w0, wb.alloc (.cells #[.int .i64 0, .bool false, .slice none 0 0, .slice none 0 0, .int .i64 0] 35) = w0 := ⟨_, rfl⟩
  have hb0' : Below wb.heap.size wb w0 := hw0 ▸ below_alloc _ _
  have hb0 : Below w.heap.size w w0 := Below.then (Below.then hba hbb) hb0'
  have hbx : Box w0 (w.heap.size + 1 + 1) 35 #[.int .i64 0, .bool false, .slice none 0 0, .slice none 0 0, .int .i64 0] := hw0 ▸ made_at hsb _ _
  have hsz : w0.heap.size = w.heap.size + 1 + 1 + 1 := by rw [← hw0]; simp [hsb]
  have Hc1 := Lib.hid (keepcell (Below.then hbb hb0') hca)
  have Hc2 := Lib.hid (keepcell hb0' hcb)
  have H := Lib.hid h
  have H0 := Lib.hid (h.below hb0)
  have Hbx := Lib.hid hbx
  have Hb0 := Lib.hid hb0
  have Hsz := Lib.hid hsz
  have HE := Lib.hid hE
  have Hkey : Hid (∀ k ∈ keysOf E, k.length ≤ 16) := Lib.hid (fun k hk => by
    obtain ⟨p, hp, rfl⟩ := List.mem_map.1 hk
    have h1 := (h.good p hp).2
    unfold keyOk at h1
    simp only [Bool.and_eq_true, decide_eq_true_eq] at h1
    exact h1.2)
  have Hkl : Hid ((keysOf E).length ≤ 1000) := Lib.hid (by simp [keysOf]; exact hE)
  have HQ : Hid (scanA f.data.toList t.data.toList lim (mapK (·.2) E) = ⟨0, false, [], rowsT (mapK (·.2) E) (((keysOf E).filter (inK f.data.toList t.data.toList)).take lim), 0⟩) := Lib.hid (by
    unfold scanA
    have e : (mapK (fun a : Value × List TVal => a.2) E).map (·.1) = keysOf E := by simp [mapK, keysOf]
    rw [e])
  rw [HQ.out]
  obtain ⟨L, hL⟩ : ∃ L, rowsT (mapK (·.2) E) (((keysOf E).filter (inK f.data.toList t.data.toList)).take lim) = L := ⟨_, rfl⟩
  rw [hL]
  have HL := Lib.hid hL
  clear hL HQ hba hca hbb hcb hb0' hb0 hbx hsz h hE
  go_enter Tryz.func26, Tryz.ntmps26
  go_wp2_with fail
  refine (keys_any H0.out HE.out).mono ?_
  rintro e w1 ⟨v, rfl, hown, hb1⟩
  have Hdel := Lib.hid (delF_any (keysOf E) f t v E.length w0.heap.size w.heap.size (w.heap.size + 1) w1 hown hb1.size HE.out (by have := Hsz.out; omega) (by have := Hsz.out; omega) (keepcell hb1 Hc1.out) (keepcell hb1 Hc2.out))
  have Hb1 := Lib.hid hb1
  clear hown hb1
  go_wp2_with fail
  refine Hdel.out.mono ?_
  rintro e wr ⟨Ak, m, ck, rfl, hk1, hk4, hk2, hk3, hbr⟩
  have Hbr : Hid (Below w0.heap.size w0 wr) := Lib.hid (Hb1.out.trans hbr)
  clear hbr
  generalize hKS : (keysOf E).filter (inK f.data.toList t.data.toList) = KS at hk3 HL
  have Hks : Hid (∀ q ∈ KS, q.length ≤ 1000) := Lib.hid (fun q hq => by
    rw [← hKS] at hq
    have := Hkey.out q (List.mem_filter.1 hq).1
    omega)
  have Hm : Hid (KS.length = m) := Lib.hid (by have := hk3.1; rwa [strRow_len] at this)
  clear hKS
  have H3 := Lib.hid (H0.out.below Hbr.out)
  have hmn : (min (lim : Int) (m : Int)).toNat = min lim m := by omega
  have hm1 : (0 : Int) ≤ min (lim : Int) (m : Int) := by omega
  have hm2 : min (lim : Int) (m : Int) ≤ (ck : Int) := by omega
  have htk : Has wr wr.heap.size Ak (min lim m) (strRow (KS.take lim)) := by
    have h := hk3.take (k := min lim m) (by omega)
    have e : (strRow KS).take (min lim m) = strRow (KS.take lim) := by
      rw [strRow, ← List.map_take, strRow, ← List.take_take, List.take_of_length_le (l := KS) (by have := Hm.out; omega)]
    rwa [e] at h
  have hE' := HE.out
  have Hrows := Lib.hid (rows_any H3.out Ak (min lim m) ck _ (KS.take lim) htk (Nat.le_refl _) (by omega) (fun q hq => Hks.out q (List.mem_of_mem_take hq)))
  have Eq : Hid (((KS.take lim).map fun k => (k, recOf k E)) = L) := Lib.hid (by rw [← HL.out, rowsT]; simp only [recOf_map])
  rw [Eq.out] at Hrows
  clear hk3 htk Eq
  go_wp2_with fail
  refine Hrows.out.mono ?_
  rintro e w5 ⟨v, rfl, hR, hb5⟩
  obtain ⟨Ar, cr, rfl⟩ := hR.slice
  have hb05 := Below.then Hbr.out hb5
  have hbx5 := Hbx.out.below hb05 Hbx.out.lt
  obtain ⟨r0, r1, r2, r3, r4, k0, k1, k2, k3, k4⟩ := box5 hbx5
  obtain ⟨W3, hW3⟩ : ∃ W3, ((((w5.setCell ⟨w.heap.size + 1 + 1, 0, none⟩ (.int .i64 0)).setCell ⟨w.heap.size + 1 + 1, 1, none⟩ (.bool false)).setCell ⟨w.heap.size + 1 + 1, 2, none⟩ (.slice none 0 0)).setCell ⟨w.heap.size + 1 + 1, 3, none⟩ (.slice Ar L.length cr)).setCell ⟨w.heap.size + 1 + 1, 4, none⟩ (.int .i64 0) = W3 := ⟨_, rfl⟩
  obtain ⟨p0, p1, p2, p3, p4, -⟩ := box5 (box5_store hbx5 hW3)
  have hszr := Hbr.out.size
  have hs0 := Hsz.out
  have Hbw := Lib.hid (below5B (Hb0.out.trans (hb05.mono (by omega))) (by omega : w.heap.size ≤ _) hW3)
  have Hrow3 := Lib.hid ((rows5 hR (g := w.heap.size + 1 + 1) (by omega) hW3).base (by omega : w.heap.size ≤ _))
  clear hbx5 hb05 hb5 hR hszr hs0
  go_wp2
  refine bodyPost_ret (v := replyV 0 false (.slice none 0 0) (.slice Ar L.length cr) 0) ?_ rfl (do_same H.out ⟨_, _, rfl, World.ownsRow_nil _ _ _ _, Hrow3.out⟩ Hbw.out)
  simp [results, Tryz.results26, go_sem, replyV, p0, p1, p2, p3, p4]
end
end Go.Proofs.YtknfjajmnlpfjaaGreat

namespace Go.Proofs.YtknfjajmnlpfjaaGreat
open Go.RowKit
open Go.Lib (strCells compareBytes)

def setL : List Value → Nat → List Value → List Value
  | xs, _, [] => xs
  | xs, o, v :: vs => setL (xs.set o v) (o + 1) vs
theorem setL_len : ∀ (vs xs : List Value) (o : Nat), (setL xs o vs).length = xs.length
  | [], _, _ => rfl
  | v :: vs, xs, o => by rw [setL, setL_len vs]; simp
theorem setL_eq : ∀ (vs xs : List Value) (o : Nat), o + vs.length ≤ xs.length → setL xs o vs = xs.take o ++ vs ++ xs.drop (o + vs.length)
  | [], xs, o, _ => by simp [setL]
  | v :: vs, xs, o, h => by
    simp only [List.length_cons] at h
    rw [setL, setL_eq vs (xs.set o v) (o + 1) (by simp; omega), take_set (by omega), List.drop_set_of_lt (by omega)]
    simp [show o + 1 + vs.length = o + (vs.length + 1) by omega]
theorem own_setCells {B n c g size : Nat} {e : TypeId} : ∀ (vs : List Value) (w : World) (xs : List Value) (o : Nat), w.ownsRow B e size (.slice (some ⟨g, 0, none⟩) n c) n xs →
    (w.setCells g o vs).ownsRow B e size (.slice (some ⟨g, 0, none⟩) n c) n (setL xs o vs) ∧ w.grownBy (w.setCells g o vs) (some g)
  | [], w, xs, o, h => ⟨h, World.grownBy.refl w _⟩
  | v :: vs, w, xs, o, h => by
    have h1 := h.stored o v
    have h2 := own_setCells vs _ _ (o + 1) h1.1
    exact ⟨h2.1, h1.2.trans h2.2⟩
theorem own_shrink {w : World} {B n m c size : Nat} {e : TypeId} {A : Option Addr} {xs : List Value} (h : w.ownsRow B e size (.slice A n c) n xs) (hA : A ≠ none) (hm : m ≤ n) : w.ownsRow B e size (.slice A m c) m (xs.take (m * size)) := by
  have hl := h.1
  have hle : m * size ≤ n * size := Nat.mul_le_mul_right _ hm
  refine ⟨by rw [List.length_take]; omega, ?_⟩
  rcases h.2 with ⟨hv, _⟩ | ⟨g, cap, cur, hv, hbg, hg, hnc, hcm, hcs, htake⟩
  · injection hv with hv _ _
    exact absurd hv hA
  · injection hv with hv1 _ hv3
    subst hv1; subst hv3
    exact .inr ⟨g, c, cur, rfl, hbg, hg, by omega, hcm, hcs, by rw [← htake, List.take_take, Nat.min_eq_left hle]⟩
theorem clear_ix (w : World) (ty : TypeId) (b o c : Nat) (hc : ∀ j, j < 2 → (w.cell? ⟨b, o + j, none⟩).isSome = true) (hf : ∀ j, j < 2 → w.frozen? ⟨b, o + j, none⟩ = false) :
    (Builtin.clear_ #[49] ty #[.slice (some ⟨b, o, none⟩) 1 c]).run Tryz.prog w = .ok (.tuple #[]) (w.setCells b o [.int .i64 0, .slice none 0 0]) := by
  have hst := run_storeCells_cells (P := Tryz.prog) b o [.int .i64 0, .slice none 0 0] 0 w (by simpa using hc) (by simpa using hf) (by intro v hv'; simp only [List.mem_cons, List.not_mem_nil, or_false] at hv'; rcases hv' with rfl | rfl <;> rfl)
  simp only [Nat.add_zero] at hst
  have hz : (Builtin.zeroCells (Value.agg #[.int .i64 0, .slice none 0 0]).cells 1).toList = [.int .i64 0, .slice none 0 0] := by kernel_rfl
  have hv : ∀ w, (zeroValue 74).run Tryz.prog w = .ok (.agg #[.int .i64 0, .slice none 0 0]) w := fun w => by kernel_rfl
  simp [Builtin.clear_, run_underlying Tryz.underlying49, hv, hz, hst]
theorem ixCells_drop : ∀ (l : List Ix) (p : Nat), (ixCells l).drop (p * 2) = ixCells (l.drop p)
  | l, 0 => by simp
  | [], p + 1 => by simp [ixCells]
  | x :: l, p + 1 => by rw [show (p + 1) * 2 = p * 2 + 1 + 1 by omega]; simp only [ixCells, List.drop_succ_cons]; exact ixCells_drop l p
theorem ixCells_take : ∀ (l : List Ix) (p : Nat), (ixCells l).take (p * 2) = ixCells (l.take p)
  | l, 0 => by simp [ixCells]
  | [], p + 1 => by simp [ixCells]
  | x :: l, p + 1 => by rw [show (p + 1) * 2 = p * 2 + 1 + 1 by omega]; simp only [ixCells, List.take_succ_cons]; rw [ixCells_take l p]
theorem ixCells_one' : ∀ (X : List Ix), (∀ x ∈ X, ∃ A n c, x.v = .slice A n c) → ∀ u ∈ ixCells X, u.oneCell' = true
  | [], _, u, hu => by simp [ixCells] at hu
  | x :: l, hf, u, hu => by
    simp only [ixCells, List.mem_cons] at hu
    rcases hu with rfl | rfl | hu
    · rfl
    · obtain ⟨A, n, c, e⟩ := hf x (by simp)
      rw [e]; rfl
    · exact ixCells_one' l (fun y hy => hf y (by simp [hy])) u hu
set_option maxRecDepth 100000 in
set_option maxHeartbeats 3200000 in
theorem delIx_any (X : List Ix) (p j n c g B : Nat) (w : World) (h : w.ownsRow B 74 2 (.slice (some ⟨g, 0, none⟩) n c) n (ixCells X)) (hp : p < n) (hj : j = p + 1) (hn : n ≤ 1000) (hnc : n ≤ c) (hf : ∀ x ∈ X, ∃ A n c, x.v = .slice A n c) :
    Calls Tryz.prog 52 #[.slice (some ⟨g, 0, none⟩) n c, .int .i64 (p : Int), .int .i64 (j : Int)] w fun e w' => e = .returned (.slice (some ⟨g, 0, none⟩) (n - 1) c) ∧ w'.ownsRow B 74 2 (.slice (some ⟨g, 0, none⟩) (n - 1) c) (n - 1) (ixCells (X.eraseIdx p)) ∧ w.grownBy w' (some g) := by
  have hl : (ixCells X).length = n * 2 := h.1
  have Hl : Hid (X.length = n) := Lib.hid (by rw [ixCells_len] at hl; omega)
  obtain ⟨news, hnews⟩ : ∃ news, (ixCells X).drop (j * 2) = news := ⟨_, rfl⟩
  have hlen : news.length = (n - j) * 2 := by rw [← hnews, List.length_drop, hl]; omega
  have hd := h.drew
  obtain ⟨A, hA, hsrc⟩ : ∃ A : Addr, (if c = j then (some ⟨g, 0, none⟩ : Option Addr) else some ⟨g, j * 2, none⟩) = some A ∧ Hid (∀ t u, news[t]? = some u → w.drew.cell? (A.add t) = some u) := by
    by_cases hcj : c = j
    · refine ⟨_, if_pos hcj, Lib.hid fun t u hu => ?_⟩
      have h0 : news.length = 0 := by rw [hlen]; omega
      rw [List.length_eq_zero_iff.1 h0] at hu
      simp at hu
    · refine ⟨_, if_neg hcj, Lib.hid fun t u hu => ?_⟩
      have ht : t < news.length := (List.getElem?_eq_some_iff.1 hu).1
      rw [← hnews, List.getElem?_drop] at hu
      rw [Addr.add_lit]
      exact (hd.cellAt (j * 2 + t) (by omega)).trans hu
  have s1 : Hid (news.length = (n - j) * 2) := Lib.hid hlen
  have s2 : Hid (∀ u ∈ news, u.oneCell' = true) := Lib.hid (fun u hu => ixCells_one' X hf u (List.mem_of_mem_drop (hnews ▸ hu)))
  have s3 : Hid (∀ t, t < news.length → (w.drew.cell? ⟨g, 0 + p * 2 + t, none⟩).isSome = true ∧ w.drew.frozen? ⟨g, 0 + p * 2 + t, none⟩ = false) := Lib.hid (fun t ht => by
    rw [Nat.zero_add, hd.cellAt (p * 2 + t) (by omega), List.getElem?_eq_getElem (by omega)]
    exact ⟨rfl, hd.frozenAt _⟩)
  obtain ⟨W1, hW1⟩ : ∃ W1, w.drew.setCells g (0 + p * 2) news = W1 := ⟨_, rfl⟩
  have ho1 := own_setCells news w.drew (ixCells X) (0 + p * 2) hd
  rw [hW1] at ho1
  have hcl : ∀ ty, (Builtin.clear_ #[49] ty #[.slice (some ⟨g, (n - 1) * 2, none⟩) 1 (c - (n - 1))]).run Tryz.prog W1 = .ok (.tuple #[]) (W1.setCells g ((n - 1) * 2) [.int .i64 0, .slice none 0 0]) :=
    fun ty => clear_ix W1 ty g ((n - 1) * 2) _ (fun t ht => by rw [ho1.1.cellAt _ (by omega), List.getElem?_eq_getElem (by rw [setL_len]; omega)]; rfl) (fun t ht => ho1.1.frozenAt _)
  have ho2 := own_setCells [.int .i64 0, .slice none 0 0] W1 _ ((n - 1) * 2) ho1.1
  obtain ⟨W2, hW2⟩ : ∃ W2, W1.setCells g ((n - 1) * 2) [.int .i64 0, .slice none 0 0] = W2 := ⟨_, rfl⟩
  rw [hW2] at ho2 hcl
  have ho3 := own_shrink ho2.1 (by simp) (Nat.sub_le n 1)
  have he : (setL (setL (ixCells X) (0 + p * 2) news) ((n - 1) * 2) [.int .i64 0, .slice none 0 0]).take ((n - 1) * 2) = ixCells (X.eraseIdx p) := by
    rw [setL_eq _ _ _ (by rw [setL_len, hl]; simp; omega), List.append_assoc, List.take_append_of_le_length (by rw [List.length_take, setL_len, hl]; omega), List.take_take, Nat.min_self, setL_eq _ _ _ (by rw [hl, hlen]; omega), hlen]
    rw [List.take_append_of_le_length (by rw [List.length_append, List.length_take, hl, hlen]; omega), List.take_of_length_le (by rw [List.length_append, List.length_take, hl, hlen]; omega), ← hnews, Nat.zero_add, ixCells_take, ixCells_drop, ← ixCells_app, List.eraseIdx_eq_take_drop_succ, hj]
  rw [he] at ho3
  have Hend : Hid (W2.ownsRow B 74 2 (.slice (some ⟨g, 0, none⟩) (n - 1) c) (n - 1) (ixCells (X.eraseIdx p)) ∧ w.grownBy W2 (some g)) := Lib.hid ⟨ho3, (show w.grownBy w.drew _ from ⟨rfl, rfl, rfl, Nat.le_refl _, fun _ _ _ => rfl⟩).trans (ho1.2.trans ho2.2)⟩
  have Hcl := Lib.hid hcl
  have HW1 := Lib.hid hW1
  have hne : ((p : Int) == (j : Int)) = false := by simp; omega
  have e1 : n - (p + (n - j)) = 1 := by omega
  have e2 : (p + (n - j)) = n - 1 := by omega
  have hpc : p ≤ c := by omega
  have hjc : j ≤ c := by omega
  have hjn : j ≤ n := by omega
  have hpn : p + (n - j) ≤ c := by omega
  have e3 : n - (n - 1) = 1 := by omega
  have Hj := Lib.hid hj
  clear hW1 hW2 ho1 ho2 ho3 he hcl hd h hnews hlen hj
  obtain ⟨i0, hi0, -, hz1, -⟩ := idx_elem.get
  go_enter Tryz.func52, Tryz.ntmps52
  go_wp2_with fail
  go_region_law (refine step_append_room rfl (.tmp 22) (.tmp 25) 49 rfl 74 i0 2 Tryz.underlying49 hi0 hz1 g 0 p c (by simp [Act.eval, Act.put]) A (n - j) (c - j) news (by simp [Act.eval, Act.put]) s1.out hsrc.out s2.out hpn s3.out ?_; rw [HW1.out, e2])
  go_wp2_with (simp only [Hcl.out])
  go_ret
  exact ⟨rfl, Hend.out⟩
end Go.Proofs.YtknfjajmnlpfjaaGreat

/- An argument that is a row of values, opened, with its capacity's bound. -/
import Derived.Test.YtajombifjofmmaaGreatMPlnA
import Derived.Laws.StructEq
import Derived.Lib.SliceRun
import Derived.Lib.LazyBuf
import Derived.Laws.IdiomCopy
import Derived.Shelf.SlSortFuncK.RowK2
import Derived.Deep.RegionLaw
import Derived.Test.YtajombifjofmmaaGreatOpenOps
namespace Go.Proofs.YtajombifjofmmaaGreat
open Go.RowKit
open Go.Lib (strCells compareBytes)

section
variable {B sb mb d : Nat} {ix : Value} {E : Kv (Value × List TVal)} {X : List Ix} {w : World}
theorem isSome_mapK (k : List UInt8) (E : Kv (Value × List TVal)) : (getK k (mapK (·.2) E)).isSome = (getK k E).isSome := by rw [mapK_get]; cases getK k E <;> rfl
theorem recOf_mapK (E : Kv (Value × List TVal)) (k : List UInt8) : (getK k (mapK (·.2) E)).getD [] = recOf k E := (recOf_map E k).symm
theorem get_do (h : Store w B sb mb ix E X d) (s : ByteArray) (hs : s.size ≤ maxLen) :
    Calls Tryz.prog 27 #[.pointer (some ⟨sb, 0, none⟩), .string s] w (DoPost B sb mb ix E (mapK (·.2) E) (X.map xi) d ⟨0, (getK s.data.toList (mapK (·.2) E)).isSome, (getK s.data.toList (mapK (·.2) E)).getD [], [], 0⟩ w) := by
  refine (get_any h s hs).mono ?_
  rintro e w' ⟨v, rfl, ho, hb⟩
  rw [isSome_mapK, recOf_mapK]
  exact do_same h ⟨_, _, rfl, own_baseN ho (by omega), RowsIs.nil _ _⟩ hb

theorem del_end {g : Nat} {w0 wM W3 : World} {k : List UInt8} {x' y' z' u' v' : Value} (hb0 : Below w.heap.size w w0) (hg : w.heap.size = g)
    (hs : Store w B sb mb ix E X d) (hM : wM.ownsMap Tryz.prog 9 Rv mb E.length ((dmap (·.1) E).del (.string k))) (hT : w0.mapTurned wM mb) (hsz : w0.heap.size = g + 1)
    (hW : ((((wM.setCell ⟨g, 0, none⟩ x').setCell ⟨g, 1, none⟩ y').setCell ⟨g, 2, none⟩ z').setCell ⟨g, 3, none⟩ u').setCell ⟨g, 4, none⟩ v' = W3) :
    Store W3 B sb mb ix (delK k E) X d ∧ Kept3 sb mb ix w W3 := by
  have hgr := hT.grown
  have step : ∀ i, i < w.heap.size → i ≠ mb → W3.heap[i]? = w.heap[i]? := fun i hi hne => by
    rw [heap5 (by omega) hW, hgr.block i (by omega) (fun e => by injection e with e; exact hne e), hb0.block i hi]
  have hmb : mb < w.heap.size := hs.lt.2
  have hM3 : W3.ownsMap Tryz.prog 9 Rv mb E.length ((dmap (·.1) E).del (.string k)) := map_keep hM (heap5 (by omega) hW)
  have hap := hs.apart
  have e : (dmap (fun a : Value × List TVal => a.1) E).del (.string k) = dmap (·.1) (delK k E) := dmap_del (fun a : Value × List TVal => a.1) k E hs.rise
  rw [e] at hM3
  have hM4 := map_size hM3
  rw [dmap_size] at hM4
  have hne : ∀ i cur t, w.heap[i]? = some (.cells cur t (0, 0)) → i ≠ mb := fun i cur t hc e => by
    obtain ⟨es, c, hm⟩ := map_block hs.own
    rw [e, hm] at hc
    cases hc
  refine ⟨{ hs with
      box := (step sb hs.lt.1 hap.1).trans hs.box
      own := hM4
      rise := hs.rise.del
      recs := fun p hp => own_keep (hs.recs p (mem_delK hp)) fun i hi => ?_
      good := fun p hp => hs.good p (mem_delK hp)
      irow := own_keep hs.irow fun i hi => step i (hs.irow.lt i hi).2 (hap.2 i hi).2
      flds := fun x hx => own_keep (hs.flds x hx) fun i hi => ?_ }, ?_⟩
  · obtain ⟨cur, hc⟩ := own_type (hs.recs p (mem_delK hp)) hi
    exact step i ((hs.recs p (mem_delK hp)).lt i hi).2 (hne i _ _ hc)
  · obtain ⟨cur, hc⟩ := own_type (hs.flds x hx) hi
    exact step i ((hs.flds x hx).lt i hi).2 (hne i _ _ hc)
  · have q1 := same5 hW
    refine ⟨q1.1.trans (hgr.os.trans hb0.os), q1.2.1.trans (hgr.tape.trans hb0.tape), q1.2.2.1.trans (hgr.output.trans hb0.output), ?_, fun i hi _ h2 _ => step i hi h2⟩
    have := hgr.size
    omega
set_option maxRecDepth 100000 in
set_option maxHeartbeats 3200000 in
theorem del_any (h : Store w B sb mb ix E X d) (s : ByteArray) (hs : s.size ≤ 1000) :
    Calls Tryz.prog 26 #[.pointer (some ⟨sb, 0, none⟩), .string s] w fun e w' => e = .returned (replyV 0 (getK s.data.toList E).isSome (.slice none 0 0) (.slice none 0 0) 0) ∧ Store w' B sb mb ix (delK s.data.toList E) X d ∧ Kept3 sb mb ix w w' := by
  obtain ⟨w0, hw0⟩ : ∃ w0, w.alloc (.cells #[.int .i64 0, .bool false, .slice none 0 0, .slice none 0 0, .int .i64 0] 35) = w0 := ⟨_, rfl⟩
  have hb0 : Below w.heap.size w w0 := hw0 ▸ below_alloc _ _
  have hbx : Box w0 w.heap.size 35 #[.int .i64 0, .bool false, .slice none 0 0, .slice none 0 0, .int .i64 0] := hw0 ▸ Box.made _ _ _
  have hsz : w0.heap.size = w.heap.size + 1 := by rw [← hw0]; simp
  have h0 := h.below hb0
  obtain ⟨q0, q1, q2, f0, f1, f2⟩ := h0.cells
  obtain ⟨A', n', c', hlk, -, -⟩ := h0.look s (by simp only [maxLen]; omega)
  have hkey := WideMaps.keyOf_string_mk Tryz.underlying9 (s := s) (by simp only [maxLen]; omega)
  have Hown0 := Lib.hid h0.own
  have Hbx := Lib.hid hbx
  have Hb0 := Lib.hid hb0
  have Hsz := Lib.hid hsz
  have H := Lib.hid h
  have Hkey := Lib.hid hkey
  clear hb0 hbx hsz h0 h q1 q2 f0 f1 f2 hkey
  generalize (getK s.data.toList E).isSome = there at hlk ⊢
  go_enter Tryz.func26, Tryz.ntmps26
  go_wp2_with (at_delete; refine wpList_delete_own _ rfl _ _ 59 9 rfl 32 strKeyed Tryz.underlying59 Rv mb E.length (dmap (·.1) E) rfl Hown0.out _ _ rfl Hkey.out ?_; intro wM mM tM; obtain ⟨r0, r1, r2, r3, r4, k0, k1, k2, k3, k4⟩ := box5 (turned_box tM Hbx.out); obtain ⟨W3, hW3⟩ : ∃ W3, ((((wM.setCell ⟨w.heap.size, 0, none⟩ (.int .i64 0)).setCell ⟨w.heap.size, 1, none⟩ (.bool there)).setCell ⟨w.heap.size, 2, none⟩ (.slice none 0 0)).setCell ⟨w.heap.size, 3, none⟩ (.slice none 0 0)).setCell ⟨w.heap.size, 4, none⟩ (.int .i64 0) = W3 := ⟨_, rfl⟩; obtain ⟨p0, p1, p2, p3, p4, -⟩ := box5 (box5_store (turned_box tM Hbx.out) hW3); have Hend := Lib.hid (del_end Hb0.out rfl H.out mM tM Hsz.out hW3); clear mM tM)
  refine bodyPost_ret (v := replyV 0 there (.slice none 0 0) (.slice none 0 0) 0) ?_ rfl ⟨rfl, Hend.out.1, Hend.out.2⟩
  simp [results, Tryz.results26, go_sem, replyV, p0, p1, p2, p3, p4]
theorem del_do (h : Store w B sb mb ix E X d) (s : ByteArray) (hs : s.size ≤ 1000) :
    Calls Tryz.prog 26 #[.pointer (some ⟨sb, 0, none⟩), .string s] w (DoPost B sb mb ix E (delK s.data.toList (mapK (·.2) E)) (X.map xi) d ⟨0, (getK s.data.toList (mapK (·.2) E)).isSome, [], [], 0⟩ w) := by
  refine (del_any h s hs).mono ?_
  rintro e w' ⟨rfl, hS, hK⟩
  exact ⟨_, ix, _, X, rfl, by rw [isSome_mapK]; exact ans_plain _ _ _ _ _, hS, mapK_del _ _ _, rfl, hK, fun _ hg => .inl hg, fun p hp => .inl (mem_delK hp)⟩
end
end Go.Proofs.YtajombifjofmmaaGreat

namespace Go.Proofs.YtajombifjofmmaaGreat
open Go.RowKit
open Go.Lib (strCells compareBytes)

theorem tval_eq (u v : TVal) : (u.k = v.k ∧ u.n = v.n ∧ u.s = v.s) ↔ u = v := by
  cases u; cases v; simp
instance : DecidableEq TVal := fun u v => decidable_of_iff _ (tval_eq u v)
set_option maxRecDepth 100000 in
set_option maxHeartbeats 1600000 in
theorem equal_any (A A' : Option Addr) (n n' c c' C C' : Nat) (l m : List TVal) (w : World) (h : HasVals w C A n l) (h' : HasVals w C' A' n' m) (hn : n ≤ maxLen) (hn' : n' ≤ maxLen) :
    Calls Tryz.prog 49 #[.slice A n c, .slice A' n' c'] w fun e w' => e = .returned (.bool (decide (l = m))) ∧ Below w.heap.size w w' := by
  unfold maxLen at hn hn'
  have H := Lib.hid h
  have H' := Lib.hid h'
  have Hl := Lib.hid h.1
  have Hm := Lib.hid h'.1
  clear h h'
  by_cases hnn : n = n'
  · subst hnn
    go_enter Tryz.func49, Tryz.ntmps49
    go_wp2
    go_loopw [5, 13] (fun _ i wr => ∃ k : Nat, k ≤ n ∧ i = .int .i64 (k : Int) ∧ Hid (l.take k = m.take k) ∧ ∃ q, wr = w.drewN q) (fun _ i _ => n - (intOf i).toNat)
    case atStart => exact ⟨0, by omega, rfl, Lib.hid rfl, 0, rfl⟩
    case round =>
      obtain ⟨k, hk, rfl, Ht, q, rfl⟩ := hrel
      by_cases hlt : k < n
      · obtain ⟨a, v, rfl, _, hv, c0, c1, c2⟩ := H.out.at_ hlt
        obtain ⟨b, u, rfl, _, hu, d0, d1, d2⟩ := H'.out.at_ hlt
        have hk0 : (0 : Int) ≤ (k : Int) := by omega
        have hk1 : (k : Int) < (n : Int) := by omega
        have Hv := Lib.hid hv
        have Hu := Lib.hid hu
        clear hv hu
        by_cases e : v = u
        · subst e
          go_wp2
          go_quiet (fail)
          go_wp2
          go_roundw
          case rel => exact ⟨k + 1, by omega, by go_num, Lib.hid (by rw [List.take_add_one, List.take_add_one, Ht.out, Hv.out, Hu.out]), _, rfl⟩
          case measure => simp [intOf]; omega
        · have E : Hid (decide (l = m) = false) := Lib.hid (decide_eq_false fun e' => by
            rw [e', Hu.out] at Hv
            exact e (Option.some.inj Hv.out).symm)
          obtain ⟨vk, vn, vs⟩ := v
          obtain ⟨uk, un, us⟩ := u
          have hx : (vk ≠ uk) ∨ (vk = uk ∧ vn ≠ un) ∨ (vk = uk ∧ vn = un ∧ vs ≠ us) := by
            by_cases h1 : vk = uk
            · by_cases h2 : vn = un
              · exact .inr (.inr ⟨h1, h2, fun h3 => e (by rw [h1, h2, h3])⟩)
              · exact .inr (.inl ⟨h1, h2⟩)
            · exact .inl h1
          simp only at c0 c1 c2 d0 d1 d2
          clear e
          rcases hx with hx | ⟨rfl, hx⟩ | ⟨rfl, rfl, hx⟩
          · have hb : (vk == uk) = false := by simpa using hx
            clear hx
            go_wp2
            go_quiet (fail)
            go_wp2
            go_ret
            exact ⟨ret_bool (by rw [E.out]), below_drews (below_drews (Below.refl _ _) _) _⟩
          · have hb : (vn == un) = false := by simpa using hx
            clear hx
            go_wp2
            go_quiet (fail)
            go_wp2
            go_ret
            exact ⟨ret_bool (by rw [E.out]), below_drews (below_drews (Below.refl _ _) _) _⟩
          · have hb2 : (vs.toList == us.toList) = false := by rw [eq_toList]; exact decide_eq_false fun e => hx (bytes_ext e)
            go_wp2
            go_quiet (fail)
            go_wp2
            go_ret
            exact ⟨ret_bool (by rw [E.out]), below_drews (below_drews (Below.refl _ _) _) _⟩
      · have E : Hid (decide (l = m) = true) := Lib.hid (decide_eq_true (by
          have h1 := Ht.out
          rwa [List.take_of_length_le (by have := Hl.out; omega), List.take_of_length_le (by have := Hm.out; omega)] at h1))
        go_wp2
        go_ret
        exact ⟨ret_bool (by rw [E.out]), below_drews (Below.refl _ _) _⟩
  · have E : Hid (decide (l = m) = false) := Lib.hid (decide_eq_false fun e => hnn (by rw [← Hl.out, ← Hm.out, e]))
    have hb : ((n : Int) != (n' : Int)) = true := by simp; omega
    clear hnn
    go_enter Tryz.func49, Tryz.ntmps49
    go_wp2
    go_ret
    exact ⟨ret_bool (by rw [E.out]), Below.refl _ _⟩

section
variable {B sb mb d : Nat} {ix : Value} {E : Kv (Value × List TVal)} {X : List Ix} {w : World}
theorem DoPost.trans0 {n : Nat} {M : Kv (List TVal)} {I : List (Int × List Int)} {a : Ans} {w1 w2 : World} {e : Ending} (hb : Below w.heap.size w w1) (h : DoPost B sb mb ix E M I n a w1 e w2) : DoPost B sb mb ix E M I n a w e w2 := by
  obtain ⟨v, ix', E', X', e, ha, hs, hM, hI, hk, hx, hnew⟩ := h
  have hsz := hb.size
  exact ⟨v, ix', E', X', e, ha.base hsz, hs, hM, hI, ⟨hk.os.trans hb.os, hk.tape.trans hb.tape, hk.output.trans hb.output, Nat.le_trans hsz hk.size, fun i hi a b c => (hk.block i (by omega) a b c).trans (hb.block i hi)⟩, fun g hg => (hx g hg).imp id (fun h => by omega), fun p hp => (hnew p hp).imp id fun ho => own_baseN ho hsz⟩
def casA (k : List UInt8) (old rc : List TVal) (M : Kv (List TVal)) : Ans × Kv (List TVal) :=
  if (getK k M).getD [] = old then (⟨0, (getK k M).isSome, [], [], 0⟩, putK k rc M) else (⟨9, (getK k M).isSome, (getK k M).getD [], [], 0⟩, M)
set_option maxRecDepth 100000 in
set_option maxHeartbeats 3200000 in
theorem cas_do (h : Store w B sb mb ix E X d) (s : ByteArray) (ov r : Value) (old l : List TVal) (C : Nat) (ho : IsVals w C ov old) (hr : IsVals w C r l) (hC : C ≤ w.heap.size) (hl : GoodRec l) (hk : keyOk s.data.toList = true) (hE : E.length ≤ 1000) :
    Calls Tryz.prog 28 #[.pointer (some ⟨sb, 0, none⟩), .string s, ov, r] w (DoPost B sb mb ix E (casA s.data.toList old l (mapK (·.2) E)).2 (X.map xi) d (casA s.data.toList old l (mapK (·.2) E)).1 w) := by
  have hss : s.size ≤ 16 := by
    unfold keyOk at hk
    simp only [Bool.and_eq_true, decide_eq_true_eq] at hk
    rw [Lib.size_eq]; exact hk.2
  have Ho := Lib.hid ho
  have Hr := Lib.hid hr
  obtain ⟨A1, n1, c1, rfl, -⟩ := ho
  obtain ⟨A2, n2, c2, rfl, -⟩ := hr
  obtain ⟨w0, hw0⟩ : ∃ w0, w.alloc (.cells #[.int .i64 0, .bool false, .slice none 0 0, .slice none 0 0, .int .i64 0] 35) = w0 := ⟨_, rfl⟩
  have hb0 : Below w.heap.size w w0 := hw0 ▸ below_alloc _ _
  have hbx : Box w0 w.heap.size 35 #[.int .i64 0, .bool false, .slice none 0 0, .slice none 0 0, .int .i64 0] := hw0 ▸ Box.made _ _ _
  have hsz : w0.heap.size = w.heap.size + 1 := by rw [← hw0]; simp
  have H := Lib.hid h
  have H0 := Lib.hid (h.below hb0)
  have Hget := Lib.hid (get_any H0.out s (by simp only [maxLen]; omega))
  have Hbx := Lib.hid hbx
  have Hb0 := Lib.hid hb0
  have Hsz := Lib.hid hsz
  have HC := Lib.hid hC
  have HE := Lib.hid hE
  have Hl := Lib.hid hl
  have Hk := Lib.hid hk
  obtain ⟨g1, -, -⟩ := h.recGood s.data.toList
  have Hg1 := Lib.hid g1
  rw [casA, isSome_mapK, recOf_mapK]
  generalize hth : (getK s.data.toList E).isSome = there at Hget ⊢
  generalize hR : recOf s.data.toList E = R at Hget Hg1 ⊢
  clear hb0 hbx hsz h hC hE hl hk g1
  by_cases hc : R = old
  · simp only [if_pos hc]
    have Hc := Lib.hid hc
    clear hc
    go_enter Tryz.func28, Tryz.ntmps28
    go_wp2_with fail
    refine Hget.out.mono ?_
    rintro e w1 ⟨v, rfl, hown, hb1⟩
    obtain ⟨Av, cv, rfl, hv1, hv2, hv3⟩ := own_sliceN hown
    obtain ⟨w2, hw2⟩ : ∃ w2, w1.alloc (.cells #[.int .i64 0, .bool there, .slice Av R.length cv, .slice none 0 0, .int .i64 0] 35) = w2 := ⟨_, rfl⟩
    have hb2 : Below w1.heap.size w1 w2 := hw2 ▸ below_alloc _ _
    have hbx2 : Box w2 w1.heap.size 35 #[.int .i64 0, .bool there, .slice Av R.length cv, .slice none 0 0, .int .i64 0] := hw2 ▸ Box.made _ _ _
    have Hb2 := Lib.hid (Below.then hb1 hb2)
    have Hbw2 := Lib.hid (Hb0.out.trans ((Below.then hb1 hb2).mono (by rw [Hsz.out]; omega)))
    have Hbx2 := Lib.hid hbx2
    have Hown2 := Lib.hid (own_belowN hown hb2)
    obtain ⟨A1', n1', c1', e1, a1, a2, a3, -⟩ := Ho.out.belowOf Hbw2.out HC.out
    injection e1 with e11 e12 e13
    subst e11; subst e12; subst e13
    have Heq := Lib.hid (equal_any Av A1 R.length n1 cv c1 _ C R old w2 ⟨rfl, hv3.below hb2⟩ a3 (Nat.le_trans hv1 hv2) (Nat.le_trans a1 a2))
    have Hw2 := Lib.hid hw2
    have Hw1 := Lib.hid hb1
    clear hw2 hb2 hbx2 hown hb1 hv1 hv2 hv3 a1 a2 a3
    simp only [replyV]
    rw [decide_eq_true Hc.out] at Heq
    go_wp2_with fail
    rw [Hw2.out]
    refine Heq.out.mono ?_
    rintro e w3 ⟨rfl, hb3⟩
    have Hbw3 := Lib.hid (Below.then Hbw2.out hb3)
    have Hb03 := Lib.hid (Below.then Hb2.out hb3)
    clear hb3
    go_wp2_with fail
    refine (put_any (H.out.below Hbw3.out) s _ l C (Hr.out.belowOf Hbw3.out HC.out) (Nat.le_trans HC.out Hbw3.out.size) Hl.out Hk.out HE.out).mono ?_
    rintro e w5 ⟨v, rfl, hs5, ho5, hk5⟩
    have hg0 : w.heap.size < w3.heap.size := by have := Hb03.out.size; have := Hsz.out; omega
    have hbx3 := Hbx.out.below Hb03.out Hbx.out.lt
    have hbx5 := (show Box w5 _ _ _ from (hk5.block _ hg0 (by have := H.out.lt.1; omega) (by have := H.out.lt.2; omega) (fun e => by have := (H.out.irow.lt _ e.symm).2; omega)).trans hbx3)
    obtain ⟨r0, r1, r2, r3, r4, k0, k1, k2, k3, k4⟩ := box5 hbx5
    obtain ⟨W3, hW3⟩ : ∃ W3, ((((w5.setCell ⟨w.heap.size, 0, none⟩ (.int .i64 0)).setCell ⟨w.heap.size, 1, none⟩ (.bool there)).setCell ⟨w.heap.size, 2, none⟩ (.slice none 0 0)).setCell ⟨w.heap.size, 3, none⟩ (.slice none 0 0)).setCell ⟨w.heap.size, 4, none⟩ (.int .i64 0) = W3 := ⟨_, rfl⟩
    obtain ⟨p0, p1, p2, p3, p4, -⟩ := box5 (box5_store hbx5 hW3)
    have hsame := same5 hW3
    have hkeep : ∀ i, i < w3.heap.size → i ≠ w.heap.size → i ≠ sb → i ≠ mb → some i ≠ ix.ownBlock → W3.heap[i]? = w3.heap[i]? := fun i h1 h2 h3 h4 h5 => (heap5 h2 hW3).trans (hk5.block i h1 h3 h4 h5)
    have Hend : Hid (DoPost B sb mb ix E (putK s.data.toList l (mapK (·.2) E)) (X.map xi) d ⟨0, there, [], [], 0⟩ w (.returned (replyV 0 there (.slice none 0 0) (.slice none 0 0) 0)) W3) := Lib.hid (by
      have hlt := H.out.lt
      refine ⟨_, ix, putK s.data.toList (v, l) E, X, rfl, ans_plain _ _ _ _ _, store5 hs5 hbx5 hW3, mapK_put _ _ _ _, rfl, ?_, fun _ hg => .inl hg, fun p hp => ?_⟩
      · refine ⟨hsame.1.trans (hk5.os.trans Hbw3.out.os), hsame.2.1.trans (hk5.tape.trans Hbw3.out.tape), hsame.2.2.1.trans (hk5.output.trans Hbw3.out.output), ?_, fun i hi c1 c2 c3 => ?_⟩
        · have := hk5.size; have := Hbw3.out.size; omega
        · rw [hkeep i (by omega) (by omega) c1 c2 c3, Hbw3.out.block i hi]
      · rcases mem_putK hp with rfl | hp
        · exact .inr (own_baseN (own5 ho5 hg0 hW3) Hbw3.out.size)
        · exact .inl hp)
    clear hbx5 hkeep hbx3 hs5 ho5 hk5
    simp only [replyV]
    go_wp2
    refine bodyPost_ret (v := replyV 0 there (.slice none 0 0) (.slice none 0 0) 0) ?_ rfl Hend.out
    simp [results, Tryz.results28, go_sem, replyV, p0, p1, p2, p3, p4]
  · simp only [if_neg hc]
    have Hc := Lib.hid hc
    clear hc
    go_enter Tryz.func28, Tryz.ntmps28
    go_wp2_with fail
    refine Hget.out.mono ?_
    rintro e w1 ⟨v, rfl, hown, hb1⟩
    obtain ⟨Av, cv, rfl, hv1, hv2, hv3⟩ := own_sliceN hown
    obtain ⟨w2, hw2⟩ : ∃ w2, w1.alloc (.cells #[.int .i64 0, .bool there, .slice Av R.length cv, .slice none 0 0, .int .i64 0] 35) = w2 := ⟨_, rfl⟩
    have hb2 : Below w1.heap.size w1 w2 := hw2 ▸ below_alloc _ _
    have hbx2 : Box w2 w1.heap.size 35 #[.int .i64 0, .bool there, .slice Av R.length cv, .slice none 0 0, .int .i64 0] := hw2 ▸ Box.made _ _ _
    have Hb2 := Lib.hid (Below.then hb1 hb2)
    have Hbw2 := Lib.hid (Hb0.out.trans ((Below.then hb1 hb2).mono (by rw [Hsz.out]; omega)))
    have Hbx2 := Lib.hid hbx2
    have Hown2 := Lib.hid (own_belowN hown hb2)
    obtain ⟨A1', n1', c1', e1, a1, a2, a3, -⟩ := Ho.out.belowOf Hbw2.out HC.out
    injection e1 with e11 e12 e13
    subst e11; subst e12; subst e13
    have Heq := Lib.hid (equal_any Av A1 R.length n1 cv c1 _ C R old w2 ⟨rfl, hv3.below hb2⟩ a3 (Nat.le_trans hv1 hv2) (Nat.le_trans a1 a2))
    have Hw2 := Lib.hid hw2
    have Hw1 := Lib.hid hb1
    clear hw2 hb2 hbx2 hown hb1 hv1 hv2 hv3 a1 a2 a3
    simp only [replyV]
    rw [decide_eq_false Hc.out] at Heq
    go_wp2_with fail
    rw [Hw2.out]
    refine Heq.out.mono ?_
    rintro e w3 ⟨rfl, hb3⟩
    have Hbw3 := Lib.hid (Below.then Hbw2.out hb3)
    have Hb03 := Lib.hid (Below.then Hb2.out hb3)
    have hbx3 := Hbx.out.below Hb03.out Hbx.out.lt
    have hbc := Hbx2.out.below hb3 Hbx2.out.lt
    have hgne : w1.heap.size ≠ w.heap.size := by have := Hb2.out.size; have := Hw1.out.size; have := Hsz.out; omega
    obtain ⟨w4, hw4⟩ : ∃ w4, w3.setCell ⟨w1.heap.size, 0, none⟩ (.int .i64 9) = w4 := ⟨_, rfl⟩
    have hbc4 : Box w4 w1.heap.size 35 #[.int .i64 9, .bool there, .slice Av R.length cv, .slice none 0 0, .int .i64 0] := hw4 ▸ hbc.set_ 0 _
    have hbx4 : Box w4 w.heap.size 35 #[.int .i64 0, .bool false, .slice none 0 0, .slice none 0 0, .int .i64 0] := hw4 ▸ hbx3.far hgne.symm _
    have hown4 : w4.ownsRow (w0.heap.size + 1) 55 3 (.slice Av R.length cv) R.length (valCells R) := by
      have h3 := own_belowN Hown2.out hb3
      refine own_keep h3 fun g hg => ?_
      rw [← hw4]
      refine Below.heap_setCell _ _ _ _ (fun e => ?_)
      obtain ⟨cur, hcc⟩ := own_type h3 hg
      have e' : g = w1.heap.size := e
      unfold Box at hbc
      rw [e', hbc] at hcc
      injection hcc with hcc; injection hcc with _ hcc; exact absurd hcc (by decide)
    have hb4 : Below w.heap.size w w4 := by rw [← hw4]; exact Hbw3.out.setCell (by show w.heap.size ≤ w1.heap.size; have := Hw1.out.size; have := Hsz.out; omega) _
    obtain ⟨r0, r1, r2, r3, r4, k0, k1, k2, k3, k4⟩ := box5 hbx4
    obtain ⟨t0, t1, t2, t3, t4, -⟩ := box5 hbc4
    obtain ⟨u0, -, -, -, -, ku0, -⟩ := box5 hbc
    obtain ⟨W3, hW3⟩ : ∃ W3, ((((w4.setCell ⟨w.heap.size, 0, none⟩ (.int .i64 9)).setCell ⟨w.heap.size, 1, none⟩ (.bool there)).setCell ⟨w.heap.size, 2, none⟩ (.slice Av R.length cv)).setCell ⟨w.heap.size, 3, none⟩ (.slice none 0 0)).setCell ⟨w.heap.size, 4, none⟩ (.int .i64 0) = W3 := ⟨_, rfl⟩
    obtain ⟨p0, p1, p2, p3, p4, -⟩ := box5 (box5_store hbx4 hW3)
    have hbW := below5 hb4 hW3
    have hownW := own5 hown4 (by have := Hsz.out; omega) hW3
    have Hend : Hid (DoPost B sb mb ix E (mapK (·.2) E) (X.map xi) d ⟨9, there, R, [], 0⟩ w (.returned (replyV 9 there (.slice Av R.length cv) (.slice none 0 0) 0)) W3) :=
      Lib.hid (do_same H.out ⟨_, _, rfl, own_baseN hownW (by have := Hsz.out; omega), RowsIs.nil _ _⟩ hbW)
    clear hb4 hown4 hbx4 hbc4 hbc hbx3 hb3 hownW hbW
    go_wp2
    refine bodyPost_ret (v := replyV 9 there (.slice Av R.length cv) (.slice none 0 0) 0) ?_ rfl Hend.out
    simp [results, Tryz.results28, go_sem, replyV, p0, p1, p2, p3, p4]
end
end Go.Proofs.YtajombifjofmmaaGreat

namespace Go.Proofs.YtajombifjofmmaaGreat
open Go.RowKit
open Go.Lib (strCells compareBytes)

/-- a key that a scan from f to t leaves out -/
def outK (f t k : List UInt8) : Bool := decide (k < f) || (!(t == []) && !(decide (k < t)))
set_option maxRecDepth 100000 in
theorem scan1_any (key f t : ByteArray) (g1 g2 : Nat) (w : World) (h1 : w.cell? ⟨g1, 0, none⟩ = some (.string f)) (h2 : w.cell? ⟨g2, 0, none⟩ = some (.string t)) :
    Calls Tryz.prog 51 #[.string key, .pointer (some ⟨g1, 0, none⟩), .pointer (some ⟨g2, 0, none⟩)] w fun e w' => e = .returned (.bool (outK f.data.toList t.data.toList key.data.toList)) ∧ Below w.heap.size w w' := by
  obtain ⟨b1, e1⟩ : ∃ b, decide (key.data.toList < f.data.toList) = b := ⟨_, rfl⟩
  obtain ⟨b2, e2⟩ : ∃ b, (t.data.toList == []) = b := ⟨_, rfl⟩
  obtain ⟨b3, e3⟩ : ∃ b, decide (key.data.toList < t.data.toList) = b := ⟨_, rfl⟩
  have E : Hid (outK f.data.toList t.data.toList key.data.toList = (b1 || (!b2 && !b3))) := Lib.hid (by unfold outK; rw [e1, e2, e3])
  have m1 : Op.bytesLess key.toList f.toList = b1 := by rw [bytesLess_lt, Lib.toList_data, Lib.toList_data]; exact e1
  have m3 : Op.bytesLess key.toList t.toList = b3 := by rw [bytesLess_lt, Lib.toList_data, Lib.toList_data]; exact e3
  have m2 : (t.toList == []) = b2 := by rw [Lib.toList_data]; exact e2
  clear e1 e2 e3
  cases b1 <;> cases b2 <;> cases b3 <;>
  · go_enter Tryz.func51, Tryz.ntmps51
    go_wp2
    go_ret
    exact ⟨ret_bool (by rw [E.out]; rfl), Below.refl _ _⟩
set_option maxRecDepth 100000 in
set_option maxHeartbeats 1600000 in
theorem idxS_any (ks : List (List UInt8)) (f t : ByteArray) (A : Option Addr) (n c C g1 g2 : Nat) (w : World) (h : Has w C A n (strRow ks)) (hC : C ≤ w.heap.size) (hn : n ≤ 1000) (h1 : w.cell? ⟨g1, 0, none⟩ = some (.string f)) (h2 : w.cell? ⟨g2, 0, none⟩ = some (.string t)) :
    Calls Tryz.prog 88 #[.slice A n c, .func (.func 51) #[] #[.pointer (some ⟨g1, 0, none⟩), .pointer (some ⟨g2, 0, none⟩)]] w fun e w' => ∃ z, e = .returned (.int .i64 z) ∧ Below w.heap.size w w' ∧
      ((z = -1 ∧ ∀ k ∈ ks, outK f.data.toList t.data.toList k = false) ∨ ∃ i : Nat, i < n ∧ z = (i : Int) ∧ (∀ j y, j < i → ks[j]? = some y → outK f.data.toList t.data.toList y = false) ∧ ∀ y, ks[i]? = some y → outK f.data.toList t.data.toList y = true) := by
  have Hl : Hid (ks.length = n) := Lib.hid (by have := h.1; simpa [strRow] using this)
  have H := Lib.hid h
  have H1 := Lib.hid h1
  have H2 := Lib.hid h2
  have HC := Lib.hid hC
  clear h h1 h2 hC
  go_enter Tryz.func88, Tryz.ntmps88
  go_wp2
  go_loopw [5, 8] (fun _ i wr => ∃ k : Nat, k ≤ n ∧ i = .int .i64 (k : Int) ∧ Below w.heap.size w wr ∧ Hid (∀ j y, j < k → ks[j]? = some y → outK f.data.toList t.data.toList y = false)) (fun _ i _ => n - (intOf i).toNat)
  case atStart => exact ⟨0, by omega, rfl, Below.refl _ _, Lib.hid (fun j y hj => by omega)⟩
  case round =>
    obtain ⟨k, hk, rfl, hb, Hj⟩ := hrel
    have Hb := Lib.hid hb
    clear hb
    by_cases hlt : k < n
    · obtain ⟨a, rfl, hab, hc0⟩ := (H.out.belowOf Hb.out HC.out).cell hlt
      have hkl : k < ks.length := by have := Hl.out; omega
      have e0 : (strRow ks).getD k undef = .string ⟨ks[k].toArray⟩ := by simp [strRow, hkl, encStr]
      rw [e0] at hc0
      have Hx : Hid (ks[k]? = some ks[k]) := Lib.hid (List.getElem?_eq_getElem hkl)
      generalize ks[k] = key at hc0 Hx
      obtain ⟨s, hs⟩ : ∃ s : ByteArray, ⟨key.toArray⟩ = s := ⟨_, rfl⟩
      have Hkey : Hid (s.data.toList = key) := Lib.hid (by rw [← hs])
      rw [hs] at hc0
      have Hcl := Lib.hid (scan1_any s f t g1 g2 wr (keepcell Hb.out H1.out) (keepcell Hb.out H2.out))
      rw [Hkey.out] at Hcl
      have hk0 : (0 : Int) ≤ (k : Int) := by omega
      have hk1 : (k : Int) < (n : Int) := by omega
      clear e0 hs hkl
      cases hd : outK f.data.toList t.data.toList key with
      | true =>
        rw [hd] at Hcl
        have Hd := Lib.hid hd
        clear hd
        go_wp2_with fail
        refine Hcl.out.mono ?_
        rintro e w2 ⟨rfl, hb2⟩
        have Hb2 := Lib.hid (Below.then Hb.out hb2)
        clear hb2
        go_wp2
        go_ret
        exact ⟨_, rfl, Hb2.out, .inr ⟨k, hlt, rfl, Hj.out, fun y hy => by rw [Hx.out] at hy; injection hy with hy; rw [← hy]; exact Hd.out⟩⟩
      | false =>
        rw [hd] at Hcl
        have Hj2 : Hid (∀ j y, j < k + 1 → ks[j]? = some y → outK f.data.toList t.data.toList y = false) := Lib.hid (fun j y hj hy => by
          rcases Nat.lt_or_ge j k with h | h
          · exact Hj.out j y h hy
          · have : j = k := by omega
            subst this
            rw [Hx.out] at hy
            injection hy with hy
            rw [← hy]; exact hd)
        clear hd
        go_wp2_with fail
        refine Hcl.out.mono ?_
        rintro e w2 ⟨rfl, hb2⟩
        have Hb2 := Lib.hid (Below.then Hb.out hb2)
        clear hb2
        go_wp2
        go_roundw
        case rel => exact ⟨k + 1, by omega, by go_num, Hb2.out, Hj2⟩
        case measure => simp [intOf]; omega
    · go_wp2
      go_ret
      exact ⟨_, rfl, Hb.out, .inl ⟨rfl, fun y hy => by
        obtain ⟨j, hj, e⟩ := List.getElem_of_mem hy
        exact Hj.out j y (by have := Hl.out; omega) (by rw [List.getElem?_eq_getElem hj, e])⟩⟩
end Go.Proofs.YtajombifjofmmaaGreat

namespace Go.Proofs.YtajombifjofmmaaGreat
open Go.RowKit
open Go.Lib (strCells compareBytes)

def inK (f t k : List UInt8) : Bool := !outK f t k
theorem strRow_len (l : List (List UInt8)) : (strRow l).length = l.length := by simp [strRow]
theorem strRow_set (l : List (List UInt8)) (i : Nat) (k : List UInt8) : (strRow l).set i (encStr k) = strRow (l.set i k) := by simp [strRow, List.map_set]
theorem take_set {α : Type} {l : List α} {i : Nat} (h : i < l.length) (x : α) : (l.set i x).take (i + 1) = l.take i ++ [x] := by
  rw [List.take_succ_eq_append_getElem (by simpa using h)]
  simp [List.take_set_of_le]
set_option maxRecDepth 100000 in
set_option maxHeartbeats 3200000 in
theorem delF_any (ks : List (List UInt8)) (f t : ByteArray) (v : Value) (n B g1 g2 : Nat) (w : World) (h : w.ownsRow B 9 1 v n (strRow ks)) (hB : B ≤ w.heap.size) (hn : n ≤ 1000) (hg1 : g1 < B) (hg2 : g2 < B) (h1 : w.cell? ⟨g1, 0, none⟩ = some (.string f)) (h2 : w.cell? ⟨g2, 0, none⟩ = some (.string t)) :
    Calls Tryz.prog 50 #[v, .func (.func 51) #[] #[.pointer (some ⟨g1, 0, none⟩), .pointer (some ⟨g2, 0, none⟩)]] w fun e w' => ∃ A m c, e = .returned (.slice A m c) ∧ m ≤ c ∧ m ≤ n ∧ c ≤ maxLen ∧ Has w' w'.heap.size A m (strRow (ks.filter (inK f.data.toList t.data.toList))) ∧ Below B w w' := by
  have Hl : Hid (ks.length = n) := Lib.hid (by have := h.1; simpa [strRow] using this)
  obtain ⟨A, c, rfl, hnc, hcm, hhas⟩ := own_slice h
  have Hown := Lib.hid h
  have Hhas := Lib.hid hhas
  have H1 := Lib.hid h1
  have H2 := Lib.hid h2
  have HB := Lib.hid hB
  have Hg1 := Lib.hid hg1
  have Hg2 := Lib.hid hg2
  clear h hhas h1 h2 hB hg1 hg2
  have Hi := Lib.hid (idxS_any ks f t A n c w.heap.size g1 g2 w Hhas.out (Nat.le_refl _) hn H1.out H2.out)
  unfold maxLen at hcm
  go_enter Tryz.func50, Tryz.ntmps50
  go_wp2_with fail
  refine Hi.out.mono ?_
  rintro e w1 ⟨z, rfl, hb1, hz⟩
  have Hb1 := Lib.hid (hb1.mono HB.out)
  have Hown1 := Lib.hid (own_below Hown.out hb1)
  have Hhas1 : Hid (Has w1 w1.heap.size A n (strRow ks)) := Lib.hid (by
    obtain ⟨A', c', e, _, _, hh⟩ := own_slice Hown1.out
    injection e with e1 _ _
    subst e1
    exact hh)
  clear hb1
  rcases hz with ⟨rfl, hz⟩ | ⟨i0, hi0, rfl, hz1, hz2⟩
  · have Hz := Lib.hid hz
    clear hz
    go_wp2
    go_ret
    refine ⟨A, n, c, rfl, hnc, Nat.le_refl _, hcm, ?_, Hb1.out⟩
    rw [List.filter_eq_self.2 (fun k hk => by simp [inK, Hz.out k hk])]
    exact Hhas1.out
  · obtain ⟨g, rfl, hBg⟩ := own_at Hown1.out (by omega)
    have HBg := Lib.hid hBg
    have hne : ((i0 : Int) == -1) = false := by simp
    clear hBg
    have Hz0 : Hid (ks.take i0 = (ks.take (i0 + 1)).filter (inK f.data.toList t.data.toList)) := Lib.hid (by
      have hkl : i0 < ks.length := by have := Hl.out; omega
      rw [List.take_succ_eq_append_getElem hkl, List.filter_append, List.filter_eq_self.2 (fun k hk => by
        obtain ⟨j, hj, e⟩ := List.getElem_of_mem hk
        rw [List.length_take] at hj
        rw [List.getElem_take] at e
        simp [inK, hz1 j k (by omega) (by rw [← e]; exact List.getElem?_eq_getElem (by omega))])]
      simp [inK, hz2 _ (List.getElem?_eq_getElem hkl)])
    clear hz1 hz2
    go_wp2
    go_loopw [5, 6, 7] (fun iv jv _ wr => ∃ (i j : Nat) (L : List (List UInt8)), i < j ∧ j ≤ n ∧ iv = .int .i64 (i : Int) ∧ jv = .int .i64 (j : Int) ∧ wr.ownsRow B 9 1 (.slice (some ⟨g, 0, none⟩) n c) n (strRow L) ∧ Hid (L.take i = (ks.take j).filter (inK f.data.toList t.data.toList)) ∧ Hid (L.drop j = ks.drop j) ∧ Below B w wr) (fun _ jv _ _ => n - (intOf jv).toNat)
    case atStart => exact ⟨i0, i0 + 1, ks, by omega, by omega, rfl, by simp, Hown1.out, Hz0, Lib.hid rfl, Hb1.out⟩
    case round =>
      obtain ⟨i, j, L, hij, hj, rfl, rfl, hown, Ht, Hd, hb⟩ := hrel
      have Hb := Lib.hid hb
      have HL : Hid (L.length = n) := Lib.hid (by have := hown.1; rw [strRow_len] at this; omega)
      have Hown := Lib.hid hown
      clear hb hown
      by_cases hlt : j < n
      · have hjl : j < L.length := by have := HL.out; omega
        have hkl : j < ks.length := by have := Hl.out; omega
        have Hkj : Hid (L[j] = ks[j]) := Lib.hid (by
          have h1 := congrArg (fun l : List (List UInt8) => l[0]?) Hd.out
          simpa [hjl, hkl] using h1)
        have hc0 := Hown.out.cellAt j (by omega)
        rw [strRow, List.getElem?_map, List.getElem?_eq_getElem hjl, Hkj.out] at hc0
        have Ek : Hid ((ks.take (j + 1)).filter (inK f.data.toList t.data.toList) = (ks.take j).filter (inK f.data.toList t.data.toList) ++ (if inK f.data.toList t.data.toList ks[j] then [ks[j]] else [])) := Lib.hid (by
          rw [List.take_succ_eq_append_getElem hkl, List.filter_append]
          by_cases hq : inK f.data.toList t.data.toList ks[j] = true <;> simp [hq])
        have Hd2 : Hid (L.drop (j + 1) = ks.drop (j + 1)) := Lib.hid (by rw [← List.drop_drop, ← List.drop_drop, Hd.out])
        generalize ks[j] = key at hc0 Ek Hkj
        obtain ⟨s, hs⟩ : ∃ s : ByteArray, ⟨key.toArray⟩ = s := ⟨_, rfl⟩
        have Hkey : Hid (s.data.toList = key) := Lib.hid (by rw [← hs])
        simp only [Option.map_some, encStr] at hc0
        rw [hs] at hc0
        have Hcl := Lib.hid (scan1_any s f t g1 g2 wr ((Hb.out.cell (show (⟨g1, 0, none⟩ : Addr).block < B from Hg1.out)).trans H1.out) ((Hb.out.cell (show (⟨g2, 0, none⟩ : Addr).block < B from Hg2.out)).trans H2.out))
        rw [Hkey.out] at Hcl
        have hj0 : (0 : Int) ≤ (j : Int) := by omega
        have hj1 : (j : Int) < (n : Int) := by omega
        have hi0 : (0 : Int) ≤ (i : Int) := by omega
        have hi1 : (i : Int) < (n : Int) := by omega
        have hBw : B ≤ wr.heap.size := Nat.le_trans HB.out Hb.out.size
        clear hs Hkj
        cases hd : outK f.data.toList t.data.toList key with
        | true =>
          rw [hd] at Hcl
          have Ht2 : Hid (L.take i = (ks.take (j + 1)).filter (inK f.data.toList t.data.toList)) := Lib.hid (by rw [Ek.out, Ht.out]; simp [inK, hd])
          clear hd
          go_wp2_with fail
          refine Hcl.out.mono ?_
          rintro e w2 ⟨rfl, hb2⟩
          have Hb2 := Lib.hid (Hb.out.trans (hb2.mono hBw))
          have Hown2 := Lib.hid (own_below Hown.out hb2)
          clear hb2
          go_wp2
          go_roundw
          case rel => exact ⟨i, j + 1, L, by omega, by omega, rfl, by go_num, Hown2.out, Ht2, Hd2, Hb2.out⟩
          case measure => simp [intOf]; omega
        | false =>
          rw [hd] at Hcl
          have Ht2 : Hid ((L.set i key).take (i + 1) = (ks.take (j + 1)).filter (inK f.data.toList t.data.toList)) := Lib.hid (by rw [Ek.out, take_set (by omega), Ht.out]; simp [inK, hd])
          have Hd3 : Hid ((L.set i key).drop (j + 1) = ks.drop (j + 1)) := Lib.hid (by rw [List.drop_set_of_lt (by omega), Hd2.out])
          clear hd
          go_wp2_with fail
          refine Hcl.out.mono ?_
          rintro e w2 ⟨rfl, hb2⟩
          have hb2' := Hb.out.trans (hb2.mono hBw)
          have hown2 := own_below Hown.out hb2
          have hst := hown2.stored i (encStr key)
          have hc2 : w2.cell? ⟨g, i, none⟩ = some (encStr L[i]) := by rw [hown2.cellAt i (by omega), strRow, List.getElem?_map, List.getElem?_eq_getElem (by omega)]; rfl
          have hf2 := hown2.frozenAt i
          obtain ⟨w3, hw3⟩ : ∃ w3, w2.setCell ⟨g, i, none⟩ (.string s) = w3 := ⟨_, rfl⟩
          have ek : encStr key = .string s := by rw [← Hkey.out]
          rw [ek, hw3] at hst
          rw [← ek, strRow_set] at hst
          have Hown3 := Lib.hid hst.1
          have Hb3 : Hid (Below B w w3) := Lib.hid (by rw [← hw3]; exact hb2'.setCell (show B ≤ g from HBg.out) _)
          clear hb2 hb2' hown2 hst ek
          go_wp2
          go_roundw
          case rel => exact ⟨i + 1, j + 1, L.set i key, by omega, by omega, by go_num, by go_num, Hown3.out, Ht2, Hd3, Hb3.out⟩
          case measure => simp [intOf]; omega
      · have hin : i < n := by omega
        have hjn : j = n := by omega
        have hcl : ∀ ty, (Builtin.clear_ #[41] ty #[.slice (some ⟨g, i, none⟩) (n - i) (c - i)]).run Tryz.prog wr = .ok (.tuple #[]) (wr.setCells g i (List.replicate (n - i) (.string ⟨#[]⟩))) :=
          fun ty => Lib.run_clear_slice wr 41 9 ty (.string ⟨#[]⟩) Tryz.underlying41 (fun w => by kernel_rfl) rfl rfl g i (n - i) (c - i) (by omega) (fun k hk => by rw [Hown.out.cellAt (i + k) (by omega), List.getElem?_eq_getElem (by rw [strRow_len]; have := HL.out; omega)]; rfl) (fun k hk => Hown.out.frozenAt (i + k))
        have Hend : Hid (i = (ks.filter (inK f.data.toList t.data.toList)).length ∧ L.take i = ks.filter (inK f.data.toList t.data.toList)) := Lib.hid (by
          have h1 := Ht.out
          rw [hjn, List.take_of_length_le (l := ks) (by have := Hl.out; omega)] at h1
          refine ⟨?_, h1⟩
          rw [← h1, List.length_take]
          have := HL.out; omega)
        obtain ⟨W, hW⟩ : ∃ W, wr.setCells g i (List.replicate (n - i) (.string ⟨#[]⟩)) = W := ⟨_, rfl⟩
        rw [hW] at hcl
        have Hhas : Hid (Has W W.heap.size (some ⟨g, 0, none⟩) i (strRow (ks.filter (inK f.data.toList t.data.toList)))) := Lib.hid (by
          obtain ⟨A', c', e, _, _, hh⟩ := own_slice Hown.out
          injection e with e1 _ _
          subst e1
          have hh := hh.take (k := i) (by omega)
          have e2 : (strRow L).take i = strRow (ks.filter (inK f.data.toList t.data.toList)) := by rw [← Hend.out.2]; simp [strRow]
          rw [e2] at hh
          refine ⟨hh.1, fun k u hu => ?_⟩
          obtain ⟨a, ea, hab, hac⟩ := hh.2 k u hu
          injection ea with ea
          subst ea
          have hki : k < i := by have := (List.getElem?_eq_some_iff.1 hu).1; rw [hh.1] at this; exact this
          refine ⟨_, rfl, ?_, ?_⟩
          · rw [← hW, Sort.size_setCells]; exact hab
          · rw [← hW, World.cell?_setCells_out _ _ _ _ _ (fun _ _ => .inl (by unfold Addr.add; split <;> (dsimp only; omega)))]; exact hac)
        have HbW : Hid (Below B w W) := Lib.hid (hW ▸ below_setCells HBg.out _ _ _ Hb.out)
        clear hW
        go_wp2_with (simp only [hcl])
        go_ret
        exact ⟨_, i, c, rfl, by omega, by omega, hcm, Hhas.out, HbW.out⟩
end Go.Proofs.YtajombifjofmmaaGreat

namespace Go.Proofs.YtajombifjofmmaaGreat
open Go.RowKit
open Go.Lib (strCells compareBytes)

/-- what a scan answers -/
def scanA (f t : List UInt8) (lim : Nat) (M : Kv (List TVal)) : Ans := ⟨0, false, [], rowsT M (((M.map (·.1)).filter (inK f t)).take lim), 0⟩
theorem below5B {w w0 W : World} {g B : Nat} {x' y' z' u' v' : Value} (h : Below B w0 w) (hB : B ≤ g) (hW : ((((w.setCell ⟨g, 0, none⟩ x').setCell ⟨g, 1, none⟩ y').setCell ⟨g, 2, none⟩ z').setCell ⟨g, 3, none⟩ u').setCell ⟨g, 4, none⟩ v' = W) : Below B w0 W := by
  subst hW
  exact ((((h.setCell hB _).setCell hB _).setCell hB _).setCell hB _).setCell hB _
section
variable {B sb mb d : Nat} {ix : Value} {E : Kv (Value × List TVal)} {X : List Ix} {w : World}
set_option maxRecDepth 100000 in
set_option maxHeartbeats 3200000 in
theorem scan_do (h : Store w B sb mb ix E X d) (f t : ByteArray) (lim : Nat) (hE : E.length ≤ 1000) (hlim : lim ≤ 64) :
    Calls Tryz.prog 29 #[.pointer (some ⟨sb, 0, none⟩), .string f, .string t, .int .i64 (lim : Int)] w (DoPost B sb mb ix E (mapK (·.2) E) (X.map xi) d (scanA f.data.toList t.data.toList lim (mapK (·.2) E)) w) := by
  obtain ⟨wa, hwa⟩ : ∃ wa, w.alloc (.cells #[.string f] 9) = wa := ⟨_, rfl⟩
  have hba : Below w.heap.size w wa := hwa ▸ below_alloc _ _
  have hca : wa.cell? ⟨w.heap.size, 0, none⟩ = some (.string f) := hwa ▸ (Box.made w (cs := #[.string f]) (t := 9)).cell 0
  have hsa : wa.heap.size = w.heap.size + 1 := by rw [← hwa]; simp
  obtain ⟨wb, hwb⟩ : ∃ wb, wa.alloc (.cells #[.string t] 9) = wb := ⟨_, rfl⟩
  have hbb : Below wa.heap.size wa wb := hwb ▸ below_alloc _ _
  have hcb : wb.cell? ⟨w.heap.size + 1, 0, none⟩ = some (.string t) := by
    have h1 := hwb ▸ (Box.made wa (cs := #[.string t]) (t := 9)).cell 0
    rw [hsa] at h1; exact h1
  have hsb : wb.heap.size = w.heap.size + 1 + 1 := by rw [← hwb]; simp [hsa]
  obtain ⟨w0, hw0⟩ : ∃ w0, wb.alloc (.cells #[.int .i64 0, .bool false, .slice none 0 0, .slice none 0 0, .int .i64 0] 35) = w0 := ⟨_, rfl⟩
  have hb0' : Below wb.heap.size wb w0 := hw0 ▸ below_alloc _ _
  have hb0 : Below w.heap.size w w0 := Below.then (Below.then hba hbb) hb0'
  have hbx : Box w0 (w.heap.size + 1 + 1) 35 #[.int .i64 0, .bool false, .slice none 0 0, .slice none 0 0, .int .i64 0] := hw0 ▸ made_at hsb _ _
  have hsz : w0.heap.size = w.heap.size + 1 + 1 + 1 := by rw [← hw0]; simp [hsb]
  have Hc1 := Lib.hid (keepcell (Below.then hbb hb0') hca)
  have Hc2 := Lib.hid (keepcell hb0' hcb)
  have H := Lib.hid h
  have H0 := Lib.hid (h.below hb0)
  have Hbx := Lib.hid hbx
  have Hb0 := Lib.hid hb0
  have Hsz := Lib.hid hsz
  have HE := Lib.hid hE
  have Hkey : Hid (∀ k ∈ keysOf E, k.length ≤ 16) := Lib.hid (fun k hk => by
    obtain ⟨p, hp, rfl⟩ := List.mem_map.1 hk
    have h1 := (h.good p hp).2
    unfold keyOk at h1
    simp only [Bool.and_eq_true, decide_eq_true_eq] at h1
    exact h1.2)
  have Hkl : Hid ((keysOf E).length ≤ 1000) := Lib.hid (by simp [keysOf]; exact hE)
  have HQ : Hid (scanA f.data.toList t.data.toList lim (mapK (·.2) E) = ⟨0, false, [], rowsT (mapK (·.2) E) (((keysOf E).filter (inK f.data.toList t.data.toList)).take lim), 0⟩) := Lib.hid (by
    unfold scanA
    have e : (mapK (fun a : Value × List TVal => a.2) E).map (·.1) = keysOf E := by simp [mapK, keysOf]
    rw [e])
  rw [HQ.out]
  obtain ⟨L, hL⟩ : ∃ L, rowsT (mapK (·.2) E) (((keysOf E).filter (inK f.data.toList t.data.toList)).take lim) = L := ⟨_, rfl⟩
  rw [hL]
  have HL := Lib.hid hL
  clear hL HQ hba hca hbb hcb hb0' hb0 hbx hsz h hE
  go_enter Tryz.func29, Tryz.ntmps29
  go_wp2_with fail
  refine (keys_any H0.out HE.out).mono ?_
  rintro e w1 ⟨v, rfl, hown, hb1⟩
  have Hdel := Lib.hid (delF_any (keysOf E) f t v E.length w0.heap.size w.heap.size (w.heap.size + 1) w1 hown hb1.size HE.out (by have := Hsz.out; omega) (by have := Hsz.out; omega) (keepcell hb1 Hc1.out) (keepcell hb1 Hc2.out))
  have Hb1 := Lib.hid hb1
  clear hown hb1
  go_wp2_with fail
  refine Hdel.out.mono ?_
  rintro e wr ⟨Ak, m, ck, rfl, hk1, hk4, hk2, hk3, hbr⟩
  have Hbr : Hid (Below w0.heap.size w0 wr) := Lib.hid (Hb1.out.trans hbr)
  clear hbr
  generalize hKS : (keysOf E).filter (inK f.data.toList t.data.toList) = KS at hk3 HL
  have Hks : Hid (∀ q ∈ KS, q.length ≤ 1000) := Lib.hid (fun q hq => by
    rw [← hKS] at hq
    have := Hkey.out q (List.mem_filter.1 hq).1
    omega)
  have Hm : Hid (KS.length = m) := Lib.hid (by have := hk3.1; rwa [strRow_len] at this)
  clear hKS
  have H3 := Lib.hid (H0.out.below Hbr.out)
  have hmn : (min (lim : Int) (m : Int)).toNat = min lim m := by omega
  have hm1 : (0 : Int) ≤ min (lim : Int) (m : Int) := by omega
  have hm2 : min (lim : Int) (m : Int) ≤ (ck : Int) := by omega
  have htk : Has wr wr.heap.size Ak (min lim m) (strRow (KS.take lim)) := by
    have h := hk3.take (k := min lim m) (by omega)
    have e : (strRow KS).take (min lim m) = strRow (KS.take lim) := by
      rw [strRow, ← List.map_take, strRow, ← List.take_take, List.take_of_length_le (l := KS) (by have := Hm.out; omega)]
    rwa [e] at h
  have hE' := HE.out
  have Hrows := Lib.hid (rows_any H3.out Ak (min lim m) ck _ (KS.take lim) htk (Nat.le_refl _) (by omega) (fun q hq => Hks.out q (List.mem_of_mem_take hq)))
  have Eq : Hid (((KS.take lim).map fun k => (k, recOf k E)) = L) := Lib.hid (by rw [← HL.out, rowsT]; simp only [recOf_map])
  rw [Eq.out] at Hrows
  clear hk3 htk Eq
  go_wp2_with fail
  refine Hrows.out.mono ?_
  rintro e w5 ⟨v, rfl, hR, hb5⟩
  obtain ⟨Ar, cr, rfl⟩ := hR.slice
  have hb05 := Below.then Hbr.out hb5
  have hbx5 := Hbx.out.below hb05 Hbx.out.lt
  obtain ⟨r0, r1, r2, r3, r4, k0, k1, k2, k3, k4⟩ := box5 hbx5
  obtain ⟨W3, hW3⟩ : ∃ W3, ((((w5.setCell ⟨w.heap.size + 1 + 1, 0, none⟩ (.int .i64 0)).setCell ⟨w.heap.size + 1 + 1, 1, none⟩ (.bool false)).setCell ⟨w.heap.size + 1 + 1, 2, none⟩ (.slice none 0 0)).setCell ⟨w.heap.size + 1 + 1, 3, none⟩ (.slice Ar L.length cr)).setCell ⟨w.heap.size + 1 + 1, 4, none⟩ (.int .i64 0) = W3 := ⟨_, rfl⟩
  obtain ⟨p0, p1, p2, p3, p4, -⟩ := box5 (box5_store hbx5 hW3)
  have hszr := Hbr.out.size
  have hs0 := Hsz.out
  have Hbw := Lib.hid (below5B (Hb0.out.trans (hb05.mono (by omega))) (by omega : w.heap.size ≤ _) hW3)
  have Hrow3 := Lib.hid ((rows5 hR (g := w.heap.size + 1 + 1) (by omega) hW3).base (by omega : w.heap.size ≤ _))
  clear hbx5 hb05 hb5 hR hszr hs0
  go_wp2
  refine bodyPost_ret (v := replyV 0 false (.slice none 0 0) (.slice Ar L.length cr) 0) ?_ rfl (do_same H.out ⟨_, _, rfl, World.ownsRow_nil _ _ _ _, Hrow3.out⟩ Hbw.out)
  simp [results, Tryz.results29, go_sem, replyV, p0, p1, p2, p3, p4]
end
end Go.Proofs.YtajombifjofmmaaGreat

namespace Go.Proofs.YtajombifjofmmaaGreat
open Go.RowKit
open Go.Lib (strCells compareBytes)

def setL : List Value → Nat → List Value → List Value
  | xs, _, [] => xs
  | xs, o, v :: vs => setL (xs.set o v) (o + 1) vs
theorem setL_len : ∀ (vs xs : List Value) (o : Nat), (setL xs o vs).length = xs.length
  | [], _, _ => rfl
  | v :: vs, xs, o => by rw [setL, setL_len vs]; simp
theorem setL_eq : ∀ (vs xs : List Value) (o : Nat), o + vs.length ≤ xs.length → setL xs o vs = xs.take o ++ vs ++ xs.drop (o + vs.length)
  | [], xs, o, _ => by simp [setL]
  | v :: vs, xs, o, h => by
    simp only [List.length_cons] at h
    rw [setL, setL_eq vs (xs.set o v) (o + 1) (by simp; omega), take_set (by omega), List.drop_set_of_lt (by omega)]
    simp [show o + 1 + vs.length = o + (vs.length + 1) by omega]
theorem own_setCells {B n c g size : Nat} {e : TypeId} : ∀ (vs : List Value) (w : World) (xs : List Value) (o : Nat), w.ownsRow B e size (.slice (some ⟨g, 0, none⟩) n c) n xs →
    (w.setCells g o vs).ownsRow B e size (.slice (some ⟨g, 0, none⟩) n c) n (setL xs o vs) ∧ w.grownBy (w.setCells g o vs) (some g)
  | [], w, xs, o, h => ⟨h, World.grownBy.refl w _⟩
  | v :: vs, w, xs, o, h => by
    have h1 := h.stored o v
    have h2 := own_setCells vs _ _ (o + 1) h1.1
    exact ⟨h2.1, h1.2.trans h2.2⟩
theorem own_shrink {w : World} {B n m c size : Nat} {e : TypeId} {A : Option Addr} {xs : List Value} (h : w.ownsRow B e size (.slice A n c) n xs) (hA : A ≠ none) (hm : m ≤ n) : w.ownsRow B e size (.slice A m c) m (xs.take (m * size)) := by
  have hl := h.1
  have hle : m * size ≤ n * size := Nat.mul_le_mul_right _ hm
  refine ⟨by rw [List.length_take]; omega, ?_⟩
  rcases h.2 with ⟨hv, _⟩ | ⟨g, cap, cur, hv, hbg, hg, hnc, hcm, hcs, htake⟩
  · injection hv with hv _ _
    exact absurd hv hA
  · injection hv with hv1 _ hv3
    subst hv1; subst hv3
    exact .inr ⟨g, c, cur, rfl, hbg, hg, by omega, hcm, hcs, by rw [← htake, List.take_take, Nat.min_eq_left hle]⟩
theorem clear_ix (w : World) (ty : TypeId) (b o c : Nat) (hc : ∀ j, j < 2 → (w.cell? ⟨b, o + j, none⟩).isSome = true) (hf : ∀ j, j < 2 → w.frozen? ⟨b, o + j, none⟩ = false) :
    (Builtin.clear_ #[49] ty #[.slice (some ⟨b, o, none⟩) 1 c]).run Tryz.prog w = .ok (.tuple #[]) (w.setCells b o [.int .i64 0, .slice none 0 0]) := by
  have hst := run_storeCells_cells (P := Tryz.prog) b o [.int .i64 0, .slice none 0 0] 0 w (by simpa using hc) (by simpa using hf) (by intro v hv'; simp only [List.mem_cons, List.not_mem_nil, or_false] at hv'; rcases hv' with rfl | rfl <;> rfl)
  simp only [Nat.add_zero] at hst
  have hz : (Builtin.zeroCells (Value.agg #[.int .i64 0, .slice none 0 0]).cells 1).toList = [.int .i64 0, .slice none 0 0] := by kernel_rfl
  have hv : ∀ w, (zeroValue 76).run Tryz.prog w = .ok (.agg #[.int .i64 0, .slice none 0 0]) w := fun w => by kernel_rfl
  simp [Builtin.clear_, run_underlying Tryz.underlying49, hv, hz, hst]
theorem ixCells_drop : ∀ (l : List Ix) (p : Nat), (ixCells l).drop (p * 2) = ixCells (l.drop p)
  | l, 0 => by simp
  | [], p + 1 => by simp [ixCells]
  | x :: l, p + 1 => by rw [show (p + 1) * 2 = p * 2 + 1 + 1 by omega]; simp only [ixCells, List.drop_succ_cons]; exact ixCells_drop l p
theorem ixCells_take : ∀ (l : List Ix) (p : Nat), (ixCells l).take (p * 2) = ixCells (l.take p)
  | l, 0 => by simp [ixCells]
  | [], p + 1 => by simp [ixCells]
  | x :: l, p + 1 => by rw [show (p + 1) * 2 = p * 2 + 1 + 1 by omega]; simp only [ixCells, List.take_succ_cons]; rw [ixCells_take l p]
theorem ixCells_one' : ∀ (X : List Ix), (∀ x ∈ X, ∃ A n c, x.v = .slice A n c) → ∀ u ∈ ixCells X, u.oneCell' = true
  | [], _, u, hu => by simp [ixCells] at hu
  | x :: l, hf, u, hu => by
    simp only [ixCells, List.mem_cons] at hu
    rcases hu with rfl | rfl | hu
    · rfl
    · obtain ⟨A, n, c, e⟩ := hf x (by simp)
      rw [e]; rfl
    · exact ixCells_one' l (fun y hy => hf y (by simp [hy])) u hu
set_option maxRecDepth 100000 in
set_option maxHeartbeats 3200000 in
theorem delIx_any (X : List Ix) (p j n c g B : Nat) (w : World) (h : w.ownsRow B 76 2 (.slice (some ⟨g, 0, none⟩) n c) n (ixCells X)) (hp : p < n) (hj : j = p + 1) (hn : n ≤ 1000) (hnc : n ≤ c) (hf : ∀ x ∈ X, ∃ A n c, x.v = .slice A n c) :
    Calls Tryz.prog 54 #[.slice (some ⟨g, 0, none⟩) n c, .int .i64 (p : Int), .int .i64 (j : Int)] w fun e w' => e = .returned (.slice (some ⟨g, 0, none⟩) (n - 1) c) ∧ w'.ownsRow B 76 2 (.slice (some ⟨g, 0, none⟩) (n - 1) c) (n - 1) (ixCells (X.eraseIdx p)) ∧ w.grownBy w' (some g) := by
  have hl : (ixCells X).length = n * 2 := h.1
  have Hl : Hid (X.length = n) := Lib.hid (by rw [ixCells_len] at hl; omega)
  obtain ⟨news, hnews⟩ : ∃ news, (ixCells X).drop (j * 2) = news := ⟨_, rfl⟩
  have hlen : news.length = (n - j) * 2 := by rw [← hnews, List.length_drop, hl]; omega
  have hd := h.drew
  obtain ⟨A, hA, hsrc⟩ : ∃ A : Addr, (if c = j then (some ⟨g, 0, none⟩ : Option Addr) else some ⟨g, j * 2, none⟩) = some A ∧ Hid (∀ t u, news[t]? = some u → w.drew.cell? (A.add t) = some u) := by
    by_cases hcj : c = j
    · refine ⟨_, if_pos hcj, Lib.hid fun t u hu => ?_⟩
      have h0 : news.length = 0 := by rw [hlen]; omega
      rw [List.length_eq_zero_iff.1 h0] at hu
      simp at hu
    · refine ⟨_, if_neg hcj, Lib.hid fun t u hu => ?_⟩
      have ht : t < news.length := (List.getElem?_eq_some_iff.1 hu).1
      rw [← hnews, List.getElem?_drop] at hu
      rw [Addr.add_lit]
      exact (hd.cellAt (j * 2 + t) (by omega)).trans hu
  have s1 : Hid (news.length = (n - j) * 2) := Lib.hid hlen
  have s2 : Hid (∀ u ∈ news, u.oneCell' = true) := Lib.hid (fun u hu => ixCells_one' X hf u (List.mem_of_mem_drop (hnews ▸ hu)))
  have s3 : Hid (∀ t, t < news.length → (w.drew.cell? ⟨g, 0 + p * 2 + t, none⟩).isSome = true ∧ w.drew.frozen? ⟨g, 0 + p * 2 + t, none⟩ = false) := Lib.hid (fun t ht => by
    rw [Nat.zero_add, hd.cellAt (p * 2 + t) (by omega), List.getElem?_eq_getElem (by omega)]
    exact ⟨rfl, hd.frozenAt _⟩)
  obtain ⟨W1, hW1⟩ : ∃ W1, w.drew.setCells g (0 + p * 2) news = W1 := ⟨_, rfl⟩
  have ho1 := own_setCells news w.drew (ixCells X) (0 + p * 2) hd
  rw [hW1] at ho1
  have hcl : ∀ ty, (Builtin.clear_ #[49] ty #[.slice (some ⟨g, (n - 1) * 2, none⟩) 1 (c - (n - 1))]).run Tryz.prog W1 = .ok (.tuple #[]) (W1.setCells g ((n - 1) * 2) [.int .i64 0, .slice none 0 0]) :=
    fun ty => clear_ix W1 ty g ((n - 1) * 2) _ (fun t ht => by rw [ho1.1.cellAt _ (by omega), List.getElem?_eq_getElem (by rw [setL_len]; omega)]; rfl) (fun t ht => ho1.1.frozenAt _)
  have ho2 := own_setCells [.int .i64 0, .slice none 0 0] W1 _ ((n - 1) * 2) ho1.1
  obtain ⟨W2, hW2⟩ : ∃ W2, W1.setCells g ((n - 1) * 2) [.int .i64 0, .slice none 0 0] = W2 := ⟨_, rfl⟩
  rw [hW2] at ho2 hcl
  have ho3 := own_shrink ho2.1 (by simp) (Nat.sub_le n 1)
  have he : (setL (setL (ixCells X) (0 + p * 2) news) ((n - 1) * 2) [.int .i64 0, .slice none 0 0]).take ((n - 1) * 2) = ixCells (X.eraseIdx p) := by
    rw [setL_eq _ _ _ (by rw [setL_len, hl]; simp; omega), List.append_assoc, List.take_append_of_le_length (by rw [List.length_take, setL_len, hl]; omega), List.take_take, Nat.min_self, setL_eq _ _ _ (by rw [hl, hlen]; omega), hlen]
    rw [List.take_append_of_le_length (by rw [List.length_append, List.length_take, hl, hlen]; omega), List.take_of_length_le (by rw [List.length_append, List.length_take, hl, hlen]; omega), ← hnews, Nat.zero_add, ixCells_take, ixCells_drop, ← ixCells_app, List.eraseIdx_eq_take_drop_succ, hj]
  rw [he] at ho3
  have Hend : Hid (W2.ownsRow B 76 2 (.slice (some ⟨g, 0, none⟩) (n - 1) c) (n - 1) (ixCells (X.eraseIdx p)) ∧ w.grownBy W2 (some g)) := Lib.hid ⟨ho3, (show w.grownBy w.drew _ from ⟨rfl, rfl, rfl, Nat.le_refl _, fun _ _ _ => rfl⟩).trans (ho1.2.trans ho2.2)⟩
  have Hcl := Lib.hid hcl
  have HW1 := Lib.hid hW1
  have hne : ((p : Int) == (j : Int)) = false := by simp; omega
  have e1 : n - (p + (n - j)) = 1 := by omega
  have e2 : (p + (n - j)) = n - 1 := by omega
  have hpc : p ≤ c := by omega
  have hjc : j ≤ c := by omega
  have hjn : j ≤ n := by omega
  have hpn : p + (n - j) ≤ c := by omega
  have e3 : n - (n - 1) = 1 := by omega
  have Hj := Lib.hid hj
  clear hW1 hW2 ho1 ho2 ho3 he hcl hd h hnews hlen hj
  obtain ⟨i0, hi0, -, hz1, -⟩ := idx_elem.get
  go_enter Tryz.func54, Tryz.ntmps54
  go_wp2_with fail
  go_region_law (refine step_append_room rfl (.tmp 22) (.tmp 25) 49 rfl 76 i0 2 Tryz.underlying49 hi0 hz1 g 0 p c (by simp [Act.eval, Act.put]) A (n - j) (c - j) news (by simp [Act.eval, Act.put]) s1.out hsrc.out s2.out hpn s3.out ?_; rw [HW1.out, e2])
  go_wp2_with (simp only [Hcl.out])
  go_ret
  exact ⟨rfl, Hend.out⟩
end Go.Proofs.YtajombifjofmmaaGreat

namespace Go.Proofs.YtajombifjofmmaaGreat
open Go.RowKit
open Go.Lib (strCells compareBytes)

/-- what a drop answers, and the indexes that it leaves -/
def dropA (id : Int) (I : List (Int × List Int)) : Ans × List (Int × List Int) :=
  if idxT id I < I.length then (⟨0, false, [], [], 0⟩, I.eraseIdx (idxT id I)) else (⟨7, false, [], [], 0⟩, I)
section
variable {B sb mb d : Nat} {ix : Value} {E : Kv (Value × List TVal)} {X : List Ix} {w : World}
set_option maxRecDepth 100000 in
set_option maxHeartbeats 3200000 in
theorem drop_do (h : Store w B sb mb ix E X d) (id : Int) (hX : X.length ≤ 6) :
    Calls Tryz.prog 32 #[.pointer (some ⟨sb, 0, none⟩), .int .i64 id] w (DoPost B sb mb ix E (mapK (·.2) E) (dropA id (X.map xi)).2 d (dropA id (X.map xi)).1 w) := by
  obtain ⟨w0, hw0⟩ : ∃ w0, w.alloc (.cells #[.int .i64 0, .bool false, .slice none 0 0, .slice none 0 0, .int .i64 0] 35) = w0 := ⟨_, rfl⟩
  have hb0 : Below w.heap.size w w0 := hw0 ▸ below_alloc _ _
  have hbx : Box w0 w.heap.size 35 #[.int .i64 0, .bool false, .slice none 0 0, .slice none 0 0, .int .i64 0] := hw0 ▸ Box.made _ _ _
  have hsz : w0.heap.size = w.heap.size + 1 := by rw [← hw0]; simp
  have H := Lib.hid h
  have H0 := Lib.hid (h.below hb0)
  have Hbx := Lib.hid hbx
  have Hb0 := Lib.hid hb0
  have Hsz := Lib.hid hsz
  have HX := Lib.hid hX
  unfold dropA
  rw [← posI_idxT, List.length_map]
  clear hb0 hbx hsz h hX
  by_cases hp : posI id X < X.length
  · simp only [if_pos hp]
    have Efind : Hid (findT id X = (posI id X : Int)) := Lib.hid (by unfold findT; rw [if_pos hp])
    generalize posI id X = p at hp Efind ⊢
    have hp0 : (0 : Int) ≤ (p : Int) := by omega
    obtain ⟨Ai, ci, rfl, -, -, -⟩ := own_sliceN H.out.irow
    obtain ⟨g, rfl, -⟩ := own_head H.out.irow (by omega)
    go_enter Tryz.func32, Tryz.ntmps32
    go_wp2_with fail
    refine (find_any id H0.out).mono ?_
    rintro e w1 ⟨rfl, hb1⟩
    rw [Efind.out]
    have H1 := Lib.hid (H0.out.below hb1)
    obtain ⟨q0, q1, q2, f0, f1, f2⟩ := H1.out.cells
    have Hb1 := Lib.hid hb1
    clear hb1
    have hX6 := HX.out
    have hap := H.out.apart.2 g rfl
    have hglt := (H.out.irow.lt g rfl).2
    obtain ⟨A', c', eA, hnc, -, -⟩ := own_sliceN H.out.irow
    injection eA with eA1 _ eA3
    subst eA1; subst eA3
    have hdel := delIx_any X p (p + 1) X.length ci g B w1 H1.out.irow hp rfl (by omega) hnc (fun x hx => by obtain ⟨A, c, e, _⟩ := intcells_slice (H1.out.flds x hx); exact ⟨A, _, c, e⟩)
    rw [show ((p + 1 : Nat) : Int) = (p : Int) + 1 by omega] at hdel
    have Hdel := Lib.hid hdel
    have Hap := Lib.hid hap
    have Hglt := Lib.hid hglt
    clear hdel hap hglt hnc
    go_wp2_with fail
    refine Hdel.out.mono ?_
    rintro e w2 ⟨rfl, oA, gA⟩
    have bx2 := H1.out.box.grown gA (fun e => Hap.out.1 (by injection e with e; first | exact e | exact e.symm))
    have hb2x : Box w2 w.heap.size 35 #[.int .i64 0, .bool false, .slice none 0 0, .slice none 0 0, .int .i64 0] := (Hbx.out.below Hb1.out Hbx.out.lt).grown gA (fun e => by have := Hglt.out; injection e with e; omega)
    have hgsb : w.heap.size ≠ sb := by have := H.out.lt.1; omega
    have c1 := bx2.cell 1
    have g1 := bx2.frozen 1
    obtain ⟨w3, hw3⟩ : ∃ w3, w2.setCell ⟨sb, 1, none⟩ (.slice (some ⟨g, 0, none⟩) (X.length - 1) ci) = w3 := ⟨_, rfl⟩
    have hbx3 : Box w3 w.heap.size 35 #[.int .i64 0, .bool false, .slice none 0 0, .slice none 0 0, .int .i64 0] := hw3 ▸ hb2x.far hgsb _
    obtain ⟨r0, r1, r2, r3, r4, k0, k1, k2, k3, k4⟩ := box5 hbx3
    obtain ⟨W3, hW3⟩ : ∃ W3, ((((w3.setCell ⟨w.heap.size, 0, none⟩ (.int .i64 0)).setCell ⟨w.heap.size, 1, none⟩ (.bool false)).setCell ⟨w.heap.size, 2, none⟩ (.slice none 0 0)).setCell ⟨w.heap.size, 3, none⟩ (.slice none 0 0)).setCell ⟨w.heap.size, 4, none⟩ (.int .i64 0) = W3 := ⟨_, rfl⟩
    obtain ⟨p0, p1, p2, p3, p4, -⟩ := box5 (box5_store hbx3 hW3)
    have hbs : Box W3 sb 61 #[.map (some mb), .slice (some ⟨g, 0, none⟩) (X.length - 1) ci, .int .i64 d] := (heap5 hgsb.symm hW3).trans (hw3 ▸ bx2.set_ 1 _)
    have Hend : Hid (DoPost B sb mb (.slice (some ⟨g, 0, none⟩) X.length ci) E (mapK (·.2) E) ((X.map xi).eraseIdx p) d ⟨0, false, [], [], 0⟩ w (.returned (replyV 0 false (.slice none 0 0) (.slice none 0 0) 0)) W3) := Lib.hid (by
      have hsame := same5 hW3
      have h5 : ∀ i, i ≠ w.heap.size → i ≠ sb → W3.heap[i]? = w2.heap[i]? := fun i h1 h2 => (heap5 h1 hW3).trans (by rw [← hw3]; exact Below.heap_setCell _ _ _ _ h2)
      have hbw : Below w.heap.size w w1 := Hb0.out.trans (Hb1.out.mono (by have := Hsz.out; omega))
      have hs2 : w.heap.size ≤ w1.heap.size := hbw.size
      have hk : ∀ i, i < w.heap.size → i ≠ sb → some i ≠ some g → W3.heap[i]? = w.heap[i]? := fun i hi h1 h2 => by
        rw [h5 i (by omega) h1, gA.block i (by omega) h2, hbw.block i hi]
      have hlen : (X.eraseIdx p).length = X.length - 1 := by rw [List.length_eraseIdx, if_pos hp]
      have hrow : W3.ownsRow B 76 2 (.slice (some ⟨g, 0, none⟩) (X.length - 1) ci) (X.eraseIdx p).length (ixCells (X.eraseIdx p)) := by
        rw [hlen]
        refine own_keep oA fun i hi => ?_
        have e : i = g := by injection hi with hi; exact hi.symm
        rw [e]
        exact h5 g (by have := Hglt.out; omega) Hap.out.1
      refine ⟨_, _, E, X.eraseIdx p, rfl, ans_plain _ _ _ _ _, H.out.newIx hbs hk hrow (fun x hx => H.out.fldKept hk (List.mem_of_mem_eraseIdx hx)) (H.out.ids.sublist (List.eraseIdx_sublist _ _)) (fun x hx => H.out.nums x (List.mem_of_mem_eraseIdx hx)) H.out.most, rfl, ?_, ?_, fun i hi => .inl hi, fun q hq => .inl hq⟩
      · simp [List.eraseIdx_eq_take_drop_succ]
      · refine ⟨hsame.1.trans ?_, hsame.2.1.trans ?_, hsame.2.2.1.trans ?_, ?_, fun i hi h1 _ h3 => hk i hi h1 h3⟩
        · rw [← hw3]; exact gA.os.trans hbw.os
        · rw [← hw3]; exact gA.tape.trans hbw.tape
        · rw [← hw3]; exact gA.output.trans hbw.output
        · have h6 : W3.heap.size = w2.heap.size := hsame.2.2.2.trans (by rw [← hw3]; simp [World.setCell])
          have := gA.size
          omega)
    clear oA gA bx2 hb2x hbx3 hbs
    go_wp2
    refine bodyPost_ret (v := replyV 0 false (.slice none 0 0) (.slice none 0 0) 0) ?_ rfl Hend.out
    simp [results, Tryz.results32, go_sem, replyV, p0, p1, p2, p3, p4]
  · simp only [if_neg hp]
    have Efind : Hid (findT id X = -1) := Lib.hid (by unfold findT; rw [if_neg hp])
    clear hp
    go_enter Tryz.func32, Tryz.ntmps32
    go_wp2_with fail
    refine (find_any id H0.out).mono ?_
    rintro e w5 ⟨rfl, hb5⟩
    rw [Efind.out]
    have hbx5 := Hbx.out.below hb5 Hbx.out.lt
    obtain ⟨r0, r1, r2, r3, r4, k0, k1, k2, k3, k4⟩ := box5 hbx5
    obtain ⟨W3, hW3⟩ : ∃ W3, ((((w5.setCell ⟨w.heap.size, 0, none⟩ (.int .i64 7)).setCell ⟨w.heap.size, 1, none⟩ (.bool false)).setCell ⟨w.heap.size, 2, none⟩ (.slice none 0 0)).setCell ⟨w.heap.size, 3, none⟩ (.slice none 0 0)).setCell ⟨w.heap.size, 4, none⟩ (.int .i64 0) = W3 := ⟨_, rfl⟩
    obtain ⟨p0, p1, p2, p3, p4, -⟩ := box5 (box5_store hbx5 hW3)
    have hs0 := Hsz.out
    have Hbw := Lib.hid (below5 (Hb0.out.trans (hb5.mono (by omega))) hW3)
    clear hbx5 hb5 hs0
    go_wp2
    refine bodyPost_ret (v := replyV 7 false (.slice none 0 0) (.slice none 0 0) 0) ?_ rfl (do_same H.out (ans_plain _ _ _ _ _) Hbw.out)
    simp [results, Tryz.results32, go_sem, replyV, p0, p1, p2, p3, p4]
end
end Go.Proofs.YtajombifjofmmaaGreat

namespace Go.Proofs.YtajombifjofmmaaGreat
open Go.RowKit
open Go.Lib (strCells compareBytes)

section
variable {B sb mb d : Nat} {ix : Value} {E : Kv (Value × List TVal)} {X : List Ix} {w : World}
set_option maxRecDepth 100000 in
set_option maxHeartbeats 3200000 in
theorem declare_many (h : Store w B sb mb ix E X 6) (A : Option Addr) (n c : Nat) :
    Calls Tryz.prog 31 #[.pointer (some ⟨sb, 0, none⟩), .slice A n c] w (DoPost B sb mb ix E (mapK (·.2) E) (X.map xi) 6 ⟨17, false, [], [], 0⟩ w) := by
  obtain ⟨w0, hw0⟩ : ∃ w0, w.alloc (.cells #[.int .i64 0, .bool false, .slice none 0 0, .slice none 0 0, .int .i64 0] 35) = w0 := ⟨_, rfl⟩
  have hb0 : Below w.heap.size w w0 := hw0 ▸ below_alloc _ _
  have hbx : Box w0 w.heap.size 35 #[.int .i64 0, .bool false, .slice none 0 0, .slice none 0 0, .int .i64 0] := hw0 ▸ Box.made _ _ _
  obtain ⟨q0, q1, q2, f0, f1, f2⟩ := (h.below hb0).cells
  have H := Lib.hid h
  obtain ⟨r0, r1, r2, r3, r4, k0, k1, k2, k3, k4⟩ := box5 hbx
  obtain ⟨W3, hW3⟩ : ∃ W3, ((((w0.setCell ⟨w.heap.size, 0, none⟩ (.int .i64 17)).setCell ⟨w.heap.size, 1, none⟩ (.bool false)).setCell ⟨w.heap.size, 2, none⟩ (.slice none 0 0)).setCell ⟨w.heap.size, 3, none⟩ (.slice none 0 0)).setCell ⟨w.heap.size, 4, none⟩ (.int .i64 0) = W3 := ⟨_, rfl⟩
  obtain ⟨p0, p1, p2, p3, p4, -⟩ := box5 (box5_store hbx hW3)
  have Hbw := Lib.hid (below5 hb0 hW3)
  clear hb0 hbx h
  go_enter Tryz.func31, Tryz.ntmps31
  go_wp2
  refine bodyPost_ret (v := replyV 17 false (.slice none 0 0) (.slice none 0 0) 0) ?_ rfl (do_same H.out (ans_plain _ _ _ _ _) Hbw.out)
  simp [results, Tryz.results31, go_sem, replyV, p0, p1, p2, p3, p4]
end
end Go.Proofs.YtajombifjofmmaaGreat

namespace Go.Proofs.YtajombifjofmmaaGreat
open Go.RowKit
open Go.Lib (strCells compareBytes)

/-- what Do answers to o on records M and indexes I of which n were declared, and what it leaves -/
def doT (o : TOp) (M : Kv (List TVal)) (I : List (Int × List Int)) (n : Nat) : Ans × Kv (List TVal) × List (Int × List Int) × Nat :=
  if ¬ checkT o = 0 then (⟨(checkT o : Int), false, [], [], 0⟩, M, I, n)
  else if o.k = 1 then (⟨0, (getK o.key.data.toList M).isSome, [], [], 0⟩, putK o.key.data.toList o.rc M, I, n)
  else if o.k = 2 then (⟨0, (getK o.key.data.toList M).isSome, [], [], 0⟩, delK o.key.data.toList M, I, n)
  else if o.k = 3 then (⟨0, (getK o.key.data.toList M).isSome, (getK o.key.data.toList M).getD [], [], 0⟩, M, I, n)
  else if o.k = 4 then ((casA o.key.data.toList o.old o.rc M).1, (casA o.key.data.toList o.old o.rc M).2, I, n)
  else if o.k = 5 then (scanA o.key.data.toList o.to.data.toList o.lim.toNat M, M, I, n)
  else if o.k = 6 then (queryA o.id I o.low o.high o.lim.toNat M, M, I, n)
  else if o.k = 7 then (if n = 6 then (⟨17, false, [], [], 0⟩, M, I, n) else (⟨0, false, [], [], (n : Int) + 1⟩, M, I ++ [((n : Int) + 1, o.fs)], n + 1))
  else if o.k = 8 then ((dropA o.id I).1, M, (dropA o.id I).2, n)
  else (⟨0, false, [], [], 0⟩, M, I, n)

theorem firstN_all : ∀ {l : List Nat}, firstN l = 0 → ∀ x ∈ l, x = 0
  | [], _, x, hx => by simp at hx
  | e :: l, h, x, hx => by
    unfold firstN at h
    by_cases he : e = 0
    · rw [if_pos he] at h
      rcases List.mem_cons.1 hx with rfl | hx
      · exact he
      · exact firstN_all h x hx
    · rw [if_neg he] at h
      exact absurd h he
theorem inE_ok {n lo hi : Int} (h : inE n lo hi = 0) : lo ≤ n ∧ n ≤ hi := by
  unfold inE at h
  split at h
  · cases h
  · omega
theorem keyE_ok {s : ByteArray} (h : keyE s = 0) : keyOk s.data.toList = true ∧ s.size ≤ 16 := by
  unfold keyE at h
  split at h
  · rename_i hk
    refine ⟨hk, ?_⟩
    unfold keyOk at hk
    simp only [Bool.and_eq_true, decide_eq_true_eq] at hk
    rw [Lib.size_eq]; exact hk.2
  · cases h
theorem rise_len : ∀ (X : List Ix) (a d : Int), a ≤ d → (X.Pairwise fun x y => x.num < y.num) → (∀ x ∈ X, a < x.num ∧ x.num ≤ d) → (X.length : Int) ≤ d - a
  | [], a, d, h, _, _ => by simp; omega
  | x :: l, a, d, _, hp, hx => by
    have hp' := List.pairwise_cons.1 hp
    have h1 := hx x (by simp)
    have := rise_len l x.num d h1.2 hp'.2 (fun y hy => ⟨hp'.1 y hy, (hx y (by simp [hy])).2⟩)
    simp only [List.length_cons]
    omega
section
variable {B sb mb d : Nat} {ix : Value} {E : Kv (Value × List TVal)} {X : List Ix} {w : World}
theorem Store.few (h : Store w B sb mb ix E X d) : X.length ≤ 6 := by
  have := rise_len X 0 d (by omega) h.ids (fun x hx => by have := h.nums x hx; omega)
  have := h.most
  omega
theorem do_any (h : Store w B sb mb ix E X d) (v : Value) (o : TOp) (C : Nat) (hC : C ≤ sb) (ho : OpIs w C v o) (hE : E.length ≤ 1000) :
    Calls Tryz.prog 10 #[.pointer (some ⟨sb, 0, none⟩), v] w
      (DoPost B sb mb ix E (doT o (mapK (·.2) E) (X.map xi) d).2.1 (doT o (mapK (·.2) E) (X.map xi) d).2.2.1 (doT o (mapK (·.2) E) (X.map xi) d).2.2.2 (doT o (mapK (·.2) E) (X.map xi) d).1 w) := by
  have hCw : C ≤ w.heap.size := by have := h.lt.1; omega
  have ho' := ho
  obtain ⟨rv, ov, fv, lv, hv, rfl, h1, h2, h3, h4, h5⟩ := ho
  have g1 := h1
  have g2 := h2
  have g3 := h3
  have g4 := h4
  have g5 := h5
  obtain ⟨Ar, nr, cr, rfl, -, -, -, hin⟩ := h1
  obtain ⟨Ao, no, co, rfl, -⟩ := h2
  obtain ⟨Af, nf, cf, rfl, -, -, hfh, -⟩ := h3
  obtain ⟨Al, nl, cl, rfl, -⟩ := h4
  obtain ⟨Ah, nh, ch, rfl, -⟩ := h5
  obtain ⟨k, key, to, rc, old, id, fs, low, high, lim, sp, nd⟩ := o
  unfold doT
  by_cases hz : checkT ⟨k, key, to, rc, old, id, fs, low, high, lim, sp, nd⟩ = 0
  · rw [if_neg (by simpa using hz)]
    have hall := firstN_all hz
    unfold errsT at hall
    dsimp only at hall ⊢
    by_cases k1 : k = 1
    · subst k1
      have a0 := keyE_ok (hall (keyE key) (by simp))
      have a1 := hall (recErr rc) (by simp)
      exact do_k1 h C hCw key to rc old low high id lim sp nd fs Ar Ao Af Al Ah nr cr no co nf cf nl cl nh ch ho' hz
        (fun w1 hb => put_do (h.below hb) key _ rc C (g1.belowOf hb hCw) (Nat.le_trans hCw hb.size) ⟨a1, hin⟩ a0.1 hE)
    rw [if_neg k1]
    by_cases k2 : k = 2
    · subst k2
      have a0 := keyE_ok (hall (keyE key) (by simp))
      exact do_k2 h C hCw key to rc old low high id lim sp nd fs Ar Ao Af Al Ah nr cr no co nf cf nl cl nh ch ho' hz
        (fun w1 hb => del_do (h.below hb) key (by omega))
    rw [if_neg k2]
    by_cases k3 : k = 3
    · subst k3
      have a0 := keyE_ok (hall (keyE key) (by simp))
      exact do_k3 h C hCw key to rc old low high id lim sp nd fs Ar Ao Af Al Ah nr cr no co nf cf nl cl nh ch ho' hz
        (fun w1 hb => get_do (h.below hb) key (by simp only [maxLen]; omega))
    rw [if_neg k3]
    by_cases k4 : k = 4
    · subst k4
      have a0 := keyE_ok (hall (keyE key) (by simp))
      have a1 := hall (recErr rc) (by simp)
      exact do_k4 h C hCw key to rc old low high id lim sp nd fs Ar Ao Af Al Ah nr cr no co nf cf nl cl nh ch ho' hz
        (fun w1 hb => cas_do (h.below hb) key _ _ old rc C (g2.belowOf hb hCw) (g1.belowOf hb hCw) (Nat.le_trans hCw hb.size) ⟨a1, hin⟩ a0.1 hE)
    rw [if_neg k4]
    by_cases k5 : k = 5
    · subst k5
      have a0 := inE_ok (hall (inE lim 1 64) (by simp))
      obtain ⟨m, rfl⟩ : ∃ m : Nat, lim = (m : Int) := ⟨lim.toNat, by omega⟩
      exact do_k5 h C hCw key to rc old low high id m sp nd fs Ar Ao Af Al Ah nr cr no co nf cf nl cl nh ch ho' hz
        (fun w1 hb => scan_do (h.below hb) key to m hE (by omega))
    rw [if_neg k5]
    by_cases k6 : k = 6
    · subst k6
      have a0 := inE_ok (hall (inE lim 1 64) (by simp))
      obtain ⟨m, rfl⟩ : ∃ m : Nat, lim = (m : Int) := ⟨lim.toNat, by omega⟩
      exact do_k6 h C hCw key to rc old low high id m sp nd fs Ar Ao Af Al Ah nr cr no co nf cf nl cl nh ch ho' hz
        (fun w1 hb => query_do (h.below hb) id _ _ low high m C (g4.belowOf hb hCw) (g5.belowOf hb hCw) (Nat.le_trans hCw hb.size) hE (by omega))
    rw [if_neg k6]
    by_cases k7 : k = 7
    · subst k7
      have a0 := hall (idxErr 1 fs) (by simp)
      by_cases hd : d = 6
      · subst hd
        exact do_k7 h C hCw key to rc old low high id lim sp nd fs Ar Ao Af Al Ah nr cr no co nf cf nl cl nh ch ho' hz
          (fun w1 hb => declare_many (h.below hb) _ _ _)
      · rw [if_neg hd]
        have hlt : d < 6 := by have := h.most; omega
        exact do_k7 h C hCw key to rc old low high id lim sp nd fs Ar Ao Af Al Ah nr cr no co nf cf nl cl nh ch ho' hz
          (fun w1 hb => declare_do (h.below hb) _ fs C (g3.belowOf hb hCw) (Nat.le_trans hCw hb.size) (fun a n c e => by
            injection e with e1 _ _
            subst e1
            have hpos : 0 < nf := by
              rcases Nat.eq_zero_or_pos nf with h0 | h0
              · subst h0
                have h6 : fs.length = 0 := hfh.1
                unfold idxErr at a0
                rw [if_pos (.inr h6)] at a0
                cases a0
              · exact h0
            obtain ⟨a', ea, hab, _⟩ := hfh.2.cell hpos
            injection ea with ea
            rw [ea]
            omega) a0 hlt h.few)
    rw [if_neg k7]
    by_cases k8 : k = 8
    · subst k8
      exact do_k8 h C hCw key to rc old low high id lim sp nd fs Ar Ao Af Al Ah nr cr no co nf cf nl cl nh ch ho' hz
        (fun w1 hb => drop_do (h.below hb) id h.few)
    rw [if_neg k8]
    have hk : 8 < k := by
      rcases Int.lt_or_le 8 k with hk | hk
      · exact hk
      · exfalso
        have := hall 1 (by
          rw [if_neg k1, if_neg (by omega), if_neg k4, if_neg k5, if_neg k6, if_neg k7, if_neg k8, if_neg (by omega), if_neg (by omega), if_neg (by omega)]
          simp)
        cases this
    exact do_other h C hCw k key to rc old low high id lim sp nd fs Ar Ao Af Al Ah nr cr no co nf cf nl cl nh ch ho' hz hk
  · rw [if_pos hz]
    exact do_err h C hCw k key to rc old low high id lim sp nd fs Ar Ao Af Al Ah nr cr no co nf cf nl cl nh ch ho' hz
end
end Go.Proofs.YtajombifjofmmaaGreat

namespace Go.Proofs.YtajombifjofmmaaGreat
open Go.RowKit
open Go.Lib (strCells compareBytes)

/-- operation i of a row: its cells -/
theorem ops_at {w : World} {B n : Nat} {A : Option Addr} {l : List TOp} (h : HasOps w B A n l) {i : Nat} (hi : i < n) : ∃ (a : Addr) (o : TOp) (rv ov fv lv hv : Value), A = some a ∧ a.block < B ∧ l[i]? = some o ∧ OpIs w B (.agg (opCells o rv ov fv lv hv)) o ∧
    w.cell? (a.add (i * 12)) = some (.int .i64 o.k) ∧ w.cell? ⟨(a.add (i * 12)).block, (a.add (i * 12)).off + 1, none⟩ = some (.string o.key) ∧ w.cell? ⟨(a.add (i * 12)).block, (a.add (i * 12)).off + 2, none⟩ = some (.string o.to) ∧
    w.cell? ⟨(a.add (i * 12)).block, (a.add (i * 12)).off + 3, none⟩ = some rv ∧ w.cell? ⟨(a.add (i * 12)).block, (a.add (i * 12)).off + 4, none⟩ = some ov ∧ w.cell? ⟨(a.add (i * 12)).block, (a.add (i * 12)).off + 5, none⟩ = some (.int .i64 o.id) ∧
    w.cell? ⟨(a.add (i * 12)).block, (a.add (i * 12)).off + 6, none⟩ = some fv ∧ w.cell? ⟨(a.add (i * 12)).block, (a.add (i * 12)).off + 7, none⟩ = some lv ∧ w.cell? ⟨(a.add (i * 12)).block, (a.add (i * 12)).off + 8, none⟩ = some hv ∧
    w.cell? ⟨(a.add (i * 12)).block, (a.add (i * 12)).off + 9, none⟩ = some (.int .i64 o.lim) ∧ w.cell? ⟨(a.add (i * 12)).block, (a.add (i * 12)).off + 10, none⟩ = some (.int .i64 o.sp) ∧ w.cell? ⟨(a.add (i * 12)).block, (a.add (i * 12)).off + 11, none⟩ = some (.int .i64 o.nd) := by
  have hil : i < l.length := by have := h.1; omega
  obtain ⟨a, cs, rfl, hab, h12, hc, ho⟩ := h.2 i l[i] (List.getElem?_eq_getElem hil)
  obtain ⟨rv, ov, fv, lv, hv, e, hr⟩ := ho
  injection e with e
  subst e
  have hs : ∀ k, 0 < k → (a.add (i * 12)).add k = ⟨(a.add (i * 12)).block, (a.add (i * 12)).off + k, none⟩ := fun k hk => by rw [addr_add, addr_step a (i * 12) k hk]
  refine ⟨a, l[i], rv, ov, fv, lv, hv, rfl, hab, List.getElem?_eq_getElem hil, ⟨rv, ov, fv, lv, hv, rfl, hr⟩, ?_, ?_, ?_, ?_, ?_, ?_, ?_, ?_, ?_, ?_, ?_, ?_⟩
  · have h0 := hc 0 _ rfl; rw [addr_add, Nat.add_zero] at h0; exact h0
  · rw [← hs 1 (by omega)]; exact hc 1 _ rfl
  · rw [← hs 2 (by omega)]; exact hc 2 _ rfl
  · rw [← hs 3 (by omega)]; exact hc 3 _ rfl
  · rw [← hs 4 (by omega)]; exact hc 4 _ rfl
  · rw [← hs 5 (by omega)]; exact hc 5 _ rfl
  · rw [← hs 6 (by omega)]; exact hc 6 _ rfl
  · rw [← hs 7 (by omega)]; exact hc 7 _ rfl
  · rw [← hs 8 (by omega)]; exact hc 8 _ rfl
  · rw [← hs 9 (by omega)]; exact hc 9 _ rfl
  · rw [← hs 10 (by omega)]; exact hc 10 _ rfl
  · rw [← hs 11 (by omega)]; exact hc 11 _ rfl
set_option maxRecDepth 100000 in
set_option maxHeartbeats 3200000 in
theorem allLight_any (v : Value) (l : List TOp) (C most : Nat) (w : World) (hC : C ≤ w.heap.size) (ho : IsOps w C v l) (hsh : ∀ o ∈ l, OpShort o) (hm : most ≤ 1000) :
    Calls Tryz.prog 6 #[v, .int .i64 (most : Int)] w fun e w' => ∃ b : Bool, e = .returned (.bool b) ∧ Below w.heap.size w w' ∧ (b = true → l.length ≤ most) := by
  obtain ⟨A, n, c, rfl, h1, h2, h3⟩ := ho
  have Hl : Hid (l.length = n) := Lib.hid h3.1
  have H := Lib.hid h3
  have HC := Lib.hid hC
  have Hsh := Lib.hid hsh
  clear h3 hsh
  unfold maxLen at h2
  by_cases hn : n ≤ most
  · have hdn : decide (most < n) = false := decide_eq_false (by omega)
    go_enter Tryz.func6, Tryz.ntmps6
    go_wp2
    go_loopw [4, 5] (fun _ i wr => ∃ k : Nat, k ≤ n ∧ i = .int .i64 (k : Int) ∧ Below w.heap.size w wr) (fun _ i _ => n - (intOf i).toNat)
    case atStart => exact ⟨0, by omega, rfl, Below.refl _ _⟩
    case round =>
      obtain ⟨k, hk, rfl, hb⟩ := hrel
      have Hb := Lib.hid hb
      by_cases hlt : k < n
      · obtain ⟨a, o, rv, ov, fv, lv, hv, rfl, hab, hol, hop, d0, d1, d2, d3, d4, d5, d6, d7, d8, d9, d10, d11⟩ := ops_at (H.out.belowOf hb hC) hlt
        have Hcall := Lib.hid (lightOp_any _ o C wr (Nat.le_trans hC hb.size) hop (Hsh.out o (List.mem_of_getElem? hol)))
        unfold opCells at Hcall
        have hk0 : (0 : Int) ≤ (k : Int) := by omega
        have hk1 : (k : Int) < (n : Int) := by omega
        clear hop hb hol
        go_wp2_with fail
        refine Hcall.out.mono ?_
        rintro e w2 ⟨b, rfl, hb2⟩
        have Hb2 := Lib.hid (Below.then Hb.out hb2)
        clear hb2
        cases b with
        | false =>
          go_wp2
          go_ret
          exact ⟨false, rfl, Hb2.out, by simp⟩
        | true =>
          go_wp2
          go_roundw
          case rel => exact ⟨k + 1, by omega, by go_num, Hb2.out⟩
          case measure => simp [intOf]; omega
      · go_wp2
        go_ret
        exact ⟨true, rfl, Hb.out, fun _ => by rw [Hl.out]; exact hn⟩
  · go_enter Tryz.func6, Tryz.ntmps6
    go_wp2
    go_ret
    exact ⟨false, rfl, Below.refl _ _, by simp⟩
end Go.Proofs.YtajombifjofmmaaGreat

namespace Go.Proofs.YtajombifjofmmaaGreat
open Go.RowKit
open Go.Lib (strCells compareBytes)

abbrev PSt := Kv (List TVal) × List (Int × List Int) × Nat
def stepT (S : PSt) (o : TOp) : PSt := (doT o S.1 S.2.1 S.2.2).2
def runT (l : List TOp) : PSt := l.foldl stepT ([], [], 0)
theorem runT_snoc (l : List TOp) (o : TOp) : runT (l ++ [o]) = stepT (runT l) o := by simp [runT]
theorem putK_len {α : Type} (k : List UInt8) (a : α) : ∀ (l : Kv α), (putK k a l).length ≤ l.length + 1
  | [] => by simp [putK]
  | p :: l => by
    have := putK_len k a l
    unfold putK
    repeat' split
    all_goals simp
    all_goals omega
theorem delK_len {α : Type} (k : List UInt8) : ∀ (l : Kv α), (delK k l).length ≤ l.length
  | [] => by simp [delK]
  | p :: l => by
    have := delK_len k l
    unfold delK
    repeat' split
    all_goals simp
    all_goals omega
theorem stepT_len (S : PSt) (o : TOp) : (stepT S o).1.length ≤ S.1.length + 1 := by
  unfold stepT doT casA
  repeat' split
  all_goals first | exact putK_len _ _ _ | exact Nat.le_succ_of_le (delK_len _ _) | simp
theorem mapK_len {α β : Type} (f : α → β) (E : Kv α) : (mapK f E).length = E.length := by simp [mapK]
section
variable {B sb mb d : Nat} {ix : Value} {E : Kv (Value × List TVal)} {X : List Ix} {w w' : World}
/-- what only the store owns lies at B or above -/
theorem Store.kept (h : Store w B sb mb ix E X d) (k : Kept3 sb mb ix w w') (hB : B ≤ w.heap.size) : Below B w w' :=
  ⟨k.os, k.tape, k.output, k.size, fun i hi => k.block i (by omega) (fun e => by have := h.sB; omega) (fun e => by have := h.mB; omega) (fun e => by have := (h.irow.lt i e.symm).1; omega)⟩
/-- the store stands as the state says -/
def Stands (w : World) (B sb mb : Nat) (S : PSt) : Prop := ∃ ix E X, Store w B sb mb ix E X S.2.2 ∧ mapK (·.2) E = S.1 ∧ X.map xi = S.2.1
theorem Stands.below {S : PSt} (h : Stands w B sb mb S) (hb : Below w.heap.size w w') : Stands w' B sb mb S := by
  obtain ⟨ix, E, X, h1, h2, h3⟩ := h
  exact ⟨ix, E, X, h1.below hb, h2, h3⟩
/-- Do, from a state to the next -/
theorem step_any {S : PSt} (h : Stands w B sb mb S) (v : Value) (o : TOp) (C : Nat) (hC : C ≤ sb) (ho : OpIs w C v o) (hl : S.1.length ≤ 1000) :
    Calls Tryz.prog 10 #[.pointer (some ⟨sb, 0, none⟩), v] w fun e w' => ∃ u, e = .returned u ∧ AnsIs w' w.heap.size u (doT o S.1 S.2.1 S.2.2).1 ∧ Stands w' B sb mb (stepT S o) ∧ Below B w w' := by
  obtain ⟨ix, E, X, h1, h2, h3⟩ := h
  have hE : E.length ≤ 1000 := by rw [← h2, mapK_len] at hl; exact hl
  have hd := do_any h1 v o C hC ho hE
  rw [h2, h3] at hd
  refine hd.mono ?_
  rintro e w' ⟨u, ix', E', X', rfl, ha, hs, hM, hI, hk, -, -⟩
  exact ⟨u, rfl, ha, ⟨ix', E', X', hs, hM, hI⟩, h1.kept hk (by have := h1.lt.1; have := h1.sB; omega)⟩
end
end Go.Proofs.YtajombifjofmmaaGreat

namespace Go.Proofs.YtajombifjofmmaaGreat
open Go.RowKit
open Go.Lib (strCells compareBytes)

set_option maxRecDepth 100000 in
set_option maxHeartbeats 1600000 in
theorem same_any (A A' : Option Addr) (n n' c c' C C' : Nat) (l m : List TVal) (w : World) (h : HasVals w C A n l) (h' : HasVals w C' A' n' m) (hn : n ≤ maxLen) (hn' : n' ≤ maxLen) :
    Calls Tryz.prog 23 #[.slice A n c, .slice A' n' c'] w fun e w' => e = .returned (.bool (decide (l = m))) ∧ Below w.heap.size w w' := by
  unfold maxLen at hn hn'
  have H := Lib.hid h
  have H' := Lib.hid h'
  have Hl := Lib.hid h.1
  have Hm := Lib.hid h'.1
  clear h h'
  by_cases hnn : n = n'
  · subst hnn
    go_enter Tryz.func23, Tryz.ntmps23
    go_wp2
    go_loopw [5] (fun i wr => ∃ k : Nat, k ≤ n ∧ i = .int .i64 (k : Int) ∧ Hid (l.take k = m.take k) ∧ ∃ q, wr = w.drewN q) (fun i _ => n - (intOf i).toNat)
    case atStart => exact ⟨0, by omega, rfl, Lib.hid rfl, 0, rfl⟩
    case round =>
      obtain ⟨k, hk, rfl, Ht, q, rfl⟩ := hrel
      by_cases hlt : k < n
      · obtain ⟨a, v, rfl, _, hv, c0, c1, c2⟩ := H.out.at_ hlt
        obtain ⟨b, u, rfl, _, hu, d0, d1, d2⟩ := H'.out.at_ hlt
        have hk0 : (0 : Int) ≤ (k : Int) := by omega
        have hk1 : (k : Int) < (n : Int) := by omega
        have Hv := Lib.hid hv
        have Hu := Lib.hid hu
        clear hv hu
        by_cases e : v = u
        · subst e
          go_wp2
          go_quiet (fail)
          go_wp2
          go_roundw
          case rel => exact ⟨k + 1, by omega, by go_num, Lib.hid (by rw [List.take_add_one, List.take_add_one, Ht.out, Hv.out, Hu.out]), _, rfl⟩
          case measure => simp [intOf]; omega
        · have E : Hid (decide (l = m) = false) := Lib.hid (decide_eq_false fun e' => by
            rw [e', Hu.out] at Hv
            exact e (Option.some.inj Hv.out).symm)
          obtain ⟨vk, vn, vs⟩ := v
          obtain ⟨uk, un, us⟩ := u
          have hx : (vk ≠ uk) ∨ (vk = uk ∧ vn ≠ un) ∨ (vk = uk ∧ vn = un ∧ vs ≠ us) := by
            by_cases h1 : vk = uk
            · by_cases h2 : vn = un
              · exact .inr (.inr ⟨h1, h2, fun h3 => e (by rw [h1, h2, h3])⟩)
              · exact .inr (.inl ⟨h1, h2⟩)
            · exact .inl h1
          simp only at c0 c1 c2 d0 d1 d2
          clear e
          rcases hx with hx | ⟨rfl, hx⟩ | ⟨rfl, rfl, hx⟩
          · have hb : (vk == uk) = false := by simpa using hx
            clear hx
            go_wp2
            go_quiet (fail)
            go_wp2
            go_ret
            exact ⟨ret_bool (by rw [E.out]), below_drews (below_drews (Below.refl _ _) _) _⟩
          · have hb : (vn == un) = false := by simpa using hx
            clear hx
            go_wp2
            go_quiet (fail)
            go_wp2
            go_ret
            exact ⟨ret_bool (by rw [E.out]), below_drews (below_drews (Below.refl _ _) _) _⟩
          · have hb2 : (vs.toList == us.toList) = false := by rw [eq_toList]; exact decide_eq_false fun e => hx (bytes_ext e)
            go_wp2
            go_quiet (fail)
            go_wp2
            go_ret
            exact ⟨ret_bool (by rw [E.out]), below_drews (below_drews (Below.refl _ _) _) _⟩
      · have E : Hid (decide (l = m) = true) := Lib.hid (decide_eq_true (by
          have h1 := Ht.out
          rwa [List.take_of_length_le (by have := Hl.out; omega), List.take_of_length_le (by have := Hm.out; omega)] at h1))
        go_wp2
        go_ret
        exact ⟨ret_bool (by rw [E.out]), below_drews (Below.refl _ _) _⟩
  · have E : Hid (decide (l = m) = false) := Lib.hid (decide_eq_false fun e => hnn (by rw [← Hl.out, ← Hm.out, e]))
    have hb : ((n : Int) != (n' : Int)) = true := by simp; omega
    clear hnn
    go_enter Tryz.func23, Tryz.ntmps23
    go_wp2
    go_ret
    exact ⟨ret_bool (by rw [E.out]), Below.refl _ _⟩
end Go.Proofs.YtajombifjofmmaaGreat

namespace Go.Proofs.YtajombifjofmmaaGreat
open Go.RowKit
open Go.Lib (strCells compareBytes)

def HasRows (w : World) (B : Nat) (A : Option Addr) (n : Nat) (rs : Kv (Value × List TVal)) : Prop :=
  rs.length = n ∧ Has w B A (n * 2) (rowCells rs) ∧ ∀ r ∈ rs, ∃ A' m c, r.2.1 = .slice A' m c ∧ m ≤ maxLen ∧ HasVals w B A' m r.2.2
theorem HasRows.belowOf {w w' : World} {B C n : Nat} {A : Option Addr} {rs : Kv (Value × List TVal)} (h : HasRows w B A n rs) (hb : Below C w w') (hC : B ≤ C) : HasRows w' B A n rs :=
  ⟨h.1, h.2.1.belowOf hb hC, fun r hr => by
    obtain ⟨A', m, c, e, h1, h2⟩ := h.2.2 r hr
    exact ⟨A', m, c, e, h1, h2.belowOf hb hC⟩⟩
/-- row i: its key and its record -/
theorem row_at {w : World} {B n : Nat} {A : Option Addr} {rs : Kv (Value × List TVal)} (h : HasRows w B A n rs) {i : Nat} (hi : i < n) : ∃ (a : Addr) (s : ByteArray) (A' : Option Addr) (m c : Nat) (r : List TVal) (x : List UInt8 × Value × List TVal), A = some a ∧ a.block < B ∧ rs[i]? = some x ∧ x.1 = s.data.toList ∧ x.2.2 = r ∧ m ≤ maxLen ∧ HasVals w B A' m r ∧
    w.cell? (a.add (i * 2)) = some (.string s) ∧ w.cell? ⟨(a.add (i * 2)).block, (a.add (i * 2)).off + 1, none⟩ = some (.slice A' m c) := by
  have hil : i < rs.length := by have := h.1; omega
  obtain ⟨A', m, c, e, h1, h2⟩ := h.2.2 rs[i] (List.getElem_mem hil)
  obtain ⟨c0, c1⟩ := rowCells_at rs i rs[i] (List.getElem?_eq_getElem hil)
  obtain ⟨a, rfl, hb, hc⟩ := h.2.1.all (by omega)
  refine ⟨a, ⟨rs[i].1.toArray⟩, A', m, c, _, rs[i], rfl, hb, List.getElem?_eq_getElem hil, by simp, rfl, h1, h2, hc _ _ c0, ?_⟩
  rw [← addr_step a _ 1 (by omega), ← e]
  exact hc _ _ c1
theorem mapK_at {α β : Type} {f : α → β} {l : Kv α} {i : Nat} {x : List UInt8 × α} (h : l[i]? = some x) : (mapK f l)[i]? = some (x.1, f x.2) := by simp [mapK, h]
theorem mapK_take {α β : Type} (f : α → β) (l : Kv α) (i : Nat) : mapK f (l.take i) = (mapK f l).take i := by simp [mapK, List.map_take]
set_option maxRecDepth 100000 in
set_option maxHeartbeats 1600000 in
theorem sameRows_any (A A' : Option Addr) (n n' c c' C C' : Nat) (rs rs' : Kv (Value × List TVal)) (w : World) (h : HasRows w C A n rs) (h' : HasRows w C' A' n' rs') (hC : C ≤ w.heap.size) (hC' : C' ≤ w.heap.size) (hn : n ≤ 1000) :
    Calls Tryz.prog 15 #[.slice A n c, .slice A' n' c'] w fun e w' => e = .returned (.bool (decide (mapK (·.2) rs = mapK (·.2) rs'))) ∧ Below w.heap.size w w' := by
  have H := Lib.hid h
  have H' := Lib.hid h'
  have Hl := Lib.hid h.1
  have Hm := Lib.hid h'.1
  have HC := Lib.hid hC
  have HC' := Lib.hid hC'
  clear h h'
  by_cases hnn : n = n'
  · subst hnn
    have hnb : ((n : Int) != (n : Int)) = false := by simp
    go_enter Tryz.func15, Tryz.ntmps15
    go_wp2
    go_loopw [4, 5] (fun _ i wr => ∃ k : Nat, k ≤ n ∧ i = .int .i64 (k : Int) ∧ Hid ((mapK (·.2) rs).take k = (mapK (·.2) rs').take k) ∧ Below w.heap.size w wr) (fun _ i _ => n - (intOf i).toNat)
    case atStart => exact ⟨0, by omega, rfl, Lib.hid rfl, Below.refl _ _⟩
    case round =>
      obtain ⟨k, hk, rfl, Ht, hb⟩ := hrel
      have Hb := Lib.hid hb
      clear hb
      by_cases hlt : k < n
      · obtain ⟨a, s, A1, m1, c1, r1, x1, rfl, hab, hx1, hs1, hr1, hm1, hv1, d0, d1⟩ := row_at (H.out.belowOf Hb.out HC.out) hlt
        obtain ⟨b, t, A2, m2, c2, r2, x2, rfl, hab', hx2, hs2, hr2, hm2, hv2, e0, e1⟩ := row_at (H'.out.belowOf Hb.out HC'.out) hlt
        have Hsame := Lib.hid (fun wx (hw : Below wr.heap.size wr wx) => same_any A1 A2 m1 m2 c1 c2 _ _ r1 r2 wx (hv1.belowOf hw (Nat.le_trans HC.out Hb.out.size)) (hv2.belowOf hw (Nat.le_trans HC'.out Hb.out.size)) hm1 hm2)
        have Hg1 := Lib.hid (mapK_at (f := fun p : Value × List TVal => p.2) hx1)
        have Hg2 := Lib.hid (mapK_at (f := fun p : Value × List TVal => p.2) hx2)
        rw [hs1, hr1] at Hg1
        rw [hs2, hr2] at Hg2
        have hk0 : (0 : Int) ≤ (k : Int) := by omega
        have hk1 : (k : Int) < (n : Int) := by omega
        clear hx1 hx2 hs1 hs2 hr1 hr2 hv1 hv2
        by_cases es : s.data.toList = t.data.toList
        · have hb1 : (s.toList == t.toList) = true := by rw [eq_toList]; exact decide_eq_true es
          have Hes := Lib.hid es
          clear es
          by_cases er : r1 = r2
          · have Ht2 : Hid ((mapK (fun p : Value × List TVal => p.2) rs).take (k + 1) = (mapK (fun p : Value × List TVal => p.2) rs').take (k + 1)) := Lib.hid (by
              rw [List.take_add_one, List.take_add_one, Ht.out, Hg1.out, Hg2.out, Hes.out, er])
            rw [decide_eq_true er] at Hsame
            clear er
            go_wp2
            go_region_held3 (fun wx => wx.cell? (a.add (k * 2)) = some (.string s) ∧ wx.cell? ⟨(a.add (k * 2)).block, (a.add (k * 2)).off + 1, none⟩ = some (.slice A1 m1 c1) ∧ wx.cell? (b.add (k * 2)) = some (.string t) ∧ wx.cell? ⟨(b.add (k * 2)).block, (b.add (k * 2)).off + 1, none⟩ = some (.slice A2 m2 c2))
              (first | assumption | exact ⟨d0, d1, e0, e1⟩ | exact ⟨keepcell (Below.then (below_drew _) hb2) d0, keepcell (Below.then (below_drew _) hb2) d1, keepcell (Below.then (below_drew _) hb2) e0, keepcell (Below.then (below_drew _) hb2) e1⟩)
              (first | (go_at_call 23; refine (Hsame.out _ (below_drew _)).mono ?_; rintro e w2 ⟨rfl, hb2⟩))
            all_goals
              have Hb2 := Lib.hid (Hb.out.trans ((Below.then (below_drew _) hb2).mono Hb.out.size))
              clear hb2
              go_wp2
              go_roundw
              case rel => exact ⟨k + 1, by omega, by go_num, Ht2, Hb2.out⟩
              case measure => simp [intOf]; omega
          · have E : Hid (decide (mapK (fun p : Value × List TVal => p.2) rs = mapK (fun p : Value × List TVal => p.2) rs') = false) := Lib.hid (decide_eq_false fun e' => by
              have h1 := Hg1.out
              rw [e', Hg2.out] at h1
              injection h1 with h1
              injection h1 with _ h1
              exact er h1.symm)
            rw [decide_eq_false er] at Hsame
            clear er
            go_wp2
            go_region_held3 (fun wx => wx.cell? (a.add (k * 2)) = some (.string s) ∧ wx.cell? ⟨(a.add (k * 2)).block, (a.add (k * 2)).off + 1, none⟩ = some (.slice A1 m1 c1) ∧ wx.cell? (b.add (k * 2)) = some (.string t) ∧ wx.cell? ⟨(b.add (k * 2)).block, (b.add (k * 2)).off + 1, none⟩ = some (.slice A2 m2 c2))
              (first | assumption | exact ⟨d0, d1, e0, e1⟩ | exact ⟨keepcell (Below.then (below_drew _) hb2) d0, keepcell (Below.then (below_drew _) hb2) d1, keepcell (Below.then (below_drew _) hb2) e0, keepcell (Below.then (below_drew _) hb2) e1⟩)
              (first | (go_at_call 23; refine (Hsame.out _ (below_drew _)).mono ?_; rintro e w2 ⟨rfl, hb2⟩))
            all_goals
              have Hb2 := Lib.hid (Hb.out.trans ((Below.then (below_drew _) hb2).mono Hb.out.size))
              clear hb2
              go_wp2
              go_ret
              exact ⟨ret_bool (by rw [E.out]), Hb2.out⟩
        · have hb1 : (s.toList == t.toList) = false := by rw [eq_toList]; exact decide_eq_false es
          have E : Hid (decide (mapK (fun p : Value × List TVal => p.2) rs = mapK (fun p : Value × List TVal => p.2) rs') = false) := Lib.hid (decide_eq_false fun e' => by
            have h1 := Hg1.out
            rw [e', Hg2.out] at h1
            injection h1 with h1
            injection h1 with h1 _
            exact es h1.symm)
          clear es
          go_wp2
          go_quiet (fail)
          go_wp2
          go_ret
          exact ⟨ret_bool (by rw [E.out]), below_drews Hb.out _⟩
      · have E : Hid (decide (mapK (fun p : Value × List TVal => p.2) rs = mapK (fun p : Value × List TVal => p.2) rs') = true) := Lib.hid (decide_eq_true (by
          have h1 := Ht.out
          rwa [List.take_of_length_le (by rw [mapK_len]; have := Hl.out; omega), List.take_of_length_le (by rw [mapK_len]; have := Hm.out; omega)] at h1))
        go_wp2
        go_ret
        exact ⟨ret_bool (by rw [E.out]), Hb.out⟩
  · have E : Hid (decide (mapK (fun p : Value × List TVal => p.2) rs = mapK (fun p : Value × List TVal => p.2) rs') = false) := Lib.hid (decide_eq_false fun e => hnn (by
      have h1 := congrArg List.length e
      rw [mapK_len, mapK_len] at h1
      rw [← Hl.out, ← Hm.out, h1]))
    have hb : ((n : Int) != (n' : Int)) = true := by simp; omega
    clear hnn
    go_enter Tryz.func15, Tryz.ntmps15
    go_wp2
    go_ret
    exact ⟨ret_bool (by rw [E.out]), Below.refl _ _⟩
end Go.Proofs.YtajombifjofmmaaGreat

namespace Go.Proofs.YtajombifjofmmaaGreat
open Go.RowKit
open Go.Lib (strCells compareBytes)

def getOp (key : ByteArray) : TOp := ⟨3, key, ⟨#[]⟩, [], [], 0, [], [], [], 0, 0, 0⟩
def casOp (key : ByteArray) (old rc : List TVal) : TOp := ⟨4, key, ⟨#[]⟩, rc, old, 0, [], [], [], 0, 0, 0⟩
theorem keyE_two (s : ByteArray) : keyE s = 0 ∨ keyE s = 1 := by unfold keyE; split <;> simp
theorem recErr_few (l : List TVal) : recErr l = 0 ∨ recErr l = 1 ∨ recErr l = 4 := by
  unfold recErr rowErr
  repeat' split
  all_goals simp
theorem check_get (key : ByteArray) : checkT (getOp key) = keyE key := by
  unfold checkT errsT getOp
  rcases keyE_two key with h | h <;> simp [h, firstN]
theorem check_cas (key : ByteArray) (old rc : List TVal) : (checkT (casOp key old rc) = 0 ∨ checkT (casOp key old rc) = 1 ∨ checkT (casOp key old rc) = 4) ∧ (checkT (casOp key old rc) = 0 → keyE key = 0 ∧ recErr rc = 0) ∧ (keyE key = 1 → checkT (casOp key old rc) = 1) := by
  unfold checkT errsT casOp oldE
  rcases keyE_two key with h | h <;> rcases recErr_few rc with h1 | h1 | h1 <;> rcases recErr_few old with h2 | h2 | h2 <;> by_cases h3 : old.length = 0 <;> simp [h, h1, h2, h3, firstN]
theorem do_get (key : ByteArray) (S : PSt) : (keyE key = 1 → doT (getOp key) S.1 S.2.1 S.2.2 = (⟨1, false, [], [], 0⟩, S)) ∧
    (keyE key = 0 → doT (getOp key) S.1 S.2.1 S.2.2 = (⟨0, (getK key.data.toList S.1).isSome, (getK key.data.toList S.1).getD [], [], 0⟩, S)) := by
  refine ⟨fun h => ?_, fun h => ?_⟩
  · unfold doT
    rw [if_pos (by rw [check_get, h]; simp), check_get, h]
    rfl
  · unfold doT
    rw [if_neg (by rw [check_get, h]; simp), if_neg (by simp [getOp]), if_neg (by simp [getOp]), if_pos (by simp [getOp])]
    rfl
theorem do_cas_err (key : ByteArray) (old rc : List TVal) (S : PSt) (h : checkT (casOp key old rc) ≠ 0) : doT (casOp key old rc) S.1 S.2.1 S.2.2 = (⟨(checkT (casOp key old rc) : Int), false, [], [], 0⟩, S) := by
  unfold doT
  rw [if_pos h]
theorem do_cas_ok (key : ByteArray) (old rc : List TVal) (S : PSt) (h : checkT (casOp key old rc) = 0) : doT (casOp key old rc) S.1 S.2.1 S.2.2 = ((casA key.data.toList old rc S.1).1, (casA key.data.toList old rc S.1).2, S.2) := by
  unfold doT
  rw [if_neg (by rw [h]; simp), if_neg (by simp [casOp]), if_neg (by simp [casOp]), if_neg (by simp [casOp]), if_pos (by simp [casOp])]
  rfl
theorem getK_putK {α : Type} (k : List UInt8) (a : α) : ∀ (M : Kv α), getK k (putK k a M) = some a
  | [] => by simp [putK, getK]
  | y :: l => by
    unfold putK
    split
    · simp [getK]
    · split
      · simp [getK]
      · rename_i h
        unfold getK
        rw [if_neg h]
        exact getK_putK k a l

theorem cas_plain (S : PSt) (key : ByteArray) (old one two : List TVal) (was a now b : Ans) (hw : (doT (getOp key) S.1 S.2.1 S.2.2).1 = was) (ha : (doT (casOp key old one) S.1 S.2.1 S.2.2).1 = a)
    (hn : (doT (getOp key) (stepT S (casOp key old one)).1 (stepT S (casOp key old one)).2.1 (stepT S (casOp key old one)).2.2).1 = now)
    (hb : (doT (casOp key old two) (stepT S (casOp key old one)).1 (stepT S (casOp key old one)).2.1 (stepT S (casOp key old one)).2.2).1 = b) :
    (a.code ≠ 0 ∧ a.code ≠ 9 ∧ was = now) ∨ (a.code = 9 ∧ was.rc ≠ old ∧ a.rc = was.rc ∧ now.rc = was.rc) ∨
    (a.code = 0 ∧ was.rc = old ∧ a.there = was.there ∧ now.rc = one ∧ ((b.code = 9 ∧ b.rc = one) ∨ (b.code = 0 ∧ one = old) ∨ (b.code ≠ 9 ∧ b.code ≠ 0 ∧ b.code = (checkT (casOp key old two) : Int)))) := by
  obtain ⟨c1, c2, c3⟩ := check_cas key old one
  by_cases he : checkT (casOp key old one) = 0
  · have hk := (c2 he).1
    have hS : stepT S (casOp key old one) = ((casA key.data.toList old one S.1).2, S.2) := by unfold stepT; rw [do_cas_ok key old one S he]
    rw [hS] at hn hb
    rw [do_cas_ok key old one S he] at ha
    rw [(do_get key S).2 hk] at hw
    have hn2 := (do_get key ((casA key.data.toList old one S.1).2, S.2)).2 hk
    dsimp only at hn hn2 hb
    rw [hn2] at hn
    dsimp only at hn hw ha
    subst hn hw ha
    by_cases hm : (getK key.data.toList S.1).getD [] = old
    · have e1 : casA key.data.toList old one S.1 = (⟨0, (getK key.data.toList S.1).isSome, [], [], 0⟩, putK key.data.toList one S.1) := by unfold casA; rw [if_pos hm]
      refine .inr (.inr ⟨by rw [e1], hm, by rw [e1], by rw [e1]; simp [getK_putK], ?_⟩)
      rw [e1] at hb
      dsimp only at hb
      by_cases hf : checkT (casOp key old two) = 0
      · have hb2 := do_cas_ok key old two (putK key.data.toList one S.1, S.2) hf
        dsimp only at hb2
        rw [hb2] at hb
        subst hb
        unfold casA
        rw [getK_putK]
        by_cases ho : one = old
        · right; left
          simp [ho]
        · left
          simp [ho]
      · have hb2 := do_cas_err key old two (putK key.data.toList one S.1, S.2) hf
        dsimp only at hb2
        rw [hb2] at hb
        subst hb
        right; right
        have := (check_cas key old two).1
        dsimp only
        omega
    · have e1 : casA key.data.toList old one S.1 = (⟨9, (getK key.data.toList S.1).isSome, (getK key.data.toList S.1).getD [], [], 0⟩, S.1) := by unfold casA; rw [if_neg hm]
      exact .inr (.inl ⟨by rw [e1], hm, by rw [e1], by rw [e1]⟩)
  · have hS : stepT S (casOp key old one) = S := by unfold stepT; rw [do_cas_err key old one S he]
    rw [hS, hw] at hn
    rw [do_cas_err key old one S he] at ha
    subst ha
    left
    dsimp only
    exact ⟨by omega, by omega, hn⟩
theorem cas_codes (S : PSt) (key : ByteArray) (r : Ans) (h : (doT (getOp key) S.1 S.2.1 S.2.2).1 = r) : r.rows = [] ∧ r.num = 0 ∧ (r.code = 0 ∨ r.code = 1) := by
  rcases keyE_two key with hk | hk
  · rw [(do_get key S).2 hk] at h
    subst h
    exact ⟨rfl, rfl, .inl rfl⟩
  · rw [(do_get key S).1 hk] at h
    subst h
    exact ⟨rfl, rfl, .inr rfl⟩
theorem step_get (S : PSt) (key : ByteArray) : stepT S (getOp key) = S := by
  unfold stepT
  rcases keyE_two key with hk | hk
  · rw [(do_get key S).2 hk]
  · rw [(do_get key S).1 hk]
end Go.Proofs.YtajombifjofmmaaGreat

namespace Go.Proofs.YtajombifjofmmaaGreat
open Go.RowKit
open Go.Lib (strCells compareBytes)

theorem ans_iff (a b : Ans) : (a.code = b.code ∧ a.there = b.there ∧ a.num = b.num ∧ a.rc = b.rc ∧ a.rows = b.rows) ↔ a = b :=
  ⟨fun ⟨h1, h2, h3, h4, h5⟩ => by cases a; cases b; simp_all, fun h => by subst h; simp⟩
instance : DecidableEq Ans := fun a b => decidable_of_iff _ (ans_iff a b)
theorem ownRows_has {w : World} {base : Nat} {v : Value} {L : Kv (List TVal)} (h : RowsIs w base v L) : ∃ (A : Option Addr) (c : Nat) (rs : Kv (Value × List TVal)), v = .slice A L.length c ∧ L.length ≤ c ∧ c ≤ maxLen ∧ HasRows w w.heap.size A L.length rs ∧ mapK (·.2) rs = L := by
  obtain ⟨rs, ⟨h1, h2⟩, rfl⟩ := h
  obtain ⟨A, c, rfl, h3, h4, h5⟩ := own_sliceN h1
  have hl : (mapK (fun p : Value × List TVal => p.2) rs).length = rs.length := mapK_len _ _
  refine ⟨A, c, rs, by rw [hl], by rw [hl]; exact h3, h4, ⟨by rw [hl], by rw [hl]; exact h5, fun r hr => ?_⟩, rfl⟩
  obtain ⟨A', c', e, g1, g2, g3⟩ := own_sliceN (h2 r hr)
  exact ⟨A', _, c', e, Nat.le_trans g1 g2, rfl, g3⟩

set_option maxRecDepth 100000 in
set_option maxHeartbeats 3200000 in
theorem sameReply_any (a b : Ans) (u v : Value) (B B' : Nat) (w : World) (h : AnsIs w B u a) (h' : AnsIs w B' v b) (hl : a.rows.length ≤ 1000) :
    Calls Tryz.prog 9 #[u, v] w fun e w' => e = .returned (.bool (decide (a = b))) ∧ Below w.heap.size w w' := by
  obtain ⟨rv, sv, rfl, hr, hR⟩ := h
  obtain ⟨rv', sv', rfl, hr', hR'⟩ := h'
  obtain ⟨A1, c1, rfl, g1, g1', hv1⟩ := own_sliceN hr
  obtain ⟨A2, c2, rfl, g2, g2', hv2⟩ := own_sliceN hr'
  obtain ⟨A3, c3, rs, rfl, g3, g3', hs3, e3⟩ := ownRows_has hR
  obtain ⟨A4, c4, rs', rfl, g4, g4', hs4, e4⟩ := ownRows_has hR'
  obtain ⟨code, there, rc, rows, num⟩ := a
  obtain ⟨code', there', rc', rows', num'⟩ := b
  dsimp only at *
  have hv1' : HasVals w w.heap.size A1 rc.length rc := ⟨rfl, hv1⟩
  have hv2' : HasVals w w.heap.size A2 rc'.length rc' := ⟨rfl, hv2⟩
  have Hsame := Lib.hid (fun wx (hb : Below w.heap.size w wx) => same_any A1 A2 _ _ c1 c2 w.heap.size w.heap.size rc rc' wx (hv1'.belowOf hb (Nat.le_refl _)) (hv2'.belowOf hb (Nat.le_refl _)) (Nat.le_trans g1 g1') (Nat.le_trans g2 g2'))
  have Hrows := Lib.hid (fun wx (hb : Below w.heap.size w wx) => sameRows_any A3 A4 _ _ c3 c4 w.heap.size w.heap.size rs rs' wx (hs3.belowOf hb (Nat.le_refl _)) (hs4.belowOf hb (Nat.le_refl _)) hb.size hb.size hl)
  rw [e3, e4] at Hrows
  have Hfin := Lib.hid (ans_iff ⟨code, there, rc, rows, num⟩ ⟨code', there', rc', rows', num'⟩)
  dsimp only at Hfin
  generalize hRR : decide ((⟨code, there, rc, rows, num⟩ : Ans) = ⟨code', there', rc', rows', num'⟩) = R
  have HR := Lib.hid hRR
  clear hRR
  generalize rc.length = z1 at *
  generalize rc'.length = z2 at *
  generalize rows.length = z3 at *
  generalize rows'.length = z4 at *
  clear hv1' hv2' hv1 hv2 hr hr' hR hR' hs3 hs4 e3 e4 g1 g1' g2 g2' g3 g3' g4 g4' hl
  unfold replyV
  have Hb0 : Hid (∀ o o', Below w.heap.size w ((w.alloc o).alloc o')) := Lib.hid fun o o' => ((Below.refl _ _).alloc (Nat.le_refl _) _).alloc (by simp) _
  have Hbx1 : Hid (∀ o, Box ((w.alloc (.cells #[.int .i64 code, .bool there, .slice A1 z1 c1, .slice A3 z3 c3, .int .i64 num] 35)).alloc o) w.heap.size 35 #[.int .i64 code, .bool there, .slice A1 z1 c1, .slice A3 z3 c3, .int .i64 num]) := Lib.hid fun o => (Box.made _ _ _).alloc o
  have Hbx2 : Hid (∀ o, Box ((w.alloc o).alloc (.cells #[.int .i64 code', .bool there', .slice A2 z2 c2, .slice A4 z4 c4, .int .i64 num'] 35)) (w.heap.size + 1) 35 #[.int .i64 code', .bool there', .slice A2 z2 c2, .slice A4 z4 c4, .int .i64 num']) := Lib.hid fun o => by
    have := Box.made (w.alloc o) 35 #[.int .i64 code', .bool there', .slice A2 z2 c2, .slice A4 z4 c4, .int .i64 num']
    rwa [World.size_alloc] at this
  by_cases hc : code = code'
  · subst hc
    have hq1 : (code == code) = true := by simp
    by_cases ht : there = there'
    · subst ht
      have hq2 : (there == there) = true := by simp
      by_cases hnum : num = num'
      · subst hnum
        have hq3 : (num == num) = true := by simp
        by_cases hrc : rc = rc'
        · rw [decide_eq_true hrc] at Hsame
          have E : Hid (R = decide (rows = rows')) := Lib.hid (by rw [← HR.out]; exact decide_eq_decide.2 (by rw [← Hfin.out]; simp [hrc]))
          clear hrc
          go_enter Tryz.func9, Tryz.ntmps9
          go_wp2_with fail
          refine (Hsame.out _ (Hb0.out _ _)).mono ?_
          rintro e w2 ⟨rfl, hb2⟩
          have Hb2 : Hid (Below w.heap.size w w2) := Lib.hid ((Hb0.out _ _).trans (hb2.mono (Hb0.out _ _).size))
          have q1 := ((Hbx1.out _).below hb2 (Hbx1.out _).lt).cell 3
          have q2 := ((Hbx2.out _).below hb2 (Hbx2.out _).lt).cell 3
          clear hb2
          go_wp2_with fail
          refine (Hrows.out _ Hb2.out).mono ?_
          rintro e w3 ⟨rfl, hb3⟩
          go_wp2
          go_ret
          exact ⟨ret_bool (by rw [E.out]), Hb2.out.trans (hb3.mono Hb2.out.size)⟩
        · rw [decide_eq_false hrc] at Hsame
          have E : Hid (R = false) := Lib.hid (by rw [← HR.out]; exact decide_eq_false (by rw [← Hfin.out]; simp [hrc]))
          clear hrc
          go_enter Tryz.func9, Tryz.ntmps9
          go_wp2_with fail
          refine (Hsame.out _ (Hb0.out _ _)).mono ?_
          rintro e w2 ⟨rfl, hb2⟩
          have Hb2 : Hid (Below w.heap.size w w2) := Lib.hid ((Hb0.out _ _).trans (hb2.mono (Hb0.out _ _).size))
          go_wp2
          go_ret
          exact ⟨ret_bool (by rw [E.out]), Hb2.out⟩
      · have hq3 : (num == num') = false := by simpa using hnum
        have E : Hid (R = false) := Lib.hid (by rw [← HR.out]; exact decide_eq_false (by rw [← Hfin.out]; simp [hnum]))
        clear hnum
        go_enter Tryz.func9, Tryz.ntmps9
        go_wp2
        go_ret
        exact ⟨ret_bool (by rw [E.out]), Hb0.out _ _⟩
    · have hq2 : (there == there') = false := by simpa using ht
      have E : Hid (R = false) := Lib.hid (by rw [← HR.out]; exact decide_eq_false (by rw [← Hfin.out]; simp [ht]))
      clear ht
      go_enter Tryz.func9, Tryz.ntmps9
      go_wp2
      go_ret
      exact ⟨ret_bool (by rw [E.out]), Hb0.out _ _⟩
  · have hq1 : (code == code') = false := by simpa using hc
    have E : Hid (R = false) := Lib.hid (by rw [← HR.out]; exact decide_eq_false (by rw [← Hfin.out]; simp [hc]))
    clear hc
    go_enter Tryz.func9, Tryz.ntmps9
    go_wp2
    go_ret
    exact ⟨ret_bool (by rw [E.out]), Hb0.out _ _⟩
end Go.Proofs.YtajombifjofmmaaGreat

namespace Go.Proofs.YtajombifjofmmaaGreat
open Go.RowKit
open Go.Lib (strCells compareBytes)

/-- blocks of cells that are no store and no indexes stay -/
def Stays (w w' : World) : Prop := ∀ (i : Nat) (cur : Array Value) (t : TypeId) (fz : Nat × Nat), w.heap[i]? = some (.cells cur t fz) → t ≠ 61 → t ≠ 76 → w'.heap[i]? = some (.cells cur t fz)
section
variable {w w1 w2 w' : World}
theorem Stays.refl (w : World) : Stays w w := fun _ _ _ _ h _ _ => h
theorem Stays.trans (h : Stays w w1) (k : Stays w1 w2) : Stays w w2 := fun i cur t fz e h1 h2 => k i cur t fz (h i cur t fz e h1 h2) h1 h2
theorem Stays.below (h : Below w.heap.size w w') : Stays w w' := fun i _ _ _ e _ _ => (h.block i (Array.getElem?_eq_some_iff.1 e).1).trans e
theorem Stays.alloc (h : Stays w w1) (o : Obj) : Stays w (w1.alloc o) := h.trans (Stays.below ((Below.refl _ _).alloc (Nat.le_refl _) _))
theorem Box.stays {g : Nat} {t : TypeId} {cs : Array Value} (h : Box w g t cs) (hs : Stays w w') (h1 : t ≠ 61) (h2 : t ≠ 76) : Box w' g t cs := hs g cs t (0, 0) h h1 h2
theorem own_stays {B m size : Nat} {e : TypeId} {v : Value} {xs : List Value} (h : w.ownsRow B e size v m xs) (hs : Stays w w') (h1 : e ≠ 61) (h2 : e ≠ 76) : w'.ownsRow B e size v m xs :=
  own_keep h fun g hg => by
    obtain ⟨cur, hc⟩ := own_type h hg
    rw [hs g cur e (0, 0) hc h1 h2, hc]
theorem RowsIs.stays {B : Nat} {v : Value} {L : Kv (List TVal)} (h : RowsIs w B v L) (hs : Stays w w') : RowsIs w' B v L := by
  obtain ⟨rs, ⟨h1, h2⟩, e⟩ := h
  exact ⟨rs, ⟨own_stays h1 hs (by decide) (by decide), fun r hr => own_stays (h2 r hr) hs (by decide) (by decide)⟩, e⟩
theorem AnsIs.stays {B : Nat} {v : Value} {a : Ans} (h : AnsIs w B v a) (hs : Stays w w') : AnsIs w' B v a := by
  obtain ⟨rv, sv, e, h1, h2⟩ := h
  exact ⟨rv, sv, e, own_stays h1 hs (by decide) (by decide), h2.stays hs⟩
theorem Kept3.stays {B sb mb d : Nat} {ix : Value} {E : Kv (Value × List TVal)} {X : List Ix} (h : Store w B sb mb ix E X d) (k : Kept3 sb mb ix w w') : Stays w w' := fun i cur t fz e h1 h2 => by
  refine (k.block i (Array.getElem?_eq_some_iff.1 e).1 (fun ei => ?_) (fun ei => ?_) (fun ei => ?_)).trans e
  · subst ei
    have hb := h.box
    unfold Box at hb
    rw [hb] at e
    injection e with e
    injection e with _ ht _
    exact h1 ht.symm
  · subst ei
    obtain ⟨es, c, hm⟩ := map_block h.own
    rw [hm] at e
    injection e with e
    cases e
  · obtain ⟨cur', hc⟩ := own_type h.irow ei.symm
    rw [hc] at e
    injection e with e
    injection e with _ ht _
    exact h2 ht.symm
variable {B sb mb : Nat}
/-- Do, from a state to the next; what was answered before stays -/
theorem step_stays {S : PSt} (h : Stands w B sb mb S) (v : Value) (o : TOp) (C : Nat) (hC : C ≤ sb) (ho : OpIs w C v o) (hl : S.1.length ≤ 1000) :
    Calls Tryz.prog 10 #[.pointer (some ⟨sb, 0, none⟩), v] w fun e w' => ∃ u, e = .returned u ∧ AnsIs w' w.heap.size u (doT o S.1 S.2.1 S.2.2).1 ∧ Stands w' B sb mb (stepT S o) ∧ Below B w w' ∧ Stays w w' := by
  obtain ⟨ix, E, X, h1, h2, h3⟩ := h
  have hE : E.length ≤ 1000 := by rw [← h2, mapK_len] at hl; exact hl
  have hd := do_any h1 v o C hC ho hE
  rw [h2, h3] at hd
  refine hd.mono ?_
  rintro e w' ⟨u, ix', E', X', rfl, ha, hs, hM, hI, hk, -, -⟩
  exact ⟨u, rfl, ha, ⟨ix', E', X', hs, hM, hI⟩, h1.kept hk (by have := h1.lt.1; have := h1.sB; omega), hk.stays h1⟩
/-- an answer's parts -/
theorem AnsIs.parts {b : Nat} {v : Value} {a : Ans} (h : AnsIs w b v a) : ∃ (A : Option Addr) (c : Nat) (A' : Option Addr) (c' : Nat), v = .agg #[.int .i64 a.code, .bool a.there, .slice A a.rc.length c, .slice A' a.rows.length c', .int .i64 a.num] ∧ a.rc.length ≤ c ∧ c ≤ maxLen ∧
    w.ownsRow b 55 3 (.slice A a.rc.length c) a.rc.length (valCells a.rc) ∧ RowsIs w b (.slice A' a.rows.length c') a.rows := by
  obtain ⟨rv, sv, rfl, h1, h2⟩ := h
  obtain ⟨A, c, rfl, g1, g2, _⟩ := own_sliceN h1
  obtain ⟨A', c', rs, rfl, _⟩ := ownRows_has h2
  exact ⟨A, c, A', c', rfl, g1, g2, h1, h2⟩
theorem own_vals {b m c : Nat} {A : Option Addr} {l : List TVal} (h : w.ownsRow b 55 3 (.slice A m c) m (valCells l)) : HasVals w w.heap.size A m l := by
  have h1 := Has.of_ownN h
  have hl := h1.1
  rw [valCells_len] at hl
  exact ⟨by omega, h1⟩
theorem isVals_slice {C n c : Nat} {A : Option Addr} {l : List TVal} (h : IsVals w C (.slice A n c) l) : n ≤ c ∧ c ≤ maxLen ∧ HasVals w C A n l := by
  obtain ⟨A', n', c', e, h1, h2, h3, _⟩ := h
  injection e with e1 e2 e3
  subst e1; subst e2; subst e3
  exact ⟨h1, h2, h3⟩
/-- records that stand in a store have a value at least -/
theorem Stands.pos {S : PSt} (h : Stands w B sb mb S) : ∀ p ∈ S.1, 1 ≤ p.2.length := by
  obtain ⟨ix, E, X, h1, h2, h3⟩ := h
  intro p hp
  rw [← h2] at hp
  obtain ⟨q, hq, rfl⟩ := List.mem_map.1 hp
  exact (h1.good q hq).1.pos
end
end Go.Proofs.YtajombifjofmmaaGreat

namespace Go.Proofs.YtajombifjofmmaaGreat
open Go.ChangeShapes Go.WideShapes Go.ChangeAt Go.RowKit

section
variable {H : Type} {enc : TypeId × Value → H} {P : Program} {W : World}
theorem open_isvals {t e : TypeId} {f0 f1 f2 : Field} {r : Reach} {base : Nat} {v : Value} {d : DataW H} {ps : List MemPlace} (ht : P.underlying t = some (.slice e)) (he : P.underlying e = some (.struct #[f0, f1, f2])) (hC : P.cellsOf e = 3)
    (ho : f0.offset = 0 ∧ f1.offset = 1 ∧ f2.offset = 2) (hc : P.cellsOf f0.type = 1 ∧ P.cellsOf f1.type = 1 ∧ P.cellsOf f2.type = 1)
    (hu : P.underlying f0.type = some (.int .i64) ∧ P.underlying f1.type = some (.int .i64) ∧ P.underlying f2.type = some .string)
    (hval : Value.okWide P W r base t v) (h : DataW.Trod enc P W 0 (fun _ => true) true t v d ps) (hlt : ∀ x ∈ ps, x.block < W.heap.size) :
    ∃ (A : Option Addr) (n c : Nat) (l : List TVal), v = .slice A n c ∧ IsVals W W.heap.size (.slice A n c) l ∧ ∀ u ∈ l, u.s.size ≤ maxLen := by
  obtain ⟨A, n, c, rfl⟩ := okWide_slice ht hval
  obtain ⟨fuel, hf⟩ := h
  obtain ⟨l, h1, h2⟩ := vals_cell ht he hC ho hc hu hf hlt
  exact ⟨A, n, c, l, rfl, h1, h2⟩
end
end Go.Proofs.YtajombifjofmmaaGreat

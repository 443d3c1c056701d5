/- query: the walk. Condition: low and high are right, and in memory. -/
import Derived.Test.YtfaenejcgmnmdaaGreatPlnO
namespace Go.Proofs.YtfaenejcgmnmdaaGreat
open Go.RowKit
open Go.Lib (strCells compareBytes)

section
variable {B sb mb d : Nat} {ix : Value} {E : Kv (Value × List TVal)} {X : List Ix} {w : World}
def QueryPost (id : Int) (X : List Ix) (low high : List TVal) (lim : Nat) (M : Kv (List TVal)) (w : World) (e : Ending) (w' : World) : Prop :=
  if posI id X < X.length then ∃ v, e = .returned (replyV 0 false (.slice none 0 0) v 0) ∧ RowsIs w' (w.heap.size + 1) v (queryT id X low high lim M) ∧ Below w.heap.size w w'
  else e = .returned (replyV 7 false (.slice none 0 0) (.slice none 0 0) 0) ∧ Below w.heap.size w w'
set_option maxRecDepth 100000 in
set_option maxHeartbeats 3200000 in
theorem query_any (h : Store w B sb mb ix E X d) (id : Int) (lv hv : Value) (low high : List TVal) (lim : Nat) (C : Nat) (h1 : IsVals w C lv low) (h2 : IsVals w C hv high) (hC : C ≤ w.heap.size) (hE : E.length ≤ 1000) (hlim : lim ≤ 64) :
    Calls Tryz.prog 43 #[.pointer (some ⟨sb, 0, none⟩), .int .i64 id, lv, hv, .int .i64 (lim : Int)] w (QueryPost id X low high lim (mapK (·.2) E) w) := by
  have Hv1 := Lib.hid h1
  have Hv2 := Lib.hid h2
  obtain ⟨A1, n1, c1, rfl, -⟩ := h1
  obtain ⟨A2, n2, c2, rfl, -⟩ := h2
  obtain ⟨w0, hw0⟩ : ∃ w0, w.alloc (.cells #[.int .i64 0, .bool false, .slice none 0 0, .slice none 0 0, .int .i64 0] 40) = w0 := ⟨_, rfl⟩
  have hb0 : Below w.heap.size w w0 := hw0 ▸ below_alloc _ _
  have hbx : Box w0 w.heap.size 40 #[.int .i64 0, .bool false, .slice none 0 0, .slice none 0 0, .int .i64 0] := hw0 ▸ Box.made _ _ _
  have hsz : w0.heap.size = w.heap.size + 1 := by rw [← hw0]; simp
  have H0 := Lib.hid (h.below hb0)
  have Hbx := Lib.hid hbx
  have Hb0 := Lib.hid hb0
  have Hsz := Lib.hid hsz
  have HC := Lib.hid hC
  have HE := Lib.hid hE
  clear hb0 hbx hsz h hC hE
  unfold QueryPost
  by_cases hp : posI id X < X.length
  · simp only [if_pos hp]
    have Efind : Hid (findT id X = (posI id X : Int)) := Lib.hid (by unfold findT; rw [if_pos hp])
    have hpos : (0 : Int) ≤ (posI id X : Int) := by omega
    generalize hS : shownT id X (mapK (·.2) E) = S
    have HS : Hid (∀ e ∈ S, ∃ m k, e = entryT id m k ∧ entryErr id m k = 0 ∧ (∀ u ∈ m, InI64 u.n) ∧ k.length ≤ 16) := Lib.hid (fun e he => shown_mem H0.out (hS ▸ he))
    have HQ : Hid (queryT id X low high lim (mapK (·.2) E) = rowsT (mapK (·.2) E) ((S.filterMap (hitK low high)).take lim)) := Lib.hid (by rw [queryT, hS])
    have Hshow := Lib.hid (fun wx (hx : Store wx B sb mb ix E X d) => hS ▸ shown_any hx id HE.out)
    have HSl : Hid (S.length ≤ 1000) := Lib.hid (by
      rw [← hS, shownT]
      cases X[posI id X]? with
      | none => simp
      | some x =>
        simp only [List.length_mergeSort]
        have := List.length_filterMap_le (fun p : List UInt8 × List TVal => entE id x.fs p.1 p.2) (mapK (·.2) E)
        have h2 : (mapK (fun a : Value × List TVal => a.2) E).length = E.length := by simp [mapK]
        have := HE.out
        unfold entsOf
        omega)
    clear hS hp
    generalize queryT id X low high lim (mapK (·.2) E) = L at HQ ⊢
    go_enter Tryz.func43, Tryz.ntmps43
    go_wp2_with fail
    refine (find_any id H0.out).mono ?_
    rintro e w1 ⟨rfl, hb1⟩
    rw [Efind.out]
    have H1 := Lib.hid (H0.out.below hb1)
    have Hb1 := Lib.hid hb1
    clear hb1
    go_wp2_with fail
    refine (Hshow.out _ H1.out).mono ?_
    rintro e w2 ⟨sv, rfl, ho2, hb2⟩
    obtain ⟨As, cs, rfl, -, -, hs2⟩ := own_slice ho2
    have Hs2 := Lib.hid hs2
    have Hb2 := Lib.hid (Below.then Hb1.out hb2)
    have H2 := Lib.hid (H1.out.below hb2)
    have hsz2 := Hb2.out.size
    have hsl := HSl.out
    clear ho2 hs2 hb2
    go_wp2
    go_loopw [11, 27] (fun kv i wr => ∃ (k : Nat), k ≤ S.length ∧ i = .int .i64 (k : Int) ∧ Hid (wr.ownsRow w2.heap.size 9 1 kv ((S.take k).filterMap (hitK low high)).length (strRow ((S.take k).filterMap (hitK low high)))) ∧ Hid (Below w2.heap.size w2 wr)) (fun _ i _ => S.length - (intOf i).toNat)
    case atStart => exact ⟨0, by omega, rfl, Lib.hid (World.ownsRow_nil _ _ _ _), Lib.hid (Below.refl _ _)⟩
    case round =>
      obtain ⟨k, hk, rfl, Hrow, Hb⟩ := hrel
      have hszr := Hb.out.size
      by_cases hlt : k < S.length
      · obtain ⟨a, rfl, hab, hc0⟩ := (Hs2.out.below Hb.out).cell hlt
        have e0 : (strRow S).getD k undef = .string ⟨S[k].toArray⟩ := by simp [strRow, hlt, encStr]
        rw [e0] at hc0
        obtain ⟨m, key, he1, he2, he3, he4⟩ := HS.out S[k] (List.getElem_mem hlt)
        have E1 : Hid ((S.take (k + 1)).filterMap (hitK low high) = (S.take k).filterMap (hitK low high) ++ (if liesB m low high then [key] else [])) := Lib.hid (by
          rw [List.take_succ_eq_append_getElem hlt, List.filterMap_append, List.filterMap_cons, he1, hitK_entry he2 he3]
          by_cases hl : liesB m low high <;> simp [hl])
        obtain ⟨s, hs⟩ : ∃ s : ByteArray, ⟨S[k].toArray⟩ = s := ⟨_, rfl⟩
        have Hparse := Lib.hid (fun wx => parse_ok s id m key wx (by rw [← hs, ← he1]) he2 he3)
        rw [hs] at hc0
        have Hm := Lib.hid he3
        have Hlen : Hid (((S.take k).filterMap (hitK low high)).length ≤ 1000) := Lib.hid (by
          have := List.length_filterMap_le (hitK low high) (S.take k)
          have h2 := HSl.out
          rw [List.length_take] at this
          omega)
        have hk0 : (0 : Int) ≤ (k : Int) := by omega
        have hk1 : (k : Int) < (S.length : Int) := by omega
        clear e0 he1 he2 he3 he4 hs
        go_wp2_with fail
        refine (Hparse.out _).mono ?_
        rintro e w3 ⟨v, rfl, ho3, hb3⟩
        obtain ⟨Av, cv, rfl, hv1, hv2, hv3⟩ := own_sliceN ho3
        have Hb3 := Lib.hid hb3
        have HbC : Hid (Below w.heap.size w w3) := Lib.hid ((Hb0.out.trans (Hb2.out.mono (by rw [Hsz.out]; omega))).trans ((Below.then Hb.out hb3).mono (by have := Hsz.out; omega)))
        obtain ⟨A1', n1', c1', e1, a1, a2, a3, a4⟩ := Hv1.out.belowOf HbC.out HC.out
        obtain ⟨A2', n2', c2', e2, d1, d2, d3, d4⟩ := Hv2.out.belowOf HbC.out HC.out
        injection e1 with e11 e12 e13
        injection e2 with e21 e22 e23
        subst e11; subst e12; subst e13
        subst e21; subst e22; subst e23
        have hszC : w.heap.size ≤ w3.heap.size := HbC.out.size
        have Hlies := Lib.hid (lies_any Av A1 A2 m.length n1 n2 cv c1 c2 w3.heap.size m low high w3 ⟨rfl, hv3⟩ (a3.more (Nat.le_trans HC.out hszC)) (d3.more (Nat.le_trans HC.out hszC)) (Nat.le_trans hv1 hv2) (Nat.le_trans a1 a2) (Nat.le_trans d1 d2) hv1 (Nat.le_refl _) Hm.out a4 d4)
        clear hb3 ho3 hv1 hv2 hv3 a1 a2 a3 a4 d1 d2 d3 d4
        cases hl : liesB m low high with
        | false =>
          rw [hl] at Hlies E1
          go_wp2_with fail
          refine Hlies.out.mono ?_
          rintro e w4 ⟨rfl, hb4⟩
          have Hb4 := Lib.hid (Below.then Hb3.out hb4)
          have Hrow4 := Lib.hid (own_below Hrow.out Hb4.out)
          clear hb4
          go_wp2
          go_roundw
          case rel => exact ⟨k + 1, by omega, by go_num, Lib.hid (by rw [E1.out]; simpa using Hrow4.out), Lib.hid (Below.then Hb.out Hb4.out)⟩
          case measure => simp [intOf]; omega
        | true =>
          rw [hl] at Hlies E1
          go_wp2_with fail
          refine Hlies.out.mono ?_
          rintro e w4 ⟨rfl, hb4⟩
          have Hb4 := Lib.hid (Below.then Hb3.out hb4)
          have Hrow4 := Lib.hid (own_below Hrow.out Hb4.out)
          have Hb24 := Lib.hid (Below.then Hb.out Hb4.out)
          have hsz4 := Hb24.out.size
          clear hb4
          go_wp2_with (at_builtin; refine wpList_append_has rfl (.tmp 42) (.tmp 44) _ rfl 9 str_elem Tryz.underlying43 rfl (Hrow4.out.alloc _) rfl (Has.lit w4 #[encStr key] _) (one_string _) (by have := Hlen.out; simp only [maxLen]; simp; omega) (by have := Hlen.out; simp; omega) (by simp; omega) ?_; intro v6 w6 hown6 hg6 hz6; have Hb6 : Hid (Below w2.heap.size w2 w6) := Lib.hid (below_own (Hb24.out.alloc hsz4 _) (Hrow4.out.alloc _) hg6 (by simp; omega)); clear hg6 hz6)
          go_roundw
          case rel =>
            refine ⟨k + 1, by omega, by go_num, Lib.hid ?_, Hb6⟩
            rw [E1.out, strRow, List.map_append, List.length_append]
            exact hown6
          case measure => simp [intOf]; omega
      · have hkn : k = S.length := by omega
        rw [hkn, List.take_length] at Hrow
        generalize hKS : S.filterMap (hitK low high) = KS at Hrow HQ
        have Hkl : Hid (∀ q ∈ KS, q.length ≤ 1000) := Lib.hid (fun q hq => by
          rw [← hKS, List.mem_filterMap] at hq
          obtain ⟨e, he, hq⟩ := hq
          obtain ⟨m, key, he1, he2, he3, he4⟩ := HS.out e he
          rw [he1, hitK_entry he2 he3] at hq
          split at hq
          · injection hq with hq; rw [← hq]; omega
          · cases hq)
        have Hkn : Hid (KS.length ≤ 1000) := Lib.hid (by
          rw [← hKS]
          have := List.length_filterMap_le (hitK low high) S
          have := HSl.out
          omega)
        obtain ⟨Ak, ck, e, hk1, hk2, hk3⟩ := own_slice Hrow.out
        subst e
        have H3 := Lib.hid (H2.out.below Hb.out)
        have hmn : (min (lim : Int) (KS.length : Int)).toNat = min lim KS.length := by omega
        have hm1 : (0 : Int) ≤ min (lim : Int) (KS.length : Int) := by omega
        have hm2 : min (lim : Int) (KS.length : Int) ≤ (ck : Int) := by omega
        have htk : Has wr wr.heap.size Ak (min lim KS.length) (strRow (KS.take lim)) := by
          have h := hk3.take (k := min lim KS.length) (by omega)
          have e : (strRow KS).take (min lim KS.length) = strRow (KS.take lim) := by
            rw [strRow, ← List.map_take, strRow, ← List.take_take, List.take_length]
          rwa [e] at h
        have Hrows := Lib.hid (rows_any H3.out Ak (min lim KS.length) ck _ (KS.take lim) htk (Nat.le_refl _) (by have := Hkn.out; omega) (fun q hq => Hkl.out q (List.mem_of_mem_take hq)))
        have Eq : Hid (((KS.take lim).map fun k => (k, recOf k E)) = L) := Lib.hid (by rw [HQ.out, rowsT]; simp only [recOf_map])
        rw [Eq.out] at Hrows
        have Hbr : Hid (Below w0.heap.size w0 wr) := Lib.hid (Below.then Hb2.out Hb.out)
        clear hk1 hk2 hk3 htk Hrow
        go_wp2_with fail
        refine Hrows.out.mono ?_
        rintro e w5 ⟨v, rfl, hR, hb5⟩
        obtain ⟨Ar, cr, rfl⟩ := hR.slice
        have hb05 := Below.then Hbr.out hb5
        have hbx5 := Hbx.out.below hb05 Hbx.out.lt
        obtain ⟨r0, r1, r2, r3, r4, k0, k1, k2, k3, k4⟩ := box5 hbx5
        obtain ⟨W3, hW3⟩ : ∃ W3, ((((w5.setCell ⟨w.heap.size, 0, none⟩ (.int .i64 0)).setCell ⟨w.heap.size, 1, none⟩ (.bool false)).setCell ⟨w.heap.size, 2, none⟩ (.slice none 0 0)).setCell ⟨w.heap.size, 3, none⟩ (.slice Ar L.length cr)).setCell ⟨w.heap.size, 4, none⟩ (.int .i64 0) = W3 := ⟨_, rfl⟩
        obtain ⟨p0, p1, p2, p3, p4, -⟩ := box5 (box5_store hbx5 hW3)
        have hszr := Hbr.out.size
        have hs0 := Hsz.out
        have Hbw := Lib.hid (below5 (Hb0.out.trans (hb05.mono (by omega))) hW3)
        have Hrow3 := Lib.hid ((rows5 hR (g := w.heap.size) (by omega) hW3).base (by omega : w.heap.size + 1 ≤ _))
        clear hbx5 hb05 hb5 hR hszr hs0
        go_wp2
        refine bodyPost_ret (v := replyV 0 false (.slice none 0 0) (.slice Ar L.length cr) 0) ?_ rfl ⟨_, rfl, Hrow3.out, Hbw.out⟩
        simp [results, Tryz.results43, go_sem, replyV, p0, p1, p2, p3, p4]
  · simp only [if_neg hp]
    have Efind : Hid (findT id X = -1) := Lib.hid (by unfold findT; rw [if_neg hp])
    clear hp
    go_enter Tryz.func43, Tryz.ntmps43
    go_wp2_with fail
    refine (find_any id H0.out).mono ?_
    rintro e w5 ⟨rfl, hb5⟩
    rw [Efind.out]
    have hbx5 := Hbx.out.below hb5 Hbx.out.lt
    obtain ⟨r0, r1, r2, r3, r4, k0, k1, k2, k3, k4⟩ := box5 hbx5
    obtain ⟨W3, hW3⟩ : ∃ W3, ((((w5.setCell ⟨w.heap.size, 0, none⟩ (.int .i64 7)).setCell ⟨w.heap.size, 1, none⟩ (.bool false)).setCell ⟨w.heap.size, 2, none⟩ (.slice none 0 0)).setCell ⟨w.heap.size, 3, none⟩ (.slice none 0 0)).setCell ⟨w.heap.size, 4, none⟩ (.int .i64 0) = W3 := ⟨_, rfl⟩
    obtain ⟨p0, p1, p2, p3, p4, -⟩ := box5 (box5_store hbx5 hW3)
    have hs0 := Hsz.out
    have Hbw := Lib.hid (below5 (Hb0.out.trans (hb5.mono (by omega))) hW3)
    clear hbx5 hb5 hs0
    go_wp2
    refine bodyPost_ret (v := replyV 7 false (.slice none 0 0) (.slice none 0 0) 0) ?_ rfl ⟨rfl, Hbw.out⟩
    simp [results, Tryz.results43, go_sem, replyV, p0, p1, p2, p3, p4]
end
end Go.Proofs.YtfaenejcgmnmdaaGreat

/- The law PlainDoes: for every input it returns true and leaves what it was given. No condition. -/
import Derived.Test.YtknfjajmnlpfjaaGreatMdU
import Derived.Test.YtknfjajmnlpfjaaGreatRow
import Derived.Test.YtknfjajmnlpfjaaGreatOpenOps
namespace Go.Proofs.YtknfjajmnlpfjaaGreat
open Go.RowKit
open Go.Lib (strCells compareBytes)

theorem doT_len (o : TOp) (M : Kv (List TVal)) (I : List (Int × List Int)) (n : Nat) (hM : M.length ≤ 1000) : (doT o M I n).1.rows.length ≤ 1000 := by
  unfold doT
  repeat' split
  all_goals first
    | exact Nat.zero_le _
    | (unfold casA; split <;> exact Nat.zero_le _)
    | (unfold dropA; split <;> exact Nat.zero_le _)
    | (unfold scanA
       simp only [rowsT, List.length_map, List.length_take]
       have := List.length_filter_le (inK o.key.data.toList o.to.data.toList) (M.map (·.1))
       rw [List.length_map] at this
       omega)
    | (unfold queryA
       split
       · simp only [rowsT, List.length_map, List.length_take]
         have := shownI_len o.id I M
         have := List.length_filterMap_le (hitK o.low o.high) (shownI o.id I M)
         omega
       · exact Nat.zero_le _)
theorem Stands.idxL {w : World} {B sb mb : Nat} {S : PSt} (h : Stands w B sb mb S) : (∀ x ∈ S.2.1, x.2.length ≤ 1000) ∧ S.2.1.length ≤ 6 := by
  obtain ⟨ix, E, X, h1, h2, h3⟩ := h
  rw [← h3]
  refine ⟨fun x hx => ?_, by rw [List.length_map]; exact h1.few⟩
  obtain ⟨y, hy, rfl⟩ := List.mem_map.1 hx
  exact (idx_some (h1.nums y hy).2.2.1).2
theorem Twin.tlt {w : World} {B sb mb tb : Nat} {S : PSt} {FF : List (List Int)} (h : Twin w B sb mb tb S FF) : tb < w.heap.size := by
  obtain ⟨rv, xv, rs, F, hr, -, -⟩ := h.rf
  exact hr.lt
theorem texts_has {w : World} {b m : Nat} {v : Value} {l : List (List UInt8)} (h : w.ownsRow b 9 1 v m (strRow l)) (hm : l.length = m) : ∃ A c, v = .slice A m c ∧ HasTexts w w.heap.size A m l := by
  obtain ⟨A, c, e, -, -, hh⟩ := own_slice h
  exact ⟨A, c, e, hm, hh⟩
theorem HasTexts.below {w w' : World} {n : Nat} {A : Option Addr} {l : List (List UInt8)} (h : HasTexts w w.heap.size A n l) (hb : Below w.heap.size w w') : HasTexts w' w.heap.size A n l := ⟨h.1, h.2.below hb⟩
set_option maxRecDepth 100000 in
set_option maxHeartbeats 12800000 in
theorem plainDoes_walk (v : Value) (l : List TOp) (w : World) (ho : IsOps w w.heap.size v l) (hsh : ∀ o ∈ l, OpShort o) :
    Calls Tryz.prog 3 #[v] w fun e w' => e = .returned (.bool true) ∧ Below w.heap.size w w' := by
  have Hsh := Lib.hid hsh
  have Ho := Lib.hid ho
  obtain ⟨A, n, c, rfl, -, -, hops⟩ := ho
  have Hops := Lib.hid hops
  clear hsh hops
  go_enter Tryz.func3, Tryz.ntmps3
  go_wp2_with fail
  refine (awake_any _).mono ?_
  rintro e w1 ⟨rfl, hb1⟩
  have Hb1 := Lib.hid hb1
  clear hb1
  go_wp2_with fail
  refine (allLight_any _ l w.heap.size 60 w1 Hb1.out.size (Ho.out.belowOf Hb1.out (Nat.le_refl _)) Hsh.out (by omega)).mono ?_
  rintro e w2 ⟨b, rfl, hb2, hlen⟩
  have Hb2 := Lib.hid (Below.then Hb1.out hb2)
  clear hb2
  cases b with
  | false => go_wp2; go_ret; exact ⟨rfl, Hb2.out⟩
  | true =>
    have Hl60 := Lib.hid (hlen rfl)
    clear hlen
    go_wp2_with fail
    refine (new_any w2 w.heap.size Hb2.out.size).mono ?_
    rintro e w3 ⟨rfl, hst, hb3⟩
    have Hb3 := Lib.hid (Below.then Hb2.out hb3)
    have Hst : Hid (Stands w3 w.heap.size (w2.heap.size + 1) w2.heap.size (runT [])) := Lib.hid ⟨_, _, _, hst, rfl, rfl⟩
    have Hsb : Hid (w.heap.size ≤ w2.heap.size + 1) := Lib.hid (by have := Hb2.out.size; omega)
    clear hst hb3
    generalize w2.heap.size + 1 = sb at *
    generalize w2.heap.size = mb at Hst
    go_wp2_with fail
    refine (refNew_any w3 w.heap.size Hb3.out.size).mono ?_
    rintro e w4 ⟨rfl, hrst, hb4⟩
    have Hb4 := Lib.hid (Below.then Hb3.out hb4)
    have Htw : Hid (Twin w4 w.heap.size sb mb w3.heap.size (runT []) []) := Lib.hid ⟨Hst.out.belowS hb4, ⟨_, _, _, _, hrst, rfl, rfl⟩, rfl⟩
    clear hrst hb4 Hst
    generalize w3.heap.size = tb at *
    have Hn : Hid (l.length = n) := Lib.hid Hops.out.1
    go_wp2
    go_loopw [5] (fun i wr => ∃ k : Nat, k ≤ n ∧ i = .int .i64 (k : Int) ∧ Hid (∃ FF, Twin wr w.heap.size sb mb tb (runT (l.take k)) FF) ∧ Hid ((runT (l.take k)).1.length ≤ k) ∧ Below w.heap.size w wr) (fun i _ => n - (intOf i).toNat)
    case atStart => exact ⟨0, by omega, rfl, Lib.hid ⟨_, Htw.out⟩, Lib.hid (by simp [runT]), Hb4.out⟩
    case round =>
      obtain ⟨k, hk, rfl, Hst, Hk, hb⟩ := hrel
      have Hb := Lib.hid hb
      clear hb
      have hk60 : n ≤ 60 := by have := Hl60.out; have := Hn.out; omega
      by_cases hlt : k < n
      · obtain ⟨a, o, rv, ov, fv, lv, hv, rfl, hab, hol, hop, d0, d1, d2, d3, d4, d5, d6, d7, d8, d9, d10, d11⟩ := ops_at (Hops.out.belowOf Hb.out (Nat.le_refl _)) hlt
        obtain ⟨FF, htw⟩ := Hst.out
        have hop' := hop
        obtain ⟨rv', ov', fv', lv', hv', eop, g1, g2, g3, g4, g5⟩ := hop'
        have eo := congrArg Value.cells eop
        unfold opCells at eop
        simp only [Value.agg.injEq, Array.mk.injEq, List.cons.injEq, and_true, true_and] at eop
        obtain ⟨rfl, rfl, rfl, rfl, rfl⟩ := eop
        obtain ⟨A1, n1, c1, rfl, -⟩ := g1
        obtain ⟨A2, n2, c2, rfl, -⟩ := g2
        obtain ⟨A3, n3, c3, rfl, -⟩ := g3
        obtain ⟨A4, n4, c4, rfl, -⟩ := g4
        obtain ⟨A5, n5, c5, rfl, -⟩ := g5
        clear eo
        have hS0 : wr.drew.cell? (a.add (k * 12)) = some (.int .i64 o.k) ∧ wr.drew.cell? ⟨(a.add (k * 12)).block, (a.add (k * 12)).off + 1, none⟩ = some (.string o.key) ∧ wr.drew.cell? ⟨(a.add (k * 12)).block, (a.add (k * 12)).off + 2, none⟩ = some (.string o.to) ∧ wr.drew.cell? ⟨(a.add (k * 12)).block, (a.add (k * 12)).off + 3, none⟩ = some (.slice A1 n1 c1) ∧ wr.drew.cell? ⟨(a.add (k * 12)).block, (a.add (k * 12)).off + 4, none⟩ = some (.slice A2 n2 c2) ∧ wr.drew.cell? ⟨(a.add (k * 12)).block, (a.add (k * 12)).off + 5, none⟩ = some (.int .i64 o.id) ∧ wr.drew.cell? ⟨(a.add (k * 12)).block, (a.add (k * 12)).off + 6, none⟩ = some (.slice A3 n3 c3) ∧ wr.drew.cell? ⟨(a.add (k * 12)).block, (a.add (k * 12)).off + 7, none⟩ = some (.slice A4 n4 c4) ∧ wr.drew.cell? ⟨(a.add (k * 12)).block, (a.add (k * 12)).off + 8, none⟩ = some (.slice A5 n5 c5) ∧ wr.drew.cell? ⟨(a.add (k * 12)).block, (a.add (k * 12)).off + 9, none⟩ = some (.int .i64 o.lim) ∧ wr.drew.cell? ⟨(a.add (k * 12)).block, (a.add (k * 12)).off + 10, none⟩ = some (.int .i64 o.sp) ∧ wr.drew.cell? ⟨(a.add (k * 12)).block, (a.add (k * 12)).off + 11, none⟩ = some (.int .i64 o.nd) := ⟨d0, d1, d2, d3, d4, d5, d6, d7, d8, d9, d10, d11⟩
        have HS0 := Lib.hid hS0
        have HSk : Hid (∀ wx, Below w.heap.size wr wx → wx.cell? (a.add (k * 12)) = some (.int .i64 o.k) ∧ wx.cell? ⟨(a.add (k * 12)).block, (a.add (k * 12)).off + 1, none⟩ = some (.string o.key) ∧ wx.cell? ⟨(a.add (k * 12)).block, (a.add (k * 12)).off + 2, none⟩ = some (.string o.to) ∧ wx.cell? ⟨(a.add (k * 12)).block, (a.add (k * 12)).off + 3, none⟩ = some (.slice A1 n1 c1) ∧ wx.cell? ⟨(a.add (k * 12)).block, (a.add (k * 12)).off + 4, none⟩ = some (.slice A2 n2 c2) ∧ wx.cell? ⟨(a.add (k * 12)).block, (a.add (k * 12)).off + 5, none⟩ = some (.int .i64 o.id) ∧ wx.cell? ⟨(a.add (k * 12)).block, (a.add (k * 12)).off + 6, none⟩ = some (.slice A3 n3 c3) ∧ wx.cell? ⟨(a.add (k * 12)).block, (a.add (k * 12)).off + 7, none⟩ = some (.slice A4 n4 c4) ∧ wx.cell? ⟨(a.add (k * 12)).block, (a.add (k * 12)).off + 8, none⟩ = some (.slice A5 n5 c5) ∧ wx.cell? ⟨(a.add (k * 12)).block, (a.add (k * 12)).off + 9, none⟩ = some (.int .i64 o.lim) ∧ wx.cell? ⟨(a.add (k * 12)).block, (a.add (k * 12)).off + 10, none⟩ = some (.int .i64 o.sp) ∧ wx.cell? ⟨(a.add (k * 12)).block, (a.add (k * 12)).off + 11, none⟩ = some (.int .i64 o.nd)) := Lib.hid fun wx hbx => by
          have kk : ∀ j, wx.cell? ⟨(a.add (k * 12)).block, (a.add (k * 12)).off + j, none⟩ = wr.cell? ⟨(a.add (k * 12)).block, (a.add (k * 12)).off + j, none⟩ := fun j => hbx.cell (by show (a.add (k * 12)).block < _; rw [addr_block]; exact hab)
          have k0 : wx.cell? (a.add (k * 12)) = wr.cell? (a.add (k * 12)) := hbx.cell (by rw [addr_block]; exact hab)
          exact ⟨k0.trans d0, (kk 1).trans d1, (kk 2).trans d2, (kk 3).trans d3, (kk 4).trans d4, (kk 5).trans d5, (kk 6).trans d6, (kk 7).trans d7, (kk 8).trans d8, (kk 9).trans d9, (kk 10).trans d10, (kk 11).trans d11⟩
        have Hop := Lib.hid hop
        have hdr : Below wr.heap.size wr wr.drew := (Below.refl _ _).drew
        have hlen2 : (runT (l.take k)).1.length ≤ 1000 := by have := Hk.out; omega
        have Hcall := twin_s (htw.below hdr) _ o w.heap.size Hsb.out (hop.belowOf hdr Hb.out.size) hlen2
        have Hrun : Hid (stepT (runT (l.take k)) o = runT (l.take (k + 1))) := Lib.hid (by
          obtain ⟨hkl, e⟩ := List.getElem?_eq_some_iff.1 hol
          rw [List.take_succ_eq_append_getElem hkl, runT_snoc, e])
        have Hk2 : Hid ((runT (l.take (k + 1))).1.length ≤ k + 1) := Lib.hid (by
          rw [← Hrun.out]
          have := stepT_len (runT (l.take k)) o
          have := Hk.out
          omega)
        unfold opCells at Hcall
        have Hcall := Lib.hid Hcall
        have Htwt := Lib.hid htw.tw
        have Hlen2 := Lib.hid hlen2
        have hk0 : (0 : Int) ≤ (k : Int) := by omega
        have hk1 : (k : Int) < (n : Int) := by omega
        have hall : (doT o (runT (l.take k)).1 (runT (l.take k)).2.1 (runT (l.take k)).2.2).1.rows.length ≤ 1000 := doT_len o _ _ _ hlen2
        have Hall := Lib.hid hall
        clear hop hol d0 d1 d2 d3 d4 d5 d6 d7 d8 d9 d10 d11 hab htw hS0 hdr hlen2 hall
        go_wp2
        go_region_held3 (fun wx => wx.cell? (a.add (k * 12)) = some (.int .i64 o.k) ∧ wx.cell? ⟨(a.add (k * 12)).block, (a.add (k * 12)).off + 1, none⟩ = some (.string o.key) ∧ wx.cell? ⟨(a.add (k * 12)).block, (a.add (k * 12)).off + 2, none⟩ = some (.string o.to) ∧ wx.cell? ⟨(a.add (k * 12)).block, (a.add (k * 12)).off + 3, none⟩ = some (.slice A1 n1 c1) ∧ wx.cell? ⟨(a.add (k * 12)).block, (a.add (k * 12)).off + 4, none⟩ = some (.slice A2 n2 c2) ∧ wx.cell? ⟨(a.add (k * 12)).block, (a.add (k * 12)).off + 5, none⟩ = some (.int .i64 o.id) ∧ wx.cell? ⟨(a.add (k * 12)).block, (a.add (k * 12)).off + 6, none⟩ = some (.slice A3 n3 c3) ∧ wx.cell? ⟨(a.add (k * 12)).block, (a.add (k * 12)).off + 7, none⟩ = some (.slice A4 n4 c4) ∧ wx.cell? ⟨(a.add (k * 12)).block, (a.add (k * 12)).off + 8, none⟩ = some (.slice A5 n5 c5) ∧ wx.cell? ⟨(a.add (k * 12)).block, (a.add (k * 12)).off + 9, none⟩ = some (.int .i64 o.lim) ∧ wx.cell? ⟨(a.add (k * 12)).block, (a.add (k * 12)).off + 10, none⟩ = some (.int .i64 o.sp) ∧ wx.cell? ⟨(a.add (k * 12)).block, (a.add (k * 12)).off + 11, none⟩ = some (.int .i64 o.nd))
          (first | exact HS0.out | exact HS5.out | exact HS6.out | exact HS7.out)
          (first
            | (go_at_call 9; refine Hcall.out.mono ?_; rintro e w5 ⟨u1, rfl, ha1, hs5, hr5, hb5⟩; have Ha1 := Lib.hid ha1; have Hs5 := Lib.hid hs5; have Hr5 := Lib.hid hr5; have Hb05 : Hid (Below w.heap.size wr w5) := Lib.hid (((Below.refl _ wr).drew).trans hb5); have HS5 := Lib.hid (HSk.out w5 Hb05.out); have Ho5 := Hop.out.belowOf Hb05.out (Nat.le_refl _); unfold opCells at Ho5; have Hcall2 := Lib.hid (twin_t Hr5.out Htwt.out Hs5.out Ha1.out _ o w.heap.size (Hb.out.trans Hb05.out).size Ho5 Hlen2.out rfl); clear ha1 hs5 hr5 hb5 Ho5)
            | (go_at_call 10; refine Hcall2.out.mono ?_; rintro e w6 ⟨u2, rfl, ha2, ha1', htw6, hb6⟩; have Htw6 := Lib.hid htw6; have Hb06 : Hid (Below w.heap.size wr w6) := Lib.hid (Hb05.out.trans hb6); have HS6 := Lib.hid (HSk.out w6 Hb06.out); have hsm := sameReply_any _ _ u1 u2 _ _ w6 ha1' ha2 Hall.out; rw [decide_eq_true rfl] at hsm; have Hsame := Lib.hid hsm; clear hsm ha2 ha1' htw6 hb6)
            | (go_at_call 8; refine Hsame.out.mono ?_; rintro e w7 ⟨rfl, hb7⟩; have Htw7 := Lib.hid (Htw6.out.below hb7); have Hb07 : Hid (Below w.heap.size wr w7) := Lib.hid (Hb06.out.trans (hb7.mono (Hb.out.trans Hb06.out).size)); have HS7 := Lib.hid (HSk.out w7 Hb07.out); clear hb7))
        go_wp2
        go_roundw
        case rel => exact ⟨k + 1, by omega, by go_num, Lib.hid ⟨_, by rw [← Hrun.out]; exact Htw7.out⟩, Hk2, Hb.out.trans Hb07.out⟩
        case measure => simp [intOf]; omega
      · have hkn : k = n := by omega
        subst hkn
        rw [List.take_of_length_le (by have := Hn.out; omega)] at Hst Hk
        obtain ⟨FF, htw⟩ := Hst.out
        have hl1 : (runT l).1.length ≤ 60 := by have := Hk.out; omega
        have Htw := Lib.hid htw
        obtain ⟨S, hS⟩ : ∃ S, runT l = S := ⟨_, rfl⟩
        rw [hS] at Htw hl1
        have Hl1 := Lib.hid hl1
        clear htw hl1 hS hlt hk Hst Hk
        generalize wr = x1 at *
        go_wp2
        go_loopw [6] (fun i wr => ∃ k : Nat, k ≤ 8 ∧ i = .int .i64 (k : Int) ∧ Hid (Twin wr w.heap.size sb mb tb S FF) ∧ Below w.heap.size w wr) (fun i _ => 8 - (intOf i).toNat)
        case atStart => exact ⟨0, by omega, rfl, Htw, Hb.out⟩
        case round =>
          obtain ⟨k, hk, rfl, Htw, hb⟩ := hrel
          have Hb := Lib.hid hb
          clear hb
          by_cases hlt : k < 8
          · have hk0 : (0 : Int) ≤ (k : Int) := by omega
            have hk1 : (k : Int) < 8 := by omega
            obtain ⟨L, hL⟩ : ∃ L, shownI (k : Int) (twinFrom 0 FF) S.1 = L := ⟨_, rfl⟩
            have HL := Lib.hid hL
            have hLl : L.length ≤ 60 := by have := shownI_len (k : Int) (twinFrom 0 FF) S.1; have := Hl1.out; rw [hL] at *; omega
            have HLl := Lib.hid hLl
            have hS := twin_shownS Htw.out (k : Int) (by have := Hl1.out; omega)
            rw [hL] at hS
            have HS := Lib.hid hS
            clear hL hLl hS
            go_wp2_with fail
            refine HS.out.mono ?_
            rintro e w5 ⟨v5, rfl, ho5, hb5⟩
            obtain ⟨A1, c1, rfl, ht5⟩ := texts_has ho5 rfl
            have Ht5 := Lib.hid ht5
            have Htw5 := Lib.hid (Htw.out.below hb5)
            have Hb5 : Hid (Below w.heap.size w w5) := Lib.hid (Below.then Hb.out hb5)
            have hT := twin_shownT Htw5.out (k : Int) (by unfold InI64; omega) (by have := Hl1.out; omega)
            rw [HL.out] at hT
            have HT := Lib.hid hT
            clear ho5 hb5 ht5 hT
            go_wp2_with fail
            refine HT.out.mono ?_
            rintro e w6 ⟨v6, rfl, ho6, hb6⟩
            obtain ⟨A2, c2, rfl, ht6⟩ := texts_has ho6 rfl
            have Htw6 := Lib.hid (Htw5.out.below hb6)
            have Hb6 : Hid (Below w.heap.size w w6) := Lib.hid (Below.then Hb5.out hb6)
            have Hst := Lib.hid (sameTexts_eq A1 A2 L.length c1 c2 _ _ L w6 (Ht5.out.below hb6) ht6 (by have := HLl.out; omega))
            clear ho6 hb6 ht6
            go_wp2_with fail
            refine Hst.out.mono ?_
            rintro e w7 ⟨rfl, m7, rfl⟩
            have Hb7 : Hid (Below w.heap.size w (w6.drewN m7)) := Lib.hid (below_drews Hb6.out m7)
            have Htw7 : Hid (Twin (w6.drewN m7) w.heap.size sb mb tb S FF) := Lib.hid (Htw6.out.below (below_drews (Below.refl _ _) m7))
            go_wp2
            go_roundw
            case rel => exact ⟨k + 1, by omega, by go_num, Htw7, Hb7.out⟩
            case measure => simp [intOf]; omega
          · have hk8 : k = 8 := by omega
            subst hk8
            obtain ⟨A3, c3, rs3, hc3, hrs3, e3⟩ := twin_rows Htw.out
            have htl := Htw.out.tlt
            have hl1000 : S.1.length ≤ 1000 := by have := Hl1.out; omega
            have HTk : Hid (∀ wx, Below wr.heap.size wr wx → wx.cell? ⟨tb, 0, none⟩ = some (.slice A3 S.1.length c3)) := Lib.hid fun wx hbx => (hbx.cell htl).trans hc3
            have Hrs3 := Lib.hid hrs3
            have He3 := Lib.hid e3
            have Hl3 := Lib.hid hl1000
            have Hrows := Lib.hid (allRows_any (Htw.out.below ((Below.refl _ wr).drew)).st hl1000)
            have HT0 : Hid (wr.drew.cell? ⟨tb, 0, none⟩ = some (.slice A3 S.1.length c3)) := Lib.hid (HTk.out _ ((Below.refl _ wr).drew))
            clear hc3 hrs3 e3 htl hl1000
            go_wp2
            go_region_held3 (fun wx => wx.cell? ⟨tb, 0, none⟩ = some (.slice A3 S.1.length c3))
              (first | exact HT0.out | exact HT5.out | exact HT6.out | exact HT7.out | exact HT8.out | exact HT9.out)
              (first
                | (go_at_call 15; refine Hrows.out.mono ?_; rintro e w5 ⟨v5, rfl, hr5, hb5⟩; obtain ⟨A5, c5, rs5, rfl, -, -, hs5, e5⟩ := ownRows_has hr5; have Hb05 : Hid (Below wr.heap.size wr w5) := Lib.hid (((Below.refl _ wr).drew).trans hb5); have HT5 := Lib.hid (HTk.out w5 Hb05.out); have hsr := sameRows_any A5 A3 _ _ c5 c3 _ _ rs5 rs3 w5 hs5 (Hrs3.out.belowOf Hb05.out (Nat.le_refl _)) (Nat.le_refl _) Hb05.out.size Hl3.out; rw [e5, He3.out, decide_eq_true rfl] at hsr; have Hsr := Lib.hid hsr; clear hsr hr5 hb5 hs5 e5)
                | (go_at_call 14; refine Hsr.out.mono ?_; rintro e w6 ⟨rfl, hb6⟩; have Hb06 : Hid (Below wr.heap.size wr w6) := Lib.hid (Hb05.out.trans (hb6.mono Hb05.out.size)); have HT6 := Lib.hid (HTk.out w6 Hb06.out); have Hxs := Lib.hid (allIdx_any (Htw.out.below Hb06.out).st); clear hb6)
                | (go_at_call 17; refine Hxs.out.mono ?_; rintro e w7 ⟨v7, rfl, hi7, hb7⟩; have Hb07 : Hid (Below wr.heap.size wr w7) := Lib.hid (Hb06.out.trans (hb7.mono Hb06.out.size)); have HT7 := Lib.hid (HTk.out w7 Hb07.out); obtain ⟨A7, c7, X7, rfl, hx7, e7⟩ := idxIs_has hi7 Htw.out.st.idxL.1; have Hx7 := Lib.hid hx7; have He7 := Lib.hid e7; have Hxt := Lib.hid (twin_indexes (Htw.out.below Hb07.out)); clear hi7 hb7 hx7 e7)
                | (go_at_call 18; refine Hxt.out.mono ?_; rintro e w8 ⟨A8, c8, X8, rfl, hx8, e8, hb8⟩; have Hb08 : Hid (Below wr.heap.size wr w8) := Lib.hid (Hb07.out.trans (hb8.mono Hb07.out.size)); have HT8 := Lib.hid (HTk.out w8 Hb08.out); have hsx := sameIdx_eq A7 A8 _ c7 c8 _ _ X7 X8 w8 (Hx7.out.belowOf hb8 (Nat.le_refl _)) hx8 (He7.out.trans e8.symm) (by have := Htw.out.st.idxL.2; omega); have Hsx := Lib.hid hsx; clear hx8 e8 hb8 hsx)
                | (go_at_call 16; refine Hsx.out.mono ?_; rintro e w9 ⟨rfl, m9, rfl⟩; have Hb09 : Hid (Below wr.heap.size wr (w8.drewN m9)) := Lib.hid (below_drews Hb08.out m9); have HT9 := Lib.hid (HTk.out _ Hb09.out)))
            go_wp2
            go_ret
            exact ⟨rfl, Hb.out.trans (Hb09.out.mono Hb.out.size)⟩

namespace lawPlainDoes
open Go.ChangeShapes Go.WideShapes Go.ChangeAt

theorem own : ownKnob Tryz.prog.godebug = none := by kernel_rfl
theorem kids : Kids Tryz.prog (· < Tryz.prog.types.size) := kids_rows (by kernel_rfl) (by kernel_rfl)
theorem full : ∀ t e, t < Tryz.prog.types.size → Tryz.prog.underlying t = some (.slice e) → 0 < Tryz.prog.cellsOf e := slices_full_of Tryz.prog (by kernel_rfl)

set_option maxRecDepth 100000 in
theorem lifted (os : Os) (started : os.Started) (H : Type) (enc : TypeId × Value → H) :
    ReturnsInHanded {} Tryz.checked os 3 .any (Rows.plainDoesSpec.pre6 enc Tryz.prog Tryz.f3 Rows.plainDoesRow.domain false) (Rows.plainDoesSpec.post enc Tryz.prog Tryz.f3 false true false false) := by
  refine returnsInHanded_of_change (C := Tryz.checked) own started (by kernel_rfl) Tryz.func3
    (ChangeSpec.witness6 (enc := enc) (C := Tryz.checked) false ⟨#[], #[.slice none 0 0], []⟩ 8 (by kernel_rfl) (by kernel_rfl) (by kernel_rfl) (by kernel_rfl)) ?_
  intro W base args ds gs before hval0 hW _ _
  have hval : ∀ (j : Nat) t v, Tryz.f3.params[j]? = some t → args[j]? = some v → Value.okWide Tryz.prog W .any base t v := hval0
  have hW' := hW
  obtain ⟨p, q, hA0, hV, rfl, _, _⟩ := hW
  obtain ⟨rfl, rfl⟩ := trodVars_none hV
  have hA : DataW.TrodAll enc Tryz.prog W 0 (fun _ => true) true Tryz.f3.params.toList args.toList ds p := hA0
  rw [Tryz.params3] at hA hval
  obtain ⟨v0, vs0, d0, ds0, p0, q0, hargs, rfl, rfl, h0, r0⟩ := trodAll_cons hA
  obtain ⟨rfl, rfl, rfl⟩ := trodAll_nil r0
  obtain rfl : args = #[v0] := by cases args; simp_all
  have hlt := hW'.lt
  obtain ⟨L0, ho0, hsh0, hlen0⟩ := open_ops (hval 0 22 v0 rfl rfl) h0 (fun x hx => hlt x (by simp [hx]))
  refine (plainDoes_walk v0 L0 W ho0 hsh0).mono fun e W' ⟨he, hbel⟩ => ?_
  subst he
  exact ⟨_, rfl, law_post kids full (of_decide_eq_true (by kernel_rfl)) Tryz.underlying4 rfl rfl rfl hW' hbel⟩

theorem proved : Rows.PlainDoesSaid :=
  OpenClaim.holds_of_wide 3 Tryz.f3 rfl rfl rfl rfl rfl rfl rfl ⟨rfl, rfl, rfl, rfl, rfl⟩ rfl rfl rfl rfl rfl (by kernel_rfl) Tryz.func3 (by kernel_rfl)
    (of_decide_eq_true (by kernel_rfl)) (by unfold Func.isWrapper; first | (rw [if_pos (by decide +kernel)]; kernel_rfl) | (rw [if_neg (by decide +kernel)]; exact ⟨rfl, rfl⟩))
    (fun os started H enc _ => lifted os started H enc)
end lawPlainDoes

end Go.Proofs.YtknfjajmnlpfjaaGreat

/- Area of the program and of the document give what the plain text (SpecRec) gives. Condition: rows are in memory. -/
import Derived.Test.YtojponcnilahiaaRecG
import Derived.Test.YtojponcnilahiaaTupH
namespace Go.Proofs.Ytojponcnilahiaa
open Go.RowKit
open Go.Lib (strCells compareBytes)

/-- a range and an error -/
def areaVal (lo hi : List UInt8) (e : Nat) : Value := .tuple #[.agg #[.string ⟨lo.toArray⟩, .string ⟨hi.toArray⟩], .int .i64 e]
theorem area_first {id : Int} {low high : List TVal} : firstI [whenI (!isIdB id) 1, (rowErr low : Int), (rowErr high : Int)] = (areaErr id low high : Int) := by
  unfold areaErr
  cases hi : isIdB id with
  | false => simp [firstI, whenI]
  | true =>
    by_cases hl : rowErr low = 0
    · by_cases hh : rowErr high = 0
      · simp [hl, hh, firstI, whenI]
      · simp [hl, hh, firstI, whenI]
    · have : ¬ ((rowErr low : Int) = 0) := by omega
      simp [hl, firstI, whenI]
theorem area_ok {id : Int} {low high : List TVal} (h : areaErr id low high = 0) : isIdB id = true ∧ rowErr low = 0 ∧ rowErr high = 0 := by
  unfold areaErr at h
  split at h
  · omega
  · next h1 =>
    split at h
    · next h2 => exact absurd h h2
    · next h2 => exact ⟨by simpa using h1, by omega, h⟩
theorem area_bad {id : Int} {low high : List TVal} (h : areaErr id low high ≠ 0) : areaLo id low high = [] ∧ areaHi id low high = [] := by
  unfold areaLo areaHi
  rw [if_neg h, if_neg h]
  exact ⟨rfl, rfl⟩
theorem key_short {l : List TVal} (h : rowErr l = 0) {s : ByteArray} (hs : s.data.toList = keyT l) : s.size ≤ 268 := by
  have h4 := rowErr_ok.1 h
  have := keyL_len h4.2
  rw [Lib.size_eq, hs, keyT_eq h]
  omega
theorem range_store {w : World} {g : Nat} {x y x' y' : Value} {t : TypeId} (h : Box w g t #[x, y]) :
    ((w.setCell ⟨g, 0, none⟩ x').setCell ⟨g, 1, none⟩ y').cell? ⟨g, 0, none⟩ = some x' ∧ ((w.setCell ⟨g, 0, none⟩ x').setCell ⟨g, 1, none⟩ y').cell? ⟨g, 1, none⟩ = some y' := by
  have h2 := (h.set_ 0 x').set_ 1 y'
  exact ⟨h2.cell 0, h2.cell 1⟩

set_option maxHeartbeats 1600000 in
theorem area_any (id : Int) (A1 A2 : Option Addr) (n1 n2 c1 c2 B : Nat) (low high : List TVal) (w : World) (h1 : HasVals w B A1 n1 low) (h2 : HasVals w B A2 n2 high) (hn1 : n1 ≤ maxLen) (hn2 : n2 ≤ maxLen) (hw : B ≤ w.heap.size)
    (hi1 : ∀ u ∈ low, InI64 u.n) (hi2 : ∀ u ∈ high, InI64 u.n) :
    Calls Try.prog 15 #[.int .i64 id, .slice A1 n1 c1, .slice A2 n2 c2] w fun e w' => e = .returned (areaVal (areaLo id low high) (areaHi id low high) (areaErr id low high)) ∧ Below w.heap.size w w' := by
  have H1 := Lib.hid h1
  have H2 := Lib.hid h2
  have K1 := Lib.hid (fun wx (hb : Below w.heap.size w wx) => key_any A1 n1 c1 B low wx (H1.out.belowOf hb hw) hn1 (Nat.le_trans hw hb.size) hi1)
  have K2 := Lib.hid (fun wx (hb : Below w.heap.size w wx) => key_any A2 n2 c2 B high wx (H2.out.belowOf hb hw) hn2 (Nat.le_trans hw hb.size) hi2)
  simp only [textErr] at K1 K2
  clear h1 h2 hi1 hi2
  obtain ⟨sx, hsx⟩ : ∃ sx : ByteArray, ⟨(keyT low).toArray⟩ = sx := ⟨_, rfl⟩
  obtain ⟨tx, htx⟩ : ∃ tx : ByteArray, ⟨(keyT high).toArray⟩ = tx := ⟨_, rfl⟩
  have Hsx : Hid (sx.data.toList = keyT low) := Lib.hid (by rw [← hsx])
  have Htx : Hid (tx.data.toList = keyT high) := Lib.hid (by rw [← htx])
  rw [hsx] at K1
  rw [htx] at K2
  clear hsx htx
  obtain ⟨g, hg⟩ : ∃ g, w.heap.size = g := ⟨_, rfl⟩
  obtain ⟨w0, hw0⟩ : ∃ w0, w.alloc (.cells #[.string ⟨#[]⟩, .string ⟨#[]⟩] 35) = w0 := ⟨_, rfl⟩
  have Hb0 : Hid (Below w.heap.size w w0) := Lib.hid (by rw [← hw0]; exact below_box _)
  have Hbx : Hid (∀ wx, Below w0.heap.size w0 wx → Box wx g 35 #[.string ⟨#[]⟩, .string ⟨#[]⟩]) := Lib.hid fun wx hb => by
    rw [← hw0] at hb
    rw [← hg]
    exact (Box.made w _ _).below hb (by simp)
  have Hf := Lib.hid (area_first (id := id) (low := low) (high := high))
  by_cases he : areaErr id low high = 0
  · have Hok := Lib.hid (area_ok he)
    have hsl := key_short Hok.out.2.1 Hsx.out
    have htl := key_short Hok.out.2.2 Htx.out
    have E := Lib.hid he
    obtain ⟨ix, hix⟩ : ∃ ix : ByteArray, ⟨(idT id).toArray⟩ = ix := ⟨_, rfl⟩
    have Hix : Hid (ix.data.toList = idT id) := Lib.hid (by rw [← hix])
    have hixs : ix.size = 2 := by rw [Lib.size_eq, Hix.out]; rfl
    have Elo : Hid (areaLo id low high = (ix ++ sx).data.toList) := Lib.hid (by
      unfold areaLo
      rw [if_pos he, ByteArray.data_append, Array.toList_append, Hix.out, Hsx.out, keyT_eq Hok.out.2.1])
    have hthi : (ix ++ tx).data.toList = idT id ++ keyL high := by rw [ByteArray.data_append, Array.toList_append, Hix.out, Htx.out, keyT_eq Hok.out.2.2]
    have Ehi : Hid (areaHi id low high = nextT (ix ++ tx).data.toList) := Lib.hid (by
      unfold areaHi
      rw [if_pos he, hthi])
    have htt : (ix ++ tx).size ≤ maxLen := by rw [ByteArray.size_append]; simp only [maxLen]; omega
    obtain ⟨nx, hnx⟩ : ∃ nx : ByteArray, ⟨(nextT (ix ++ tx).data.toList).toArray⟩ = nx := ⟨_, rfl⟩
    have Hnx : Hid (nx.data.toList = nextT (ix ++ tx).data.toList) := Lib.hid (by rw [← hnx])
    have Hit := Lib.hid (fun wx => idText_any id Hok.out.1 wx)
    rw [hix] at Hit
    have Hn := Lib.hid (fun wx => next_any (ix ++ tx) wx htt)
    rw [hnx] at Hn
    rw [he] at Hf
    clear he hix hthi hnx htt
    go_enter Try.func15, Try.ntmps15
    go_wp2_with fail
    refine (K1.out w0 Hb0.out).mono ?_
    rintro e w1 ⟨rfl, hb1⟩
    have Hb01 := Lib.hid hb1
    have Hb1 := Lib.hid (Hb0.out.trans (hb1.mono Hb0.out.size))
    clear hb1
    go_wp2_with fail
    refine (K2.out w1 Hb1.out).mono ?_
    rintro e w2 ⟨rfl, hb2⟩
    have Hb02 := Lib.hid (Hb01.out.trans (hb2.mono Hb01.out.size))
    have Hb2 := Lib.hid (Hb1.out.trans (hb2.mono Hb1.out.size))
    clear hb2
    go_wp2_with fail
    refine (isId_any id w2).mono ?_
    rintro e w3 ⟨rfl, rfl⟩
    go_wp2_with fail
    refine (when_any _ _ _).mono ?_
    rintro e w3 ⟨rfl, rfl⟩
    go_wp2_with fail
    refine (first_lit _ #[.int .i64 (whenI (!isIdB id) 1), .int .i64 (rowErr low : Int), .int .i64 (rowErr high : Int)] _ [whenI (!isIdB id) 1, (rowErr low : Int), (rowErr high : Int)] 3 3 0 rfl rfl (by omega) Hf.out).mono ?_
    rintro e w4 ⟨rfl, rfl⟩
    have Hb04 := Lib.hid (Hb02.out.alloc Hb02.out.size (.cells #[.int .i64 (whenI (!isIdB id) 1), .int .i64 (rowErr low : Int), .int .i64 (rowErr high : Int)] 31))
    have Hb4 := Lib.hid (Hb2.out.alloc Hb2.out.size (.cells #[.int .i64 (whenI (!isIdB id) 1), .int .i64 (rowErr low : Int), .int .i64 (rowErr high : Int)] 31))
    go_wp2_with fail
    refine (Hit.out _).mono ?_
    rintro e w5 ⟨rfl, hb5⟩
    have Hb05 := Lib.hid (Hb04.out.trans (hb5.mono Hb04.out.size))
    have Hb5 := Lib.hid (Hb4.out.trans (hb5.mono Hb4.out.size))
    clear hb5
    go_wp2_with fail
    refine (Hit.out _).mono ?_
    rintro e w6 ⟨rfl, hb6⟩
    have Hb06 := Lib.hid (Hb05.out.trans (hb6.mono Hb05.out.size))
    have Hb6 := Lib.hid (Hb5.out.trans (hb6.mono Hb5.out.size))
    clear hb6
    go_wp2_with fail
    refine (Hn.out _).mono ?_
    rintro e w7 ⟨rfl, hb7⟩
    have Hb07 := Lib.hid (Hb06.out.trans (hb7.mono Hb06.out.size))
    have Hb7 := Lib.hid (Hb6.out.trans (hb7.mono Hb6.out.size))
    clear hb7
    have hbx := Hbx.out w7 Hb07.out
    obtain ⟨q0, q1, f0, f1⟩ : w7.cell? ⟨g, 0, none⟩ = some (.string ⟨#[]⟩) ∧ w7.cell? ⟨g, 1, none⟩ = some (.string ⟨#[]⟩) ∧ w7.frozen? ⟨g, 0, none⟩ = false ∧ w7.frozen? ⟨g, 1, none⟩ = false := ⟨hbx.cell 0, hbx.cell 1, hbx.frozen 0, hbx.frozen 1⟩
    obtain ⟨W3, hW3⟩ : ∃ W3, (w7.setCell ⟨g, 0, none⟩ (.string (ix ++ sx))).setCell ⟨g, 1, none⟩ (.string nx) = W3 := ⟨_, rfl⟩
    obtain ⟨p0, p1⟩ := range_store (x' := .string (ix ++ sx)) (y' := .string nx) hbx
    rw [hW3] at p0 p1
    have Hbw : Hid (Below w.heap.size w W3) := Lib.hid (by
      rw [← hW3]
      exact (Hb7.out.setCell (by rw [hg]; exact Nat.le_refl g) _).setCell (by rw [hg]; exact Nat.le_refl g) _)
    clear hbx
    go_wp2
    refine bodyPost_ret (v := areaVal (areaLo id low high) (areaHi id low high) (areaErr id low high)) ?_ rfl ⟨rfl, Hbw.out⟩
    rw [E.out, Elo.out, Ehi.out, ← Hnx.out]
    simp [results, Try.results15, go_sem, areaVal, p0, p1]
    exact bytes_ext (by simp [ByteArray.data_append])
  · obtain ⟨hz1, hz2⟩ := num_ne he
    have E := Lib.hid (area_bad he)
    clear he
    go_enter Try.func15, Try.ntmps15
    go_wp2_with fail
    refine (K1.out w0 Hb0.out).mono ?_
    rintro e w1 ⟨rfl, hb1⟩
    have Hb01 := Lib.hid hb1
    have Hb1 := Lib.hid (Hb0.out.trans (hb1.mono Hb0.out.size))
    clear hb1
    go_wp2_with fail
    refine (K2.out w1 Hb1.out).mono ?_
    rintro e w2 ⟨rfl, hb2⟩
    have Hb02 := Lib.hid (Hb01.out.trans (hb2.mono Hb01.out.size))
    have Hb2 := Lib.hid (Hb1.out.trans (hb2.mono Hb1.out.size))
    clear hb2
    go_wp2_with fail
    refine (isId_any id w2).mono ?_
    rintro e w3 ⟨rfl, rfl⟩
    go_wp2_with fail
    refine (when_any _ _ _).mono ?_
    rintro e w3 ⟨rfl, rfl⟩
    go_wp2_with fail
    refine (first_lit _ #[.int .i64 (whenI (!isIdB id) 1), .int .i64 (rowErr low : Int), .int .i64 (rowErr high : Int)] _ [whenI (!isIdB id) 1, (rowErr low : Int), (rowErr high : Int)] 3 3 (areaErr id low high : Int) rfl rfl (by omega) Hf.out).mono ?_
    rintro e w4 ⟨rfl, rfl⟩
    have Hb04 := Lib.hid (Hb02.out.alloc Hb02.out.size (.cells #[.int .i64 (whenI (!isIdB id) 1), .int .i64 (rowErr low : Int), .int .i64 (rowErr high : Int)] 31))
    have Hb4 := Lib.hid (Hb2.out.alloc Hb2.out.size (.cells #[.int .i64 (whenI (!isIdB id) 1), .int .i64 (rowErr low : Int), .int .i64 (rowErr high : Int)] 31))
    obtain ⟨w4, hw4⟩ : ∃ w4, w2.alloc (.cells #[.int .i64 (whenI (!isIdB id) 1), .int .i64 (rowErr low : Int), .int .i64 (rowErr high : Int)] 31) = w4 := ⟨_, rfl⟩
    rw [hw4] at Hb4 Hb04 ⊢
    clear hw4
    have hbx := Hbx.out w4 Hb04.out
    obtain ⟨q0, q1, f0, f1⟩ : w4.cell? ⟨g, 0, none⟩ = some (.string ⟨#[]⟩) ∧ w4.cell? ⟨g, 1, none⟩ = some (.string ⟨#[]⟩) ∧ w4.frozen? ⟨g, 0, none⟩ = false ∧ w4.frozen? ⟨g, 1, none⟩ = false := ⟨hbx.cell 0, hbx.cell 1, hbx.frozen 0, hbx.frozen 1⟩
    obtain ⟨W3, hW3⟩ : ∃ W3, (w4.setCell ⟨g, 0, none⟩ (.string ⟨#[]⟩)).setCell ⟨g, 1, none⟩ (.string ⟨#[]⟩) = W3 := ⟨_, rfl⟩
    obtain ⟨p0, p1⟩ := range_store (x' := .string ⟨#[]⟩) (y' := .string ⟨#[]⟩) hbx
    rw [hW3] at p0 p1
    have Hbw : Hid (Below w.heap.size w W3) := Lib.hid (by
      rw [← hW3]
      exact (Hb4.out.setCell (by rw [hg]; exact Nat.le_refl g) _).setCell (by rw [hg]; exact Nat.le_refl g) _)
    clear hbx
    go_wp2
    refine bodyPost_ret (v := areaVal (areaLo id low high) (areaHi id low high) (areaErr id low high)) ?_ rfl ⟨rfl, Hbw.out⟩
    rw [E.out.1, E.out.2]
    simp [results, Try.results15, go_sem, areaVal, p0, p1]

set_option maxHeartbeats 1600000 in
theorem refArea_any (id : Int) (A1 A2 : Option Addr) (n1 n2 c1 c2 B : Nat) (low high : List TVal) (w : World) (h1 : HasVals w B A1 n1 low) (h2 : HasVals w B A2 n2 high) (hn1 : n1 ≤ maxLen) (hn2 : n2 ≤ maxLen) (hw : B ≤ w.heap.size)
    (hi1 : ∀ u ∈ low, InI64 u.n) (hi2 : ∀ u ∈ high, InI64 u.n) :
    Calls Try.prog 16 #[.int .i64 id, .slice A1 n1 c1, .slice A2 n2 c2] w fun e w' => e = .returned (areaVal (areaLo id low high) (areaHi id low high) (areaErr id low high)) ∧ Below w.heap.size w w' := by
  have H1 := Lib.hid h1
  have H2 := Lib.hid h2
  have K1 := Lib.hid (fun wx (hb : Below w.heap.size w wx) => refKey_any A1 n1 c1 B low wx (H1.out.belowOf hb hw) hn1 (Nat.le_trans hw hb.size) hi1)
  have K2 := Lib.hid (fun wx (hb : Below w.heap.size w wx) => refKey_any A2 n2 c2 B high wx (H2.out.belowOf hb hw) hn2 (Nat.le_trans hw hb.size) hi2)
  simp only [textErr] at K1 K2
  clear h1 h2 hi1 hi2
  obtain ⟨sx, hsx⟩ : ∃ sx : ByteArray, ⟨(keyT low).toArray⟩ = sx := ⟨_, rfl⟩
  obtain ⟨tx, htx⟩ : ∃ tx : ByteArray, ⟨(keyT high).toArray⟩ = tx := ⟨_, rfl⟩
  have Hsx : Hid (sx.data.toList = keyT low) := Lib.hid (by rw [← hsx])
  have Htx : Hid (tx.data.toList = keyT high) := Lib.hid (by rw [← htx])
  rw [hsx] at K1
  rw [htx] at K2
  clear hsx htx
  obtain ⟨g, hg⟩ : ∃ g, w.heap.size = g := ⟨_, rfl⟩
  obtain ⟨w0, hw0⟩ : ∃ w0, w.alloc (.cells #[.string ⟨#[]⟩, .string ⟨#[]⟩] 35) = w0 := ⟨_, rfl⟩
  have Hb0 : Hid (Below w.heap.size w w0) := Lib.hid (by rw [← hw0]; exact below_box _)
  have Hbx : Hid (∀ wx, Below w0.heap.size w0 wx → Box wx g 35 #[.string ⟨#[]⟩, .string ⟨#[]⟩]) := Lib.hid fun wx hb => by
    rw [← hw0] at hb
    rw [← hg]
    exact (Box.made w _ _).below hb (by simp)
  have HE : Hid (areaErr id low high ≠ 0 → areaLo id low high = [] ∧ areaHi id low high = []) := Lib.hid area_bad
  cases hid : isIdB id with
  | false =>
    have Ee : Hid (areaErr id low high = 1) := Lib.hid (by unfold areaErr; rw [if_pos hid])
    have E := Lib.hid (HE.out (by rw [Ee.out]; omega))
    have Hb00 : Hid (Below w0.heap.size w0 w0) := Lib.hid (Below.refl _ _)
    have hx : id < 1 ∨ (1 ≤ id ∧ 6 < id) := by
      unfold isIdB at hid
      simp at hid
      omega
    clear hid
    rcases hx with hx | ⟨hx1, hx2⟩
    · go_enter Try.func16, Try.ntmps16
      have hbx := Hbx.out w0 Hb00.out
      obtain ⟨q0, q1, f0, f1⟩ : w0.cell? ⟨g, 0, none⟩ = some (.string ⟨#[]⟩) ∧ w0.cell? ⟨g, 1, none⟩ = some (.string ⟨#[]⟩) ∧ w0.frozen? ⟨g, 0, none⟩ = false ∧ w0.frozen? ⟨g, 1, none⟩ = false := ⟨hbx.cell 0, hbx.cell 1, hbx.frozen 0, hbx.frozen 1⟩
      obtain ⟨W3, hW3⟩ : ∃ W3, (w0.setCell ⟨g, 0, none⟩ (.string ⟨#[]⟩)).setCell ⟨g, 1, none⟩ (.string ⟨#[]⟩) = W3 := ⟨_, rfl⟩
      obtain ⟨p0, p1⟩ := range_store (x' := .string ⟨#[]⟩) (y' := .string ⟨#[]⟩) hbx
      rw [hW3] at p0 p1
      have Hbw : Hid (Below w.heap.size w W3) := Lib.hid (by
        rw [← hW3]
        exact (Hb0.out.setCell (by rw [hg]; exact Nat.le_refl g) _).setCell (by rw [hg]; exact Nat.le_refl g) _)
      clear hbx
      go_wp2
      refine bodyPost_ret (v := areaVal (areaLo id low high) (areaHi id low high) (areaErr id low high)) ?_ rfl ⟨rfl, Hbw.out⟩
      rw [E.out.1, E.out.2, Ee.out]
      simp [results, Try.results16, go_sem, areaVal, p0, p1]
    · go_enter Try.func16, Try.ntmps16
      have hbx := Hbx.out w0 Hb00.out
      obtain ⟨q0, q1, f0, f1⟩ : w0.cell? ⟨g, 0, none⟩ = some (.string ⟨#[]⟩) ∧ w0.cell? ⟨g, 1, none⟩ = some (.string ⟨#[]⟩) ∧ w0.frozen? ⟨g, 0, none⟩ = false ∧ w0.frozen? ⟨g, 1, none⟩ = false := ⟨hbx.cell 0, hbx.cell 1, hbx.frozen 0, hbx.frozen 1⟩
      obtain ⟨W3, hW3⟩ : ∃ W3, (w0.setCell ⟨g, 0, none⟩ (.string ⟨#[]⟩)).setCell ⟨g, 1, none⟩ (.string ⟨#[]⟩) = W3 := ⟨_, rfl⟩
      obtain ⟨p0, p1⟩ := range_store (x' := .string ⟨#[]⟩) (y' := .string ⟨#[]⟩) hbx
      rw [hW3] at p0 p1
      have Hbw : Hid (Below w.heap.size w W3) := Lib.hid (by
        rw [← hW3]
        exact (Hb0.out.setCell (by rw [hg]; exact Nat.le_refl g) _).setCell (by rw [hg]; exact Nat.le_refl g) _)
      clear hbx
      go_wp2
      refine bodyPost_ret (v := areaVal (areaLo id low high) (areaHi id low high) (areaErr id low high)) ?_ rfl ⟨rfl, Hbw.out⟩
      rw [E.out.1, E.out.2, Ee.out]
      simp [results, Try.results16, go_sem, areaVal, p0, p1]
  | true =>
    have hx : 1 ≤ id ∧ id ≤ 6 := by
      unfold isIdB at hid
      simpa using hid
    obtain ⟨hx1, hx2⟩ := hx
    by_cases h1 : rowErr low = 0
    · by_cases h2 : rowErr high = 0
      · have he : areaErr id low high = 0 := by unfold areaErr; rw [if_neg (by rw [hid]; simp), if_neg (by omega), h2]
        rw [h1] at K1
        rw [h2] at K2
        clear h1 h2 HE hid
        have Hok := Lib.hid (area_ok he)
        have hsl := key_short Hok.out.2.1 Hsx.out
        have htl := key_short Hok.out.2.2 Htx.out
        have E := Lib.hid he
        obtain ⟨ix, hix⟩ : ∃ ix : ByteArray, ⟨(idT id).toArray⟩ = ix := ⟨_, rfl⟩
        have Hix : Hid (ix.data.toList = idT id) := Lib.hid (by rw [← hix])
        have hixs : ix.size = 2 := by rw [Lib.size_eq, Hix.out]; rfl
        have Elo : Hid (areaLo id low high = (ix ++ sx).data.toList) := Lib.hid (by
          unfold areaLo
          rw [if_pos he, ByteArray.data_append, Array.toList_append, Hix.out, Hsx.out, keyT_eq Hok.out.2.1])
        have hthi : (ix ++ tx).data.toList = idT id ++ keyL high := by rw [ByteArray.data_append, Array.toList_append, Hix.out, Htx.out, keyT_eq Hok.out.2.2]
        have Ehi : Hid (areaHi id low high = nextT (ix ++ tx).data.toList) := Lib.hid (by
          unfold areaHi
          rw [if_pos he, hthi])
        have htt : (ix ++ tx).size ≤ maxLen := by rw [ByteArray.size_append]; simp only [maxLen]; omega
        obtain ⟨nx, hnx⟩ : ∃ nx : ByteArray, ⟨(nextT (ix ++ tx).data.toList).toArray⟩ = nx := ⟨_, rfl⟩
        have Hnx : Hid (nx.data.toList = nextT (ix ++ tx).data.toList) := Lib.hid (by rw [← hnx])
        have Hn := Lib.hid (fun wx => refNext_any (ix ++ tx) wx htt)
        rw [hnx] at Hn
        obtain ⟨k, rfl, hk1, hk6⟩ := idB_nat Hok.out.1
        have Hcv : Hid (∀ wx : World, (convert 62 9 (.slice (some ⟨wx.heap.size, 0, none⟩) 2 2)).run Try.prog (wx.alloc (.cells #[.int .u8 0, .int .u8 (k : Int)] 5)) = .ok (.string ix) (wx.alloc (.cells #[.int .u8 0, .int .u8 (k : Int)] 5))) := Lib.hid fun wx => by
          have hk : ((UInt8.ofNat k).toNat : Int) = (k : Int) := by rw [u8_ofNat_toNat (by omega)]
          have := string_run (lit_bytes wx [0, UInt8.ofNat k] 5 #[.int .u8 0, .int .u8 (k : Int)] (by rw [← hk]; rfl)) 2
          rw [← hix]
          exact this
        have hcv := Hcv.out
        clear he hix hthi hnx htt
        go_enter Try.func16, Try.ntmps16
        go_wp2_with fail
        refine (K1.out w0 Hb0.out).mono ?_
        rintro e w1 ⟨rfl, hb1⟩
        have Hb01 := Lib.hid hb1
        have Hb1 := Lib.hid (Hb0.out.trans (hb1.mono Hb0.out.size))
        clear hb1
        go_wp2_with fail
        refine (K2.out w1 Hb1.out).mono ?_
        rintro e w2 ⟨rfl, hb2⟩
        have Hb02 := Lib.hid (Hb01.out.trans (hb2.mono Hb01.out.size))
        have Hb2 := Lib.hid (Hb1.out.trans (hb2.mono Hb1.out.size))
        clear hb2
        go_wp2_with fail
        refine (Hn.out _).mono ?_
        rintro e w7 ⟨rfl, hb7⟩
        have Hb07 := Lib.hid ((Hb02.out.alloc Hb02.out.size _).trans (hb7.mono (Nat.le_trans Hb02.out.size (by simp))))
        have Hb7 := Lib.hid ((Hb2.out.alloc Hb2.out.size _).trans (hb7.mono (Nat.le_trans Hb2.out.size (by simp))))
        clear hb7 hcv
        have hbx := Hbx.out w7 Hb07.out
        obtain ⟨q0, q1, f0, f1⟩ : w7.cell? ⟨g, 0, none⟩ = some (.string ⟨#[]⟩) ∧ w7.cell? ⟨g, 1, none⟩ = some (.string ⟨#[]⟩) ∧ w7.frozen? ⟨g, 0, none⟩ = false ∧ w7.frozen? ⟨g, 1, none⟩ = false := ⟨hbx.cell 0, hbx.cell 1, hbx.frozen 0, hbx.frozen 1⟩
        obtain ⟨W3, hW3⟩ : ∃ W3, (w7.setCell ⟨g, 0, none⟩ (.string (ix ++ sx))).setCell ⟨g, 1, none⟩ (.string nx) = W3 := ⟨_, rfl⟩
        obtain ⟨p0, p1⟩ := range_store (x' := .string (ix ++ sx)) (y' := .string nx) hbx
        rw [hW3] at p0 p1
        have Hbw : Hid (Below w.heap.size w W3) := Lib.hid (by
          rw [← hW3]
          exact (Hb7.out.setCell (by rw [hg]; exact Nat.le_refl g) _).setCell (by rw [hg]; exact Nat.le_refl g) _)
        clear hbx
        go_wp2
        refine bodyPost_ret (v := areaVal (areaLo (k : Int) low high) (areaHi (k : Int) low high) (areaErr (k : Int) low high)) ?_ rfl ⟨rfl, Hbw.out⟩
        rw [E.out, Elo.out, Ehi.out, ← Hnx.out]
        simp [results, Try.results16, go_sem, areaVal, p0, p1]
        exact bytes_ext (by simp [ByteArray.data_append])
      · have Ee : Hid (areaErr id low high = rowErr high) := Lib.hid (by unfold areaErr; rw [if_neg (by rw [hid]; simp), if_neg (by omega)])
        have E := Lib.hid (HE.out (by rw [Ee.out]; exact h2))
        obtain ⟨hz1, hz2⟩ := num_ne h2
        rw [h1] at K1
        clear h1 h2 hid HE
        go_enter Try.func16, Try.ntmps16
        go_wp2_with fail
        refine (K1.out w0 Hb0.out).mono ?_
        rintro e w1 ⟨rfl, hb1⟩
        have Hb01 := Lib.hid hb1
        have Hb1 := Lib.hid (Hb0.out.trans (hb1.mono Hb0.out.size))
        clear hb1
        go_wp2_with fail
        refine (K2.out w1 Hb1.out).mono ?_
        rintro e w2 ⟨rfl, hb2⟩
        have Hb02 := Lib.hid (Hb01.out.trans (hb2.mono Hb01.out.size))
        have Hb2 := Lib.hid (Hb1.out.trans (hb2.mono Hb1.out.size))
        clear hb2
        have hbx := Hbx.out w2 Hb02.out
        obtain ⟨q0, q1, f0, f1⟩ : w2.cell? ⟨g, 0, none⟩ = some (.string ⟨#[]⟩) ∧ w2.cell? ⟨g, 1, none⟩ = some (.string ⟨#[]⟩) ∧ w2.frozen? ⟨g, 0, none⟩ = false ∧ w2.frozen? ⟨g, 1, none⟩ = false := ⟨hbx.cell 0, hbx.cell 1, hbx.frozen 0, hbx.frozen 1⟩
        obtain ⟨W3, hW3⟩ : ∃ W3, (w2.setCell ⟨g, 0, none⟩ (.string ⟨#[]⟩)).setCell ⟨g, 1, none⟩ (.string ⟨#[]⟩) = W3 := ⟨_, rfl⟩
        obtain ⟨p0, p1⟩ := range_store (x' := .string ⟨#[]⟩) (y' := .string ⟨#[]⟩) hbx
        rw [hW3] at p0 p1
        have Hbw : Hid (Below w.heap.size w W3) := Lib.hid (by
          rw [← hW3]
          exact (Hb2.out.setCell (by rw [hg]; exact Nat.le_refl g) _).setCell (by rw [hg]; exact Nat.le_refl g) _)
        clear hbx
        go_wp2
        refine bodyPost_ret (v := areaVal (areaLo id low high) (areaHi id low high) (areaErr id low high)) ?_ rfl ⟨rfl, Hbw.out⟩
        rw [E.out.1, E.out.2, Ee.out]
        simp [results, Try.results16, go_sem, areaVal, p0, p1]
    · have Ee : Hid (areaErr id low high = rowErr low) := Lib.hid (by unfold areaErr; rw [if_neg (by rw [hid]; simp), if_pos h1])
      have E := Lib.hid (HE.out (by rw [Ee.out]; exact h1))
      obtain ⟨hz1, hz2⟩ := num_ne h1
      clear h1 hid HE
      go_enter Try.func16, Try.ntmps16
      go_wp2_with fail
      refine (K1.out w0 Hb0.out).mono ?_
      rintro e w1 ⟨rfl, hb1⟩
      have Hb01 := Lib.hid hb1
      have Hb1 := Lib.hid (Hb0.out.trans (hb1.mono Hb0.out.size))
      clear hb1
      have hbx := Hbx.out w1 Hb01.out
      obtain ⟨q0, q1, f0, f1⟩ : w1.cell? ⟨g, 0, none⟩ = some (.string ⟨#[]⟩) ∧ w1.cell? ⟨g, 1, none⟩ = some (.string ⟨#[]⟩) ∧ w1.frozen? ⟨g, 0, none⟩ = false ∧ w1.frozen? ⟨g, 1, none⟩ = false := ⟨hbx.cell 0, hbx.cell 1, hbx.frozen 0, hbx.frozen 1⟩
      obtain ⟨W3, hW3⟩ : ∃ W3, (w1.setCell ⟨g, 0, none⟩ (.string ⟨#[]⟩)).setCell ⟨g, 1, none⟩ (.string ⟨#[]⟩) = W3 := ⟨_, rfl⟩
      obtain ⟨p0, p1⟩ := range_store (x' := .string ⟨#[]⟩) (y' := .string ⟨#[]⟩) hbx
      rw [hW3] at p0 p1
      have Hbw : Hid (Below w.heap.size w W3) := Lib.hid (by
        rw [← hW3]
        exact (Hb1.out.setCell (by rw [hg]; exact Nat.le_refl g) _).setCell (by rw [hg]; exact Nat.le_refl g) _)
      clear hbx
      go_wp2
      refine bodyPost_ret (v := areaVal (areaLo id low high) (areaHi id low high) (areaErr id low high)) ?_ rfl ⟨rfl, Hbw.out⟩
      rw [E.out.1, E.out.2, Ee.out]
      simp [results, Try.results16, go_sem, areaVal, p0, p1]

end Go.Proofs.Ytojponcnilahiaa

/- Parse of an entry gives back its index, what is shown, and the record's key. Condition: the text is an entry. -/
import Derived.Test.YtfaenejcgmnmdaaGreatPlnB
import Derived.Test.YtfaenejcgmnmdaaGreatTupQ
import Derived.Test.YtfaenejcgmnmdaaGreatRecH
namespace Go.Proofs.YtfaenejcgmnmdaaGreat
open Go.RowKit
open Go.Lib (strCells compareBytes)

theorem entryErr_zero {id : Int} {l : List TVal} {key : List UInt8} (h : entryErr id l key = 0) : isIdB id = true ∧ 1 ≤ l.length ∧ l.length ≤ 2 ∧ rowErr l = 0 ∧ l.all notNull = true ∧ keyOk key = true := by
  unfold entryErr at h
  by_cases h1 : isIdB id = false ∨ l.length = 0
  · rw [if_pos h1] at h; omega
  · rw [if_neg h1] at h
    by_cases h2 : 2 < l.length
    · rw [if_pos h2] at h; omega
    · rw [if_neg h2] at h
      by_cases h3 : rowErr l ≠ 0
      · rw [if_pos h3] at h; exact absurd h h3
      · rw [if_neg h3] at h
        by_cases h4 : (l.all notNull && keyOk key) = true
        · simp only [Bool.and_eq_true] at h4
          refine ⟨?_, ?_, by omega, by omega, h4.1, h4.2⟩
          · cases hb : isIdB id with
            | true => rfl
            | false => exact absurd (.inl hb) h1
          · have : ¬ l.length = 0 := fun e => h1 (.inr e)
            omega
        · rw [if_neg h4] at h; omega

set_option maxRecDepth 100000 in
set_option maxHeartbeats 3200000 in
theorem parse_ok (s : ByteArray) (id : Int) (m : List TVal) (key : List UInt8) (w : World) (hs : s.data.toList = entryT id m key) (he : entryErr id m key = 0) (hi : ∀ u ∈ m, InI64 u.n) :
    Calls Tryz.prog 73 #[.string s] w fun e w' => ∃ v, e = .returned (.tuple #[.int .i64 id, v, .string ⟨key.toArray⟩, .int .i64 0]) ∧ w'.ownsRow w.heap.size 67 3 v m.length (valCells m) ∧ Below w.heap.size w w' := by
  obtain ⟨h1, h2, h3, h4, h5, h6⟩ := entryErr_zero he
  have hid : 1 ≤ id ∧ id ≤ 6 := by unfold isIdB at h1; simpa using h1
  rw [entryT, if_pos he, idT] at hs
  have hg : AllGood m := allGood_of h4 hi
  have hkl : key.length ≤ 16 := by unfold keyOk at h6; simp at h6; exact h6.2
  have hsz : s.size = (keyL m).length + key.length + 3 := by rw [Lib.size_eq, hs]; simp; omega
  have hml := keyL_len (fun v hv => (hg v hv).1)
  have hs300 : s.size ≤ 300 := by omega
  have hs2 : 2 < s.size := by omega
  have b0 : s[0] = 0 := by rw [byte_at s 0 (by omega), hs]; rfl
  obtain ⟨k, rfl⟩ : ∃ k : Nat, id = (k : Int) := ⟨id.toNat, by omega⟩
  have b1 : s[1] = UInt8.ofNat k := by rw [byte_at s 1 (by omega), hs]; rfl
  have b1' : (UInt8.ofNat k).toNat = k := u8_ofNat_toNat (by omega)
  have hor : bits BinOp.or IntKind.i64 0 (k : Int) = (k : Int) := by
    have : k = 1 ∨ k = 2 ∨ k = 3 ∨ k = 4 ∨ k = 5 ∨ k = 6 := by omega
    rcases this with rfl | rfl | rfl | rfl | rfl | rfl <;> decide
  obtain ⟨t, ht⟩ : ∃ t, s.extract 2 s.size = t := ⟨_, rfl⟩
  have htl : t.data.toList = keyL m ++ 0 :: key := by rw [← ht, extract_end, hs]; simp
  have Hcut : Hid (∀ wx, Calls Tryz.prog 102 #[.string t] wx (CutPost (.ok m (0 :: key)) wx)) := Lib.hid (fun wx => by
    have h := cut_any t wx (by rw [Lib.size_eq, htl]; simp; omega)
    rw [htl, cutL_key m 4 (0 :: key) hg (by omega) rfl] at h
    exact h)
  have Hid' := Lib.hid h1
  have Hm2 := Lib.hid h2
  have Hm3 := Lib.hid h3
  have Hnn := Lib.hid h5
  have Hko := Lib.hid h6
  have Hkl := Lib.hid hkl
  clear hs he hg hkl hsz hml htl h1 h2 h3 h4 h5 h6
  go_enter Tryz.func73, Tryz.ntmps73
  go_wp2
  go_quiet (fail)
  go_wp2_with fail
  refine (isId_any _ _).mono ?_
  rintro e w1 ⟨rfl, rfl⟩
  rw [Hid'.out]
  go_wp2_with fail
  refine (Hcut.out _).mono ?_
  rintro e w2 ⟨v, rfl, ho2, hb2⟩
  obtain ⟨Av, cv, rfl, hv1, hv2, hv3⟩ := own_sliceN ho2
  have Hb2 : Hid (Below w.heap.size w w2) := Lib.hid ((below_drews (Below.refl _ w) nq).trans hb2)
  have Ho2 : Hid (w2.ownsRow w.heap.size 67 3 (.slice Av m.length cv) m.length (valCells m)) := Lib.hid ho2
  have Hnull := Lib.hid (containsNull_any Av m.length cv _ m w2 ⟨rfl, hv3⟩ (Nat.le_trans hv1 hv2) (Nat.le_refl _))
  rw [Hnn.out] at Hnull
  have hm0 : ((m.length : Int) == 0) = false := by have := Hm2.out; rw [beq_eq_false_iff_ne]; omega
  have hm2 : ¬ (2 : Int) < (m.length : Int) := by have := Hm3.out; omega
  clear hv1 hv2 hv3 ho2 hb2
  go_wp2_with fail
  refine Hnull.out.mono ?_
  rintro e w3 ⟨rfl, hb3⟩
  have Hb3 := Lib.hid (Below.then Hb2.out hb3)
  have Ho3 := Lib.hid (own_belowN Ho2.out hb3)
  obtain ⟨r, hr⟩ : ∃ r : ByteArray, (⟨(0 :: key).toArray⟩ : ByteArray) = r := ⟨_, rfl⟩
  have hrl : r.data.toList = 0 :: key := by rw [← hr]
  have hr1 : r.size = key.length + 1 := by rw [Lib.size_eq, hrl]; rfl
  have hr0 : (r.toList == []) = false := by rw [Lib.toList_data, hrl]; rfl
  have hrs : r.size ≤ 17 := by have := Hkl.out; omega
  have hrp : 1 ≤ r.size := by omega
  obtain ⟨q, hq⟩ : ∃ q, r.extract 1 r.size = q := ⟨_, rfl⟩
  have Hq : Hid (q = ⟨key.toArray⟩) := Lib.hid (by rw [← hq, extract_end, hrl]; rfl)
  have Hkey := Lib.hid (fun wx => recKey_any q wx)
  rw [hr]
  clear hb3 hrl hr1 hr
  go_wp2_with fail
  refine (Hkey.out _).mono ?_
  rintro e w4 ⟨rfl, rfl⟩
  have hko : keyOk q.data.toList = true := by rw [Hq.out]; exact Hko.out
  rw [hko]
  go_wp2
  go_quiet (fail)
  go_wp2
  refine bodyPost_ret (v := .tuple #[.int .i64 k, .slice Av m.length cv, .string q, .int .i64 0]) ?_ rfl ⟨_, by rw [Hq.out], ?_, ?_⟩
  · simp [results, Tryz.results73, go_sem]
  · exact Ho3.out
  · first | exact Hb3.out | exact below_drews Hb3.out _
end Go.Proofs.YtfaenejcgmnmdaaGreat

/- Package session: Load. Condition: a million bytes at most. -/
import Derived.Test.YtaljojjpgkmiiaaSesG
namespace Go.Proofs.Ytaljojjpgkmiiaa
open Go.RowKit
open Go.Lib (strCells)

/-- what Load answers -/
def LoadP (b : List UInt8) (w : World) (e : Ending) (w' : World) : Prop :=
  ((loadT b).2 ≠ 0 ∧ e = .returned (.tuple #[.pointer none, .int .i64 (loadT b).2]) ∧ Below w.heap.size w w') ∨
  ((loadT b).2 = 0 ∧ ∃ g v, e = .returned (.tuple #[.pointer (some ⟨g, 0, none⟩), .int .i64 0]) ∧ EndAt w' w.heap.size g v (loadT b).1 ∧ Below w.heap.size w w')
set_option maxRecDepth 100000 in
set_option maxHeartbeats 6400000 in
theorem sesLoad_any (s : ByteArray) (w : World) (hs : s.size ≤ 1000000) : Calls Try.prog 27 #[.string s] w (LoadP s.data.toList w) := by
  obtain ⟨b, hbb⟩ : ∃ b, s.data.toList = b := ⟨_, rfl⟩
  obtain ⟨w1, c, hcv, hsc, hz1, hb1, hby⟩ := conv_bytes Try.prog w 9 76 5 s Try.underlying9 Try.underlying76 Try.underlying5
  rw [hbb] at hby ⊢
  have hbl : b.length = s.size := by rw [← hbb]; exact (Lib.size_eq s).symm
  have hH := hby.has
  rw [hbl] at hH
  have hC1 : w.heap.size + 1 ≤ w1.heap.size := by omega
  obtain ⟨⟨n1, p1, e1⟩, h1⟩ : ∃ r, getNum b 0 = r := ⟨_, rfl⟩
  obtain ⟨⟨n2, p2, e2⟩, h2⟩ : ∃ r, getNum b (p1 : Nat) = r := ⟨_, rfl⟩
  obtain ⟨⟨T, p3, e3⟩, h3⟩ : ∃ r, getTexts b (p2 : Nat) 256 65536 = r := ⟨_, rfl⟩
  have HLT : Hid (loadT b = if e1 ≠ 0 then (⟨0, 0, []⟩, e1) else if e2 ≠ 0 then (⟨0, 0, []⟩, e2) else if 1099511627776 < n1 ∨ 1099511627776 < n2 then (⟨0, 0, []⟩, 3) else if e3 ≠ 0 then (⟨0, 0, []⟩, e3) else if n2 < T.length ∨ p3 < b.length then (⟨0, 0, []⟩, 3) else (⟨n1, n2, T.map txOf⟩, 0)) := Lib.hid (by
    unfold loadT
    rw [h1]
    simp only
    rw [h2]
    simp only
    rw [h3])
  have HN1 := Lib.hid (getNum_any (some ⟨w.heap.size, 0, none⟩) s.size c (w.heap.size + 1) 0 b w1 hH (by simp only [maxLen]; omega) hsc)
  have HN2 := Lib.hid (getNum_any (some ⟨w.heap.size, 0, none⟩) s.size c (w.heap.size + 1) (p1 : Nat) b w1 hH (by simp only [maxLen]; omega) hsc)
  have HN3 := Lib.hid (getTexts_any (some ⟨w.heap.size, 0, none⟩) s.size c (w.heap.size + 1) (p2 : Nat) 256 65536 b w1 hH hC1 (by omega) hsc)
  rw [h1] at HN1
  rw [h2] at HN2
  rw [h3] at HN3
  have HB := Lib.hid hb1
  have Hbl := Lib.hid hbl
  have HGd : Hid ((loadT b).2 = 0 → (loadT b).1.Good) := Lib.hid loadT_good
  have hs2 : Hid (s.size ≤ 1000000) := Lib.hid hs
  have HP3 : Hid (p3 ≤ 1000000) := Lib.hid (by
    by_cases h9 : e3 = 0
    · have h8 := getTexts_one (l := b) (p := (p2 : Nat)) (count := 256) (most := 65536) (by rw [h3]; exact h9)
      rw [h3] at h8
      have := h8.2.2.1
      simp only at this
      omega
    · have h8 := getTexts_err (l := b) (p := (p2 : Nat)) (count := 256) (most := 65536) (by rw [h3]; exact h9)
      rw [h3] at h8
      injection h8 with _ h8
      injection h8 with h8 _
      omega)
  clear hbb hby hbl hH h1 h2 h3 hb1 hC1 hs hz1
  by_cases he1 : e1 = 0
  · subst he1
    by_cases he2 : e2 = 0
    · subst he2
      by_cases hbig : 1099511627776 < n1 ∨ 1099511627776 < n2
      · have HL : Hid (loadT b = (⟨0, 0, []⟩, 3)) := Lib.hid (by rw [HLT.out, if_neg (by simp), if_neg (by simp), if_pos hbig])
        by_cases hb1 : 1099511627776 < n1
        · have g1 : (1099511627776 : Int) < (n1 : Int) := by omega
          clear HLT HGd HN3 hbig hb1
          go_enter Try.func27, Try.ntmps27
          go_wp2_with fail
          refine HN1.out.mono ?_
          rintro e w9 ⟨rfl, rfl⟩
          go_wp2_with fail
          refine HN2.out.mono ?_
          rintro e w9 ⟨rfl, rfl⟩
          go_wp2
          go_ret2
          exact .inl ⟨by rw [HL.out]; simp, by rw [HL.out]; rfl, HB.out⟩
        · have g1 : ¬ (1099511627776 : Int) < (n1 : Int) := by omega
          have g2 : (1099511627776 : Int) < (n2 : Int) := by omega
          clear HLT HGd HN3 hbig hb1
          go_enter Try.func27, Try.ntmps27
          go_wp2_with fail
          refine HN1.out.mono ?_
          rintro e w9 ⟨rfl, rfl⟩
          go_wp2_with fail
          refine HN2.out.mono ?_
          rintro e w9 ⟨rfl, rfl⟩
          go_wp2
          go_ret2
          exact .inl ⟨by rw [HL.out]; simp, by rw [HL.out]; rfl, HB.out⟩
      · have g1 : ¬ (1099511627776 : Int) < (n1 : Int) := by omega
        have g2 : ¬ (1099511627776 : Int) < (n2 : Int) := by omega
        have HL0 : Hid (loadT b = if e3 ≠ 0 then (⟨0, 0, []⟩, e3) else if n2 < T.length ∨ p3 < b.length then (⟨0, 0, []⟩, 3) else (⟨n1, n2, T.map txOf⟩, 0)) := Lib.hid (by rw [HLT.out, if_neg (by simp), if_neg (by simp), if_neg hbig])
        clear HLT hbig
        by_cases he3 : e3 = 0
        · subst he3
          obtain ⟨NT, hNT⟩ : ∃ NT, T.length = NT := ⟨_, rfl⟩
          have HNT := Lib.hid hNT
          by_cases hbad : n2 < T.length ∨ p3 < b.length
          · have HL : Hid (loadT b = (⟨0, 0, []⟩, 3)) := Lib.hid (by rw [HL0.out, if_neg (by simp), if_pos hbad])
            rw [hNT, Hbl.out] at hbad
            clear hNT
            by_cases hb1 : n2 < NT
            · have g3 : (n2 : Int) < (NT : Int) := by omega
              clear hbad hb1 HL0 HGd
              go_enter Try.func27, Try.ntmps27
              go_wp2_with fail
              refine HN1.out.mono ?_
              rintro e w9 ⟨rfl, rfl⟩
              go_wp2_with fail
              refine HN2.out.mono ?_
              rintro e w9 ⟨rfl, rfl⟩
              go_wp2_with fail
              refine HN3.out.mono ?_
              rintro e w4 ⟨v4, rfl, o4, b4⟩
              simp only [HNT.out] at o4
              obtain ⟨A4, c4, rfl, -⟩ := own_sliceN o4
              have HB4 := Lib.hid (HB.out.trans (b4.mono HB.out.size))
              clear o4 b4
              go_wp2
              go_ret2
              exact .inl ⟨by rw [HL.out]; simp, by rw [HL.out]; rfl, HB4.out⟩
            · have g3 : ¬ (n2 : Int) < (NT : Int) := by omega
              have g4 : (p3 : Int) < (s.size : Int) := by omega
              clear hbad hb1 HL0 HGd
              go_enter Try.func27, Try.ntmps27
              go_wp2_with fail
              refine HN1.out.mono ?_
              rintro e w9 ⟨rfl, rfl⟩
              go_wp2_with fail
              refine HN2.out.mono ?_
              rintro e w9 ⟨rfl, rfl⟩
              go_wp2_with fail
              refine HN3.out.mono ?_
              rintro e w4 ⟨v4, rfl, o4, b4⟩
              simp only [HNT.out] at o4
              obtain ⟨A4, c4, rfl, -⟩ := own_sliceN o4
              have HB4 := Lib.hid (HB.out.trans (b4.mono HB.out.size))
              clear o4 b4
              go_wp2
              go_ret2
              exact .inl ⟨by rw [HL.out]; simp, by rw [HL.out]; rfl, HB4.out⟩
          · have HL : Hid (loadT b = (⟨n1, n2, T.map txOf⟩, 0)) := Lib.hid (by rw [HL0.out, if_neg (by simp), if_neg hbad])
            have HGn : Hid (SE.Good ⟨n1, n2, T.map txOf⟩) := Lib.hid (by have h9 := HGd.out; rw [HL.out] at h9; exact h9 rfl)
            rw [hNT, Hbl.out] at hbad
            have g3 : ¬ (n2 : Int) < (NT : Int) := by omega
            have g4 : ¬ (p3 : Int) < (s.size : Int) := by omega
            clear hNT hbad HL0 HGd
            go_enter Try.func27, Try.ntmps27
            go_wp2_with fail
            refine HN1.out.mono ?_
            rintro e w9 ⟨rfl, rfl⟩
            go_wp2_with fail
            refine HN2.out.mono ?_
            rintro e w9 ⟨rfl, rfl⟩
            go_wp2_with fail
            refine HN3.out.mono ?_
            rintro e w4 ⟨v4, rfl, o4, b4⟩
            simp only [HNT.out] at o4
            obtain ⟨A4, c4, rfl, -⟩ := own_sliceN o4
            have HB4 := Lib.hid (HB.out.trans (b4.mono HB.out.size))
            have HE4 : Hid (EndAt (w4.alloc (.cells #[.int .i64 n1, .int .i64 n2, .slice A4 NT c4] 107)) w.heap.size w4.heap.size (.slice A4 NT c4) ⟨n1, n2, T.map txOf⟩ ∧ Below w.heap.size w (w4.alloc (.cells #[.int .i64 n1, .int .i64 n2, .slice A4 NT c4] 107))) := Lib.hid
              ⟨⟨HB4.out.size, Box.made _ _ _, by unfold OwnTx; rw [List.length_map, HNT.out, strVals_txOf]; exact own_baseN (own_belowN o4 (below_box _)) HB.out.size, HGn.out⟩, HB4.out.alloc HB4.out.size _⟩
            clear o4 b4
            go_wp2
            go_ret2
            exact .inr ⟨by rw [HL.out], _, _, rfl, by rw [HL.out]; exact HE4.out.1, HE4.out.2⟩
        · have HL : Hid (loadT b = (⟨0, 0, []⟩, e3)) := Lib.hid (by rw [HL0.out, if_pos he3])
          have g3 : ((e3 : Int) != 0) = true := by simpa using he3
          have He := Lib.hid he3
          clear HL0 HGd he3
          go_enter Try.func27, Try.ntmps27
          go_wp2_with fail
          refine HN1.out.mono ?_
          rintro e w9 ⟨rfl, rfl⟩
          go_wp2_with fail
          refine HN2.out.mono ?_
          rintro e w9 ⟨rfl, rfl⟩
          go_wp2_with fail
          refine HN3.out.mono ?_
          rintro e w4 ⟨v4, rfl, o4, b4⟩
          have HB4 := Lib.hid (HB.out.trans (b4.mono HB.out.size))
          clear o4 b4
          go_wp2
          go_ret2
          exact .inl ⟨by rw [HL.out]; exact He.out, by rw [HL.out]; rfl, HB4.out⟩
    · have HL : Hid (loadT b = (⟨0, 0, []⟩, e2)) := Lib.hid (by rw [HLT.out, if_neg (by simp), if_pos he2])
      have g3 : ((e2 : Int) != 0) = true := by simpa using he2
      have He := Lib.hid he2
      clear HLT HGd he2 HN3
      go_enter Try.func27, Try.ntmps27
      go_wp2_with fail
      refine HN1.out.mono ?_
      rintro e w9 ⟨rfl, rfl⟩
      go_wp2_with fail
      refine HN2.out.mono ?_
      rintro e w9 ⟨rfl, rfl⟩
      go_wp2
      go_ret2
      exact .inl ⟨by rw [HL.out]; exact He.out, by rw [HL.out]; rfl, HB.out⟩
  · have HL : Hid (loadT b = (⟨0, 0, []⟩, e1)) := Lib.hid (by rw [HLT.out, if_pos he1])
    have g3 : ((e1 : Int) != 0) = true := by simpa using he1
    have He := Lib.hid he1
    clear HLT HGd he1 HN3 HN2
    go_enter Try.func27, Try.ntmps27
    go_wp2_with fail
    refine HN1.out.mono ?_
    rintro e w9 ⟨rfl, rfl⟩
    go_wp2
    go_ret2
    exact .inl ⟨by rw [HL.out]; exact He.out, by rw [HL.out]; rfl, HB.out⟩
end Go.Proofs.Ytaljojjpgkmiiaa

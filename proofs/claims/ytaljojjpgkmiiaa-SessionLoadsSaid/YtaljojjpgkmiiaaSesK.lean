/- The document's Load of an end. Condition: a million bytes at most. -/
import Derived.Test.YtaljojjpgkmiiaaSesG
import Derived.Test.YtaljojjpgkmiiaaSesJ
import Derived.Test.YtaljojjpgkmiiaaWalkU
namespace Go.Proofs.Ytaljojjpgkmiiaa
open Go.RowKit
open Go.Lib (strCells)

/-- what the document's Load answers -/
def RLoadP (b : List UInt8) (w : World) (e : Ending) (w' : World) : Prop :=
  ((loadT b).2 ≠ 0 ∧ e = .returned (.tuple #[.pointer none, .int .i64 (loadT b).2]) ∧ Below w.heap.size w w') ∨
  ((loadT b).2 = 0 ∧ ∃ g v, e = .returned (.tuple #[.pointer (some ⟨g, 0, none⟩), .int .i64 0]) ∧ RefAt w' w.heap.size g v (loadT b).1 ∧ Below w.heap.size w w')
set_option maxRecDepth 100000 in
set_option maxHeartbeats 12800000 in
theorem refLoad_any (s : ByteArray) (w : World) (hs : s.size ≤ 1000000) : Calls Try.prog 31 #[.string s] w (RLoadP s.data.toList w) := by
  obtain ⟨b, hbb⟩ : ∃ b, s.data.toList = b := ⟨_, rfl⟩
  obtain ⟨w1, c, hcv, hsc, hz1, hb1, hby⟩ := conv_bytes Try.prog w 9 76 5 s Try.underlying9 Try.underlying76 Try.underlying5
  rw [hbb] at hby ⊢
  have hbl : b.length = s.size := by rw [← hbb]; exact (Lib.size_eq s).symm
  have hH := hby.has
  rw [hbl] at hH
  have hC1 : w.heap.size + 1 ≤ w1.heap.size := by omega
  obtain ⟨⟨n1, p1, e1⟩, h1⟩ : ∃ r, getNum b 0 = r := ⟨_, rfl⟩
  obtain ⟨⟨n2, p2, e2⟩, h2⟩ : ∃ r, getNum b (p1 : Nat) = r := ⟨_, rfl⟩
  obtain ⟨⟨T, p3, e3⟩, h3⟩ : ∃ r, getTexts b (p2 : Nat) 256 65536 = r := ⟨_, rfl⟩
  have HLT : Hid (loadT b = if e1 ≠ 0 then (⟨0, 0, []⟩, e1) else if e2 ≠ 0 then (⟨0, 0, []⟩, e2) else if 1099511627776 < n1 ∨ 1099511627776 < n2 then (⟨0, 0, []⟩, 3) else if e3 ≠ 0 then (⟨0, 0, []⟩, e3) else if n2 < T.length ∨ p3 < b.length then (⟨0, 0, []⟩, 3) else (⟨n1, n2, T.map txOf⟩, 0)) := Lib.hid (by
    unfold loadT
    rw [h1]
    simp only
    rw [h2]
    simp only
    rw [h3])
  have HN1 := Lib.hid (fun wx (hx : Below w1.heap.size w1 wx) => refNum_any (some ⟨w.heap.size, 0, none⟩) s.size c (w.heap.size + 1) 0 b wx (Has.below hH (hx.mono hC1)) (Nat.le_trans hC1 hx.size) (by omega))
  have HN2 := Lib.hid (fun wx (hx : Below w1.heap.size w1 wx) => refNum_any (some ⟨w.heap.size, 0, none⟩) s.size c (w.heap.size + 1) (p1 : Nat) b wx (Has.below hH (hx.mono hC1)) (Nat.le_trans hC1 hx.size) (by omega))
  have HN3 := Lib.hid (fun wx (hx : Below w1.heap.size w1 wx) => refTexts_any (some ⟨w.heap.size, 0, none⟩) s.size c (w.heap.size + 1) (p2 : Nat) 256 65536 b wx (Has.below hH (hx.mono hC1)) (Nat.le_trans hC1 hx.size) (by omega) hsc)
  rw [h1] at HN1
  rw [h2] at HN2
  rw [h3] at HN3
  have HB := Lib.hid hb1
  have Hbl := Lib.hid hbl
  have HGd : Hid ((loadT b).2 = 0 → (loadT b).1.Good) := Lib.hid loadT_good
  have hs2 : Hid (s.size ≤ 1000000) := Lib.hid hs
  obtain ⟨NT, hNT⟩ : ∃ NT, T.length = NT := ⟨_, rfl⟩
  have HNT := Lib.hid hNT
  have HP3 : Hid (p3 ≤ 1000000 ∧ (e3 = 0 → p3 ≤ s.size)) := Lib.hid (by
    by_cases h9 : e3 = 0
    · have h8 := getTexts_one (l := b) (p := (p2 : Nat)) (count := 256) (most := 65536) (by rw [h3]; exact h9)
      rw [h3] at h8
      have := h8.2.2.1
      simp only at this
      exact ⟨by omega, fun _ => by omega⟩
    · have h8 := getTexts_err (l := b) (p := (p2 : Nat)) (count := 256) (most := 65536) (by rw [h3]; exact h9)
      rw [h3] at h8
      injection h8 with _ h8
      injection h8 with h8 _
      exact ⟨by omega, fun h => absurd h h9⟩)
  clear hNT hbb hby hbl hH h1 h2 h3 hb1 hC1 hs hz1
  by_cases he1 : e1 = 0
  · subst he1
    by_cases he2 : e2 = 0
    · subst he2
      by_cases hbig : 1099511627776 < n1 ∨ 1099511627776 < n2
      · have HL : Hid (loadT b = (⟨0, 0, []⟩, 3)) := Lib.hid (by rw [HLT.out, if_neg (by simp), if_neg (by simp), if_pos hbig])
        by_cases hb1 : 1099511627776 < n1
        · have g1 : (1099511627776 : Int) < (n1 : Int) := by omega
          clear HLT HGd HN3 hbig hb1
          go_enter Try.func31, Try.ntmps31
          go_wp2_with fail
          refine (HN1.out w1 (Below.refl _ _)).mono ?_
          rintro e w2 ⟨rfl, b2⟩
          unfold got
          have HB2 : Hid (Below w1.heap.size w1 w2 ∧ Below w.heap.size w w2) := Lib.hid ⟨b2, HB.out.trans (b2.mono HB.out.size)⟩
          clear b2
          have HX1 : Hid (Box (w2.alloc (.cells #[.int .i64 n1, .string ⟨#[]⟩, .slice none 0 0, .int .i64 p1, .int .i64 0] 119)) w2.heap.size 119 #[.int .i64 n1, .string ⟨#[]⟩, .slice none 0 0, .int .i64 p1, .int .i64 0] ∧ Below w1.heap.size w1 (w2.alloc (.cells #[.int .i64 n1, .string ⟨#[]⟩, .slice none 0 0, .int .i64 p1, .int .i64 0] 119))) := Lib.hid ⟨Box.made _ _ _, HB2.out.1.alloc HB2.out.1.size _⟩
          go_wp2_with fail
          refine (HN2.out _ HX1.out.2).mono ?_
          rintro e w3 ⟨rfl, b3⟩
          unfold got
          have HB3 : Hid (Below w1.heap.size w1 w3 ∧ Below w.heap.size w w3 ∧ Box w3 w2.heap.size 119 #[.int .i64 n1, .string ⟨#[]⟩, .slice none 0 0, .int .i64 p1, .int .i64 0]) := Lib.hid ⟨HX1.out.2.trans (b3.mono HX1.out.2.size), HB.out.trans ((HX1.out.2.trans (b3.mono HX1.out.2.size)).mono HB.out.size), HX1.out.1.below b3 HX1.out.1.lt⟩
          clear b3
          have HX2 : Hid (Box (w3.alloc (.cells #[.int .i64 n2, .string ⟨#[]⟩, .slice none 0 0, .int .i64 p2, .int .i64 0] 119)) w2.heap.size 119 #[.int .i64 n1, .string ⟨#[]⟩, .slice none 0 0, .int .i64 p1, .int .i64 0] ∧ Box (w3.alloc (.cells #[.int .i64 n2, .string ⟨#[]⟩, .slice none 0 0, .int .i64 p2, .int .i64 0] 119)) w3.heap.size 119 #[.int .i64 n2, .string ⟨#[]⟩, .slice none 0 0, .int .i64 p2, .int .i64 0] ∧ Below w1.heap.size w1 (w3.alloc (.cells #[.int .i64 n2, .string ⟨#[]⟩, .slice none 0 0, .int .i64 p2, .int .i64 0] 119)) ∧ Below w.heap.size w (w3.alloc (.cells #[.int .i64 n2, .string ⟨#[]⟩, .slice none 0 0, .int .i64 p2, .int .i64 0] 119))) := Lib.hid ⟨HB3.out.2.2.alloc _, Box.made _ _ _, HB3.out.1.alloc HB3.out.1.size _, HB3.out.2.1.alloc HB3.out.2.1.size _⟩
          have y0 : (w3.alloc (.cells #[.int .i64 n2, .string ⟨#[]⟩, .slice none 0 0, .int .i64 p2, .int .i64 0] 119)).cell? ⟨w2.heap.size, 0, none⟩ = some (.int .i64 n1) := HX2.out.1.cell 0
          go_wp2
          go_ret2
          exact .inl ⟨by rw [HL.out]; simp, by rw [HL.out]; rfl, HX2.out.2.2.2⟩
        · have g1 : ¬ (1099511627776 : Int) < (n1 : Int) := by omega
          have g2 : (1099511627776 : Int) < (n2 : Int) := by omega
          clear HLT HGd HN3 hbig hb1
          go_enter Try.func31, Try.ntmps31
          go_wp2_with fail
          refine (HN1.out w1 (Below.refl _ _)).mono ?_
          rintro e w2 ⟨rfl, b2⟩
          unfold got
          have HB2 : Hid (Below w1.heap.size w1 w2 ∧ Below w.heap.size w w2) := Lib.hid ⟨b2, HB.out.trans (b2.mono HB.out.size)⟩
          clear b2
          have HX1 : Hid (Box (w2.alloc (.cells #[.int .i64 n1, .string ⟨#[]⟩, .slice none 0 0, .int .i64 p1, .int .i64 0] 119)) w2.heap.size 119 #[.int .i64 n1, .string ⟨#[]⟩, .slice none 0 0, .int .i64 p1, .int .i64 0] ∧ Below w1.heap.size w1 (w2.alloc (.cells #[.int .i64 n1, .string ⟨#[]⟩, .slice none 0 0, .int .i64 p1, .int .i64 0] 119))) := Lib.hid ⟨Box.made _ _ _, HB2.out.1.alloc HB2.out.1.size _⟩
          go_wp2_with fail
          refine (HN2.out _ HX1.out.2).mono ?_
          rintro e w3 ⟨rfl, b3⟩
          unfold got
          have HB3 : Hid (Below w1.heap.size w1 w3 ∧ Below w.heap.size w w3 ∧ Box w3 w2.heap.size 119 #[.int .i64 n1, .string ⟨#[]⟩, .slice none 0 0, .int .i64 p1, .int .i64 0]) := Lib.hid ⟨HX1.out.2.trans (b3.mono HX1.out.2.size), HB.out.trans ((HX1.out.2.trans (b3.mono HX1.out.2.size)).mono HB.out.size), HX1.out.1.below b3 HX1.out.1.lt⟩
          clear b3
          have HX2 : Hid (Box (w3.alloc (.cells #[.int .i64 n2, .string ⟨#[]⟩, .slice none 0 0, .int .i64 p2, .int .i64 0] 119)) w2.heap.size 119 #[.int .i64 n1, .string ⟨#[]⟩, .slice none 0 0, .int .i64 p1, .int .i64 0] ∧ Box (w3.alloc (.cells #[.int .i64 n2, .string ⟨#[]⟩, .slice none 0 0, .int .i64 p2, .int .i64 0] 119)) w3.heap.size 119 #[.int .i64 n2, .string ⟨#[]⟩, .slice none 0 0, .int .i64 p2, .int .i64 0] ∧ Below w1.heap.size w1 (w3.alloc (.cells #[.int .i64 n2, .string ⟨#[]⟩, .slice none 0 0, .int .i64 p2, .int .i64 0] 119)) ∧ Below w.heap.size w (w3.alloc (.cells #[.int .i64 n2, .string ⟨#[]⟩, .slice none 0 0, .int .i64 p2, .int .i64 0] 119))) := Lib.hid ⟨HB3.out.2.2.alloc _, Box.made _ _ _, HB3.out.1.alloc HB3.out.1.size _, HB3.out.2.1.alloc HB3.out.2.1.size _⟩
          have y0 : (w3.alloc (.cells #[.int .i64 n2, .string ⟨#[]⟩, .slice none 0 0, .int .i64 p2, .int .i64 0] 119)).cell? ⟨w2.heap.size, 0, none⟩ = some (.int .i64 n1) := HX2.out.1.cell 0
          go_wp2
          go_ret2
          exact .inl ⟨by rw [HL.out]; simp, by rw [HL.out]; rfl, HX2.out.2.2.2⟩
      · have g1 : ¬ (1099511627776 : Int) < (n1 : Int) := by omega
        have g2 : ¬ (1099511627776 : Int) < (n2 : Int) := by omega
        have HL0 : Hid (loadT b = if e3 ≠ 0 then (⟨0, 0, []⟩, e3) else if n2 < T.length ∨ p3 < b.length then (⟨0, 0, []⟩, 3) else (⟨n1, n2, T.map txOf⟩, 0)) := Lib.hid (by rw [HLT.out, if_neg (by simp), if_neg (by simp), if_neg hbig])
        clear HLT hbig
        by_cases he3 : e3 = 0
        · subst he3
          by_cases hbad : n2 < T.length ∨ p3 < b.length
          · have HL : Hid (loadT b = (⟨0, 0, []⟩, 3)) := Lib.hid (by rw [HL0.out, if_neg (by simp), if_pos hbad])
            rw [HNT.out, Hbl.out] at hbad
            by_cases hb1 : n2 < NT
            · have g3 : (n2 : Int) < (NT : Int) := by omega
              clear hbad hb1 HL0 HGd
              go_enter Try.func31, Try.ntmps31
              go_wp2_with fail
              refine (HN1.out w1 (Below.refl _ _)).mono ?_
              rintro e w2 ⟨rfl, b2⟩
              unfold got
              have HB2 : Hid (Below w1.heap.size w1 w2 ∧ Below w.heap.size w w2) := Lib.hid ⟨b2, HB.out.trans (b2.mono HB.out.size)⟩
              clear b2
              have HX1 : Hid (Box (w2.alloc (.cells #[.int .i64 n1, .string ⟨#[]⟩, .slice none 0 0, .int .i64 p1, .int .i64 0] 119)) w2.heap.size 119 #[.int .i64 n1, .string ⟨#[]⟩, .slice none 0 0, .int .i64 p1, .int .i64 0] ∧ Below w1.heap.size w1 (w2.alloc (.cells #[.int .i64 n1, .string ⟨#[]⟩, .slice none 0 0, .int .i64 p1, .int .i64 0] 119))) := Lib.hid ⟨Box.made _ _ _, HB2.out.1.alloc HB2.out.1.size _⟩
              go_wp2_with fail
              refine (HN2.out _ HX1.out.2).mono ?_
              rintro e w3 ⟨rfl, b3⟩
              unfold got
              have HB3 : Hid (Below w1.heap.size w1 w3 ∧ Below w.heap.size w w3 ∧ Box w3 w2.heap.size 119 #[.int .i64 n1, .string ⟨#[]⟩, .slice none 0 0, .int .i64 p1, .int .i64 0]) := Lib.hid ⟨HX1.out.2.trans (b3.mono HX1.out.2.size), HB.out.trans ((HX1.out.2.trans (b3.mono HX1.out.2.size)).mono HB.out.size), HX1.out.1.below b3 HX1.out.1.lt⟩
              clear b3
              have HX2 : Hid (Box (w3.alloc (.cells #[.int .i64 n2, .string ⟨#[]⟩, .slice none 0 0, .int .i64 p2, .int .i64 0] 119)) w2.heap.size 119 #[.int .i64 n1, .string ⟨#[]⟩, .slice none 0 0, .int .i64 p1, .int .i64 0] ∧ Box (w3.alloc (.cells #[.int .i64 n2, .string ⟨#[]⟩, .slice none 0 0, .int .i64 p2, .int .i64 0] 119)) w3.heap.size 119 #[.int .i64 n2, .string ⟨#[]⟩, .slice none 0 0, .int .i64 p2, .int .i64 0] ∧ Below w1.heap.size w1 (w3.alloc (.cells #[.int .i64 n2, .string ⟨#[]⟩, .slice none 0 0, .int .i64 p2, .int .i64 0] 119)) ∧ Below w.heap.size w (w3.alloc (.cells #[.int .i64 n2, .string ⟨#[]⟩, .slice none 0 0, .int .i64 p2, .int .i64 0] 119))) := Lib.hid ⟨HB3.out.2.2.alloc _, Box.made _ _ _, HB3.out.1.alloc HB3.out.1.size _, HB3.out.2.1.alloc HB3.out.2.1.size _⟩
              have y0 : (w3.alloc (.cells #[.int .i64 n2, .string ⟨#[]⟩, .slice none 0 0, .int .i64 p2, .int .i64 0] 119)).cell? ⟨w2.heap.size, 0, none⟩ = some (.int .i64 n1) := HX2.out.1.cell 0
              go_wp2_with fail
              refine (HN3.out _ HX2.out.2.2.1).mono ?_
              rintro e w4 ⟨v4, rfl, o4, b4⟩
              unfold got
              simp only [HNT.out] at o4
              obtain ⟨A4, c4, rfl, -⟩ := own_sliceN o4
              have HB4 : Hid (Below w1.heap.size w1 w4 ∧ Below w.heap.size w w4 ∧ Box w4 w2.heap.size 119 #[.int .i64 n1, .string ⟨#[]⟩, .slice none 0 0, .int .i64 p1, .int .i64 0] ∧ Box w4 w3.heap.size 119 #[.int .i64 n2, .string ⟨#[]⟩, .slice none 0 0, .int .i64 p2, .int .i64 0]) := Lib.hid ⟨HX2.out.2.2.1.trans (b4.mono HX2.out.2.2.1.size), HX2.out.2.2.2.trans (b4.mono HX2.out.2.2.2.size), HX2.out.1.below b4 HX2.out.1.lt, HX2.out.2.1.below b4 HX2.out.2.1.lt⟩
              have Ho4 : Hid (w4.ownsRow w.heap.size 9 1 (.slice A4 NT c4) NT (strVals T)) := Lib.hid (own_baseN o4 HX2.out.2.2.2.size)
              clear o4 b4
              have HX3 : Hid (Box (w4.alloc (.cells #[.int .i64 0, .string ⟨#[]⟩, .slice A4 NT c4, .int .i64 p3, .int .i64 0] 119)) w2.heap.size 119 #[.int .i64 n1, .string ⟨#[]⟩, .slice none 0 0, .int .i64 p1, .int .i64 0] ∧ Box (w4.alloc (.cells #[.int .i64 0, .string ⟨#[]⟩, .slice A4 NT c4, .int .i64 p3, .int .i64 0] 119)) w3.heap.size 119 #[.int .i64 n2, .string ⟨#[]⟩, .slice none 0 0, .int .i64 p2, .int .i64 0] ∧ Below w.heap.size w (w4.alloc (.cells #[.int .i64 0, .string ⟨#[]⟩, .slice A4 NT c4, .int .i64 p3, .int .i64 0] 119)) ∧ (w4.alloc (.cells #[.int .i64 0, .string ⟨#[]⟩, .slice A4 NT c4, .int .i64 p3, .int .i64 0] 119)).ownsRow w.heap.size 9 1 (.slice A4 NT c4) NT (strVals T)) := Lib.hid ⟨HB4.out.2.2.1.alloc _, HB4.out.2.2.2.alloc _, HB4.out.2.1.alloc HB4.out.2.1.size _, own_belowN Ho4.out (below_box _)⟩
              have z0 : (w4.alloc (.cells #[.int .i64 0, .string ⟨#[]⟩, .slice A4 NT c4, .int .i64 p3, .int .i64 0] 119)).cell? ⟨w2.heap.size, 0, none⟩ = some (.int .i64 n1) := HX3.out.1.cell 0
              have z1 : (w4.alloc (.cells #[.int .i64 0, .string ⟨#[]⟩, .slice A4 NT c4, .int .i64 p3, .int .i64 0] 119)).cell? ⟨w3.heap.size, 0, none⟩ = some (.int .i64 n2) := HX3.out.2.1.cell 0
              go_wp2
              go_ret2
              exact .inl ⟨by rw [HL.out]; simp, by rw [HL.out]; rfl, HX3.out.2.2.1⟩
            · have g3 : ¬ (n2 : Int) < (NT : Int) := by omega
              have g4 : ((p3 : Int) != (s.size : Int)) = true := by simp; omega
              clear hbad hb1 HL0 HGd
              go_enter Try.func31, Try.ntmps31
              go_wp2_with fail
              refine (HN1.out w1 (Below.refl _ _)).mono ?_
              rintro e w2 ⟨rfl, b2⟩
              unfold got
              have HB2 : Hid (Below w1.heap.size w1 w2 ∧ Below w.heap.size w w2) := Lib.hid ⟨b2, HB.out.trans (b2.mono HB.out.size)⟩
              clear b2
              have HX1 : Hid (Box (w2.alloc (.cells #[.int .i64 n1, .string ⟨#[]⟩, .slice none 0 0, .int .i64 p1, .int .i64 0] 119)) w2.heap.size 119 #[.int .i64 n1, .string ⟨#[]⟩, .slice none 0 0, .int .i64 p1, .int .i64 0] ∧ Below w1.heap.size w1 (w2.alloc (.cells #[.int .i64 n1, .string ⟨#[]⟩, .slice none 0 0, .int .i64 p1, .int .i64 0] 119))) := Lib.hid ⟨Box.made _ _ _, HB2.out.1.alloc HB2.out.1.size _⟩
              go_wp2_with fail
              refine (HN2.out _ HX1.out.2).mono ?_
              rintro e w3 ⟨rfl, b3⟩
              unfold got
              have HB3 : Hid (Below w1.heap.size w1 w3 ∧ Below w.heap.size w w3 ∧ Box w3 w2.heap.size 119 #[.int .i64 n1, .string ⟨#[]⟩, .slice none 0 0, .int .i64 p1, .int .i64 0]) := Lib.hid ⟨HX1.out.2.trans (b3.mono HX1.out.2.size), HB.out.trans ((HX1.out.2.trans (b3.mono HX1.out.2.size)).mono HB.out.size), HX1.out.1.below b3 HX1.out.1.lt⟩
              clear b3
              have HX2 : Hid (Box (w3.alloc (.cells #[.int .i64 n2, .string ⟨#[]⟩, .slice none 0 0, .int .i64 p2, .int .i64 0] 119)) w2.heap.size 119 #[.int .i64 n1, .string ⟨#[]⟩, .slice none 0 0, .int .i64 p1, .int .i64 0] ∧ Box (w3.alloc (.cells #[.int .i64 n2, .string ⟨#[]⟩, .slice none 0 0, .int .i64 p2, .int .i64 0] 119)) w3.heap.size 119 #[.int .i64 n2, .string ⟨#[]⟩, .slice none 0 0, .int .i64 p2, .int .i64 0] ∧ Below w1.heap.size w1 (w3.alloc (.cells #[.int .i64 n2, .string ⟨#[]⟩, .slice none 0 0, .int .i64 p2, .int .i64 0] 119)) ∧ Below w.heap.size w (w3.alloc (.cells #[.int .i64 n2, .string ⟨#[]⟩, .slice none 0 0, .int .i64 p2, .int .i64 0] 119))) := Lib.hid ⟨HB3.out.2.2.alloc _, Box.made _ _ _, HB3.out.1.alloc HB3.out.1.size _, HB3.out.2.1.alloc HB3.out.2.1.size _⟩
              have y0 : (w3.alloc (.cells #[.int .i64 n2, .string ⟨#[]⟩, .slice none 0 0, .int .i64 p2, .int .i64 0] 119)).cell? ⟨w2.heap.size, 0, none⟩ = some (.int .i64 n1) := HX2.out.1.cell 0
              go_wp2_with fail
              refine (HN3.out _ HX2.out.2.2.1).mono ?_
              rintro e w4 ⟨v4, rfl, o4, b4⟩
              unfold got
              simp only [HNT.out] at o4
              obtain ⟨A4, c4, rfl, -⟩ := own_sliceN o4
              have HB4 : Hid (Below w1.heap.size w1 w4 ∧ Below w.heap.size w w4 ∧ Box w4 w2.heap.size 119 #[.int .i64 n1, .string ⟨#[]⟩, .slice none 0 0, .int .i64 p1, .int .i64 0] ∧ Box w4 w3.heap.size 119 #[.int .i64 n2, .string ⟨#[]⟩, .slice none 0 0, .int .i64 p2, .int .i64 0]) := Lib.hid ⟨HX2.out.2.2.1.trans (b4.mono HX2.out.2.2.1.size), HX2.out.2.2.2.trans (b4.mono HX2.out.2.2.2.size), HX2.out.1.below b4 HX2.out.1.lt, HX2.out.2.1.below b4 HX2.out.2.1.lt⟩
              have Ho4 : Hid (w4.ownsRow w.heap.size 9 1 (.slice A4 NT c4) NT (strVals T)) := Lib.hid (own_baseN o4 HX2.out.2.2.2.size)
              clear o4 b4
              have HX3 : Hid (Box (w4.alloc (.cells #[.int .i64 0, .string ⟨#[]⟩, .slice A4 NT c4, .int .i64 p3, .int .i64 0] 119)) w2.heap.size 119 #[.int .i64 n1, .string ⟨#[]⟩, .slice none 0 0, .int .i64 p1, .int .i64 0] ∧ Box (w4.alloc (.cells #[.int .i64 0, .string ⟨#[]⟩, .slice A4 NT c4, .int .i64 p3, .int .i64 0] 119)) w3.heap.size 119 #[.int .i64 n2, .string ⟨#[]⟩, .slice none 0 0, .int .i64 p2, .int .i64 0] ∧ Below w.heap.size w (w4.alloc (.cells #[.int .i64 0, .string ⟨#[]⟩, .slice A4 NT c4, .int .i64 p3, .int .i64 0] 119)) ∧ (w4.alloc (.cells #[.int .i64 0, .string ⟨#[]⟩, .slice A4 NT c4, .int .i64 p3, .int .i64 0] 119)).ownsRow w.heap.size 9 1 (.slice A4 NT c4) NT (strVals T)) := Lib.hid ⟨HB4.out.2.2.1.alloc _, HB4.out.2.2.2.alloc _, HB4.out.2.1.alloc HB4.out.2.1.size _, own_belowN Ho4.out (below_box _)⟩
              have z0 : (w4.alloc (.cells #[.int .i64 0, .string ⟨#[]⟩, .slice A4 NT c4, .int .i64 p3, .int .i64 0] 119)).cell? ⟨w2.heap.size, 0, none⟩ = some (.int .i64 n1) := HX3.out.1.cell 0
              have z1 : (w4.alloc (.cells #[.int .i64 0, .string ⟨#[]⟩, .slice A4 NT c4, .int .i64 p3, .int .i64 0] 119)).cell? ⟨w3.heap.size, 0, none⟩ = some (.int .i64 n2) := HX3.out.2.1.cell 0
              go_wp2
              go_ret2
              exact .inl ⟨by rw [HL.out]; simp, by rw [HL.out]; rfl, HX3.out.2.2.1⟩
          · have HL : Hid (loadT b = (⟨n1, n2, T.map txOf⟩, 0)) := Lib.hid (by rw [HL0.out, if_neg (by simp), if_neg hbad])
            have HGn : Hid (SE.Good ⟨n1, n2, T.map txOf⟩) := Lib.hid (by have h9 := HGd.out; rw [HL.out] at h9; exact h9 rfl)
            rw [HNT.out, Hbl.out] at hbad
            have g3 : ¬ (n2 : Int) < (NT : Int) := by omega
            have hps : p3 = s.size := by have := HP3.out.2 rfl; omega
            have g4 : ((p3 : Int) != (s.size : Int)) = false := by simp; omega
            have hd : IntKind.i64.wrap ((n2 : Int) - (NT : Int)) = ((n2 - NT : Nat) : Int) := by rw [show (n2 : Int) - (NT : Int) = ((n2 - NT : Nat) : Int) from by omega]; exact IntWalk.i64_in _ (by omega)
            clear hbad HL0 HGd hps
            go_enter Try.func31, Try.ntmps31
            go_wp2_with fail
            refine (HN1.out w1 (Below.refl _ _)).mono ?_
            rintro e w2 ⟨rfl, b2⟩
            unfold got
            have HB2 : Hid (Below w1.heap.size w1 w2 ∧ Below w.heap.size w w2) := Lib.hid ⟨b2, HB.out.trans (b2.mono HB.out.size)⟩
            clear b2
            have HX1 : Hid (Box (w2.alloc (.cells #[.int .i64 n1, .string ⟨#[]⟩, .slice none 0 0, .int .i64 p1, .int .i64 0] 119)) w2.heap.size 119 #[.int .i64 n1, .string ⟨#[]⟩, .slice none 0 0, .int .i64 p1, .int .i64 0] ∧ Below w1.heap.size w1 (w2.alloc (.cells #[.int .i64 n1, .string ⟨#[]⟩, .slice none 0 0, .int .i64 p1, .int .i64 0] 119))) := Lib.hid ⟨Box.made _ _ _, HB2.out.1.alloc HB2.out.1.size _⟩
            go_wp2_with fail
            refine (HN2.out _ HX1.out.2).mono ?_
            rintro e w3 ⟨rfl, b3⟩
            unfold got
            have HB3 : Hid (Below w1.heap.size w1 w3 ∧ Below w.heap.size w w3 ∧ Box w3 w2.heap.size 119 #[.int .i64 n1, .string ⟨#[]⟩, .slice none 0 0, .int .i64 p1, .int .i64 0]) := Lib.hid ⟨HX1.out.2.trans (b3.mono HX1.out.2.size), HB.out.trans ((HX1.out.2.trans (b3.mono HX1.out.2.size)).mono HB.out.size), HX1.out.1.below b3 HX1.out.1.lt⟩
            clear b3
            have HX2 : Hid (Box (w3.alloc (.cells #[.int .i64 n2, .string ⟨#[]⟩, .slice none 0 0, .int .i64 p2, .int .i64 0] 119)) w2.heap.size 119 #[.int .i64 n1, .string ⟨#[]⟩, .slice none 0 0, .int .i64 p1, .int .i64 0] ∧ Box (w3.alloc (.cells #[.int .i64 n2, .string ⟨#[]⟩, .slice none 0 0, .int .i64 p2, .int .i64 0] 119)) w3.heap.size 119 #[.int .i64 n2, .string ⟨#[]⟩, .slice none 0 0, .int .i64 p2, .int .i64 0] ∧ Below w1.heap.size w1 (w3.alloc (.cells #[.int .i64 n2, .string ⟨#[]⟩, .slice none 0 0, .int .i64 p2, .int .i64 0] 119)) ∧ Below w.heap.size w (w3.alloc (.cells #[.int .i64 n2, .string ⟨#[]⟩, .slice none 0 0, .int .i64 p2, .int .i64 0] 119))) := Lib.hid ⟨HB3.out.2.2.alloc _, Box.made _ _ _, HB3.out.1.alloc HB3.out.1.size _, HB3.out.2.1.alloc HB3.out.2.1.size _⟩
            have y0 : (w3.alloc (.cells #[.int .i64 n2, .string ⟨#[]⟩, .slice none 0 0, .int .i64 p2, .int .i64 0] 119)).cell? ⟨w2.heap.size, 0, none⟩ = some (.int .i64 n1) := HX2.out.1.cell 0
            go_wp2_with fail
            refine (HN3.out _ HX2.out.2.2.1).mono ?_
            rintro e w4 ⟨v4, rfl, o4, b4⟩
            unfold got
            simp only [HNT.out] at o4
            obtain ⟨A4, c4, rfl, -⟩ := own_sliceN o4
            have HB4 : Hid (Below w1.heap.size w1 w4 ∧ Below w.heap.size w w4 ∧ Box w4 w2.heap.size 119 #[.int .i64 n1, .string ⟨#[]⟩, .slice none 0 0, .int .i64 p1, .int .i64 0] ∧ Box w4 w3.heap.size 119 #[.int .i64 n2, .string ⟨#[]⟩, .slice none 0 0, .int .i64 p2, .int .i64 0]) := Lib.hid ⟨HX2.out.2.2.1.trans (b4.mono HX2.out.2.2.1.size), HX2.out.2.2.2.trans (b4.mono HX2.out.2.2.2.size), HX2.out.1.below b4 HX2.out.1.lt, HX2.out.2.1.below b4 HX2.out.2.1.lt⟩
            have Ho4 : Hid (w4.ownsRow w.heap.size 9 1 (.slice A4 NT c4) NT (strVals T)) := Lib.hid (own_baseN o4 HX2.out.2.2.2.size)
            clear o4 b4
            have HX3 : Hid (Box (w4.alloc (.cells #[.int .i64 0, .string ⟨#[]⟩, .slice A4 NT c4, .int .i64 p3, .int .i64 0] 119)) w2.heap.size 119 #[.int .i64 n1, .string ⟨#[]⟩, .slice none 0 0, .int .i64 p1, .int .i64 0] ∧ Box (w4.alloc (.cells #[.int .i64 0, .string ⟨#[]⟩, .slice A4 NT c4, .int .i64 p3, .int .i64 0] 119)) w3.heap.size 119 #[.int .i64 n2, .string ⟨#[]⟩, .slice none 0 0, .int .i64 p2, .int .i64 0] ∧ Below w.heap.size w (w4.alloc (.cells #[.int .i64 0, .string ⟨#[]⟩, .slice A4 NT c4, .int .i64 p3, .int .i64 0] 119)) ∧ (w4.alloc (.cells #[.int .i64 0, .string ⟨#[]⟩, .slice A4 NT c4, .int .i64 p3, .int .i64 0] 119)).ownsRow w.heap.size 9 1 (.slice A4 NT c4) NT (strVals T)) := Lib.hid ⟨HB4.out.2.2.1.alloc _, HB4.out.2.2.2.alloc _, HB4.out.2.1.alloc HB4.out.2.1.size _, own_belowN Ho4.out (below_box _)⟩
            have z0 : (w4.alloc (.cells #[.int .i64 0, .string ⟨#[]⟩, .slice A4 NT c4, .int .i64 p3, .int .i64 0] 119)).cell? ⟨w2.heap.size, 0, none⟩ = some (.int .i64 n1) := HX3.out.1.cell 0
            have z1 : (w4.alloc (.cells #[.int .i64 0, .string ⟨#[]⟩, .slice A4 NT c4, .int .i64 p3, .int .i64 0] 119)).cell? ⟨w3.heap.size, 0, none⟩ = some (.int .i64 n2) := HX3.out.2.1.cell 0
            have HE4 : Hid (RefAt ((w4.alloc (.cells #[.int .i64 0, .string ⟨#[]⟩, .slice A4 NT c4, .int .i64 p3, .int .i64 0] 119)).alloc (.cells #[.int .i64 n1, .int .i64 (n2 - NT : Nat), .slice A4 NT c4] 29)) w.heap.size (w4.alloc (.cells #[.int .i64 0, .string ⟨#[]⟩, .slice A4 NT c4, .int .i64 p3, .int .i64 0] 119)).heap.size (.slice A4 NT c4) ⟨n1, n2, T.map txOf⟩ ∧ Below w.heap.size w ((w4.alloc (.cells #[.int .i64 0, .string ⟨#[]⟩, .slice A4 NT c4, .int .i64 p3, .int .i64 0] 119)).alloc (.cells #[.int .i64 n1, .int .i64 (n2 - NT : Nat), .slice A4 NT c4] 29))) := Lib.hid
              ⟨⟨HX3.out.2.2.1.size, by have h9 := Box.made (w4.alloc (.cells #[.int .i64 0, .string ⟨#[]⟩, .slice A4 NT c4, .int .i64 p3, .int .i64 0] 119)) 29 #[.int .i64 n1, .int .i64 (n2 - NT : Nat), .slice A4 NT c4]; simp only [List.length_map, HNT.out]; exact h9, by unfold OwnTx; rw [List.length_map, HNT.out, strVals_txOf]; exact own_belowN HX3.out.2.2.2 (below_box _), HGn.out⟩, HX3.out.2.2.1.alloc HX3.out.2.2.1.size _⟩
            go_wp2
            go_ret2
            exact .inr ⟨by rw [HL.out], _, _, rfl, by rw [HL.out]; have h9 := HE4.out.1; simp only [World.size_alloc] at h9; exact h9, HE4.out.2⟩
        · have HL : Hid (loadT b = (⟨0, 0, []⟩, e3)) := Lib.hid (by rw [HL0.out, if_pos he3])
          have g3 : ((e3 : Int) != 0) = true := by simpa using he3
          have He := Lib.hid he3
          clear HL0 HGd he3
          go_enter Try.func31, Try.ntmps31
          go_wp2_with fail
          refine (HN1.out w1 (Below.refl _ _)).mono ?_
          rintro e w2 ⟨rfl, b2⟩
          unfold got
          have HB2 : Hid (Below w1.heap.size w1 w2 ∧ Below w.heap.size w w2) := Lib.hid ⟨b2, HB.out.trans (b2.mono HB.out.size)⟩
          clear b2
          have HX1 : Hid (Box (w2.alloc (.cells #[.int .i64 n1, .string ⟨#[]⟩, .slice none 0 0, .int .i64 p1, .int .i64 0] 119)) w2.heap.size 119 #[.int .i64 n1, .string ⟨#[]⟩, .slice none 0 0, .int .i64 p1, .int .i64 0] ∧ Below w1.heap.size w1 (w2.alloc (.cells #[.int .i64 n1, .string ⟨#[]⟩, .slice none 0 0, .int .i64 p1, .int .i64 0] 119))) := Lib.hid ⟨Box.made _ _ _, HB2.out.1.alloc HB2.out.1.size _⟩
          go_wp2_with fail
          refine (HN2.out _ HX1.out.2).mono ?_
          rintro e w3 ⟨rfl, b3⟩
          unfold got
          have HB3 : Hid (Below w1.heap.size w1 w3 ∧ Below w.heap.size w w3 ∧ Box w3 w2.heap.size 119 #[.int .i64 n1, .string ⟨#[]⟩, .slice none 0 0, .int .i64 p1, .int .i64 0]) := Lib.hid ⟨HX1.out.2.trans (b3.mono HX1.out.2.size), HB.out.trans ((HX1.out.2.trans (b3.mono HX1.out.2.size)).mono HB.out.size), HX1.out.1.below b3 HX1.out.1.lt⟩
          clear b3
          have HX2 : Hid (Box (w3.alloc (.cells #[.int .i64 n2, .string ⟨#[]⟩, .slice none 0 0, .int .i64 p2, .int .i64 0] 119)) w2.heap.size 119 #[.int .i64 n1, .string ⟨#[]⟩, .slice none 0 0, .int .i64 p1, .int .i64 0] ∧ Box (w3.alloc (.cells #[.int .i64 n2, .string ⟨#[]⟩, .slice none 0 0, .int .i64 p2, .int .i64 0] 119)) w3.heap.size 119 #[.int .i64 n2, .string ⟨#[]⟩, .slice none 0 0, .int .i64 p2, .int .i64 0] ∧ Below w1.heap.size w1 (w3.alloc (.cells #[.int .i64 n2, .string ⟨#[]⟩, .slice none 0 0, .int .i64 p2, .int .i64 0] 119)) ∧ Below w.heap.size w (w3.alloc (.cells #[.int .i64 n2, .string ⟨#[]⟩, .slice none 0 0, .int .i64 p2, .int .i64 0] 119))) := Lib.hid ⟨HB3.out.2.2.alloc _, Box.made _ _ _, HB3.out.1.alloc HB3.out.1.size _, HB3.out.2.1.alloc HB3.out.2.1.size _⟩
          have y0 : (w3.alloc (.cells #[.int .i64 n2, .string ⟨#[]⟩, .slice none 0 0, .int .i64 p2, .int .i64 0] 119)).cell? ⟨w2.heap.size, 0, none⟩ = some (.int .i64 n1) := HX2.out.1.cell 0
          go_wp2_with fail
          refine (HN3.out _ HX2.out.2.2.1).mono ?_
          rintro e w4 ⟨v4, rfl, o4, b4⟩
          unfold got
          simp only [HNT.out] at o4
          obtain ⟨A4, c4, rfl, -⟩ := own_sliceN o4
          have HB4 : Hid (Below w1.heap.size w1 w4 ∧ Below w.heap.size w w4 ∧ Box w4 w2.heap.size 119 #[.int .i64 n1, .string ⟨#[]⟩, .slice none 0 0, .int .i64 p1, .int .i64 0] ∧ Box w4 w3.heap.size 119 #[.int .i64 n2, .string ⟨#[]⟩, .slice none 0 0, .int .i64 p2, .int .i64 0]) := Lib.hid ⟨HX2.out.2.2.1.trans (b4.mono HX2.out.2.2.1.size), HX2.out.2.2.2.trans (b4.mono HX2.out.2.2.2.size), HX2.out.1.below b4 HX2.out.1.lt, HX2.out.2.1.below b4 HX2.out.2.1.lt⟩
          have Ho4 : Hid (w4.ownsRow w.heap.size 9 1 (.slice A4 NT c4) NT (strVals T)) := Lib.hid (own_baseN o4 HX2.out.2.2.2.size)
          clear o4 b4
          have HX3 : Hid (Box (w4.alloc (.cells #[.int .i64 0, .string ⟨#[]⟩, .slice A4 NT c4, .int .i64 p3, .int .i64 e3] 119)) w2.heap.size 119 #[.int .i64 n1, .string ⟨#[]⟩, .slice none 0 0, .int .i64 p1, .int .i64 0] ∧ Box (w4.alloc (.cells #[.int .i64 0, .string ⟨#[]⟩, .slice A4 NT c4, .int .i64 p3, .int .i64 e3] 119)) w3.heap.size 119 #[.int .i64 n2, .string ⟨#[]⟩, .slice none 0 0, .int .i64 p2, .int .i64 0] ∧ Below w.heap.size w (w4.alloc (.cells #[.int .i64 0, .string ⟨#[]⟩, .slice A4 NT c4, .int .i64 p3, .int .i64 e3] 119)) ∧ (w4.alloc (.cells #[.int .i64 0, .string ⟨#[]⟩, .slice A4 NT c4, .int .i64 p3, .int .i64 e3] 119)).ownsRow w.heap.size 9 1 (.slice A4 NT c4) NT (strVals T)) := Lib.hid ⟨HB4.out.2.2.1.alloc _, HB4.out.2.2.2.alloc _, HB4.out.2.1.alloc HB4.out.2.1.size _, own_belowN Ho4.out (below_box _)⟩
          have z0 : (w4.alloc (.cells #[.int .i64 0, .string ⟨#[]⟩, .slice A4 NT c4, .int .i64 p3, .int .i64 e3] 119)).cell? ⟨w2.heap.size, 0, none⟩ = some (.int .i64 n1) := HX3.out.1.cell 0
          have z1 : (w4.alloc (.cells #[.int .i64 0, .string ⟨#[]⟩, .slice A4 NT c4, .int .i64 p3, .int .i64 e3] 119)).cell? ⟨w3.heap.size, 0, none⟩ = some (.int .i64 n2) := HX3.out.2.1.cell 0
          go_wp2
          go_quiet (fail)
          go_wp2
          go_ret2
          exact .inl ⟨by rw [HL.out]; exact He.out, by rw [HL.out]; rfl, HX3.out.2.2.1.trans ((below_nq _ _).mono HX3.out.2.2.1.size)⟩
    · have HL : Hid (loadT b = (⟨0, 0, []⟩, e2)) := Lib.hid (by rw [HLT.out, if_neg (by simp), if_pos he2])
      have g3 : ((e2 : Int) != 0) = true := by simpa using he2
      have He := Lib.hid he2
      clear HLT HGd he2 HN3
      go_enter Try.func31, Try.ntmps31
      go_wp2_with fail
      refine (HN1.out w1 (Below.refl _ _)).mono ?_
      rintro e w2 ⟨rfl, b2⟩
      unfold got
      have HB2 : Hid (Below w1.heap.size w1 w2 ∧ Below w.heap.size w w2) := Lib.hid ⟨b2, HB.out.trans (b2.mono HB.out.size)⟩
      clear b2
      have HX1 : Hid (Box (w2.alloc (.cells #[.int .i64 n1, .string ⟨#[]⟩, .slice none 0 0, .int .i64 p1, .int .i64 0] 119)) w2.heap.size 119 #[.int .i64 n1, .string ⟨#[]⟩, .slice none 0 0, .int .i64 p1, .int .i64 0] ∧ Below w1.heap.size w1 (w2.alloc (.cells #[.int .i64 n1, .string ⟨#[]⟩, .slice none 0 0, .int .i64 p1, .int .i64 0] 119))) := Lib.hid ⟨Box.made _ _ _, HB2.out.1.alloc HB2.out.1.size _⟩
      go_wp2_with fail
      refine (HN2.out _ HX1.out.2).mono ?_
      rintro e w3 ⟨rfl, b3⟩
      unfold got
      have HB3 : Hid (Below w1.heap.size w1 w3 ∧ Below w.heap.size w w3 ∧ Box w3 w2.heap.size 119 #[.int .i64 n1, .string ⟨#[]⟩, .slice none 0 0, .int .i64 p1, .int .i64 0]) := Lib.hid ⟨HX1.out.2.trans (b3.mono HX1.out.2.size), HB.out.trans ((HX1.out.2.trans (b3.mono HX1.out.2.size)).mono HB.out.size), HX1.out.1.below b3 HX1.out.1.lt⟩
      clear b3
      have HX2 : Hid (Box (w3.alloc (.cells #[.int .i64 n2, .string ⟨#[]⟩, .slice none 0 0, .int .i64 p2, .int .i64 e2] 119)) w2.heap.size 119 #[.int .i64 n1, .string ⟨#[]⟩, .slice none 0 0, .int .i64 p1, .int .i64 0] ∧ Box (w3.alloc (.cells #[.int .i64 n2, .string ⟨#[]⟩, .slice none 0 0, .int .i64 p2, .int .i64 e2] 119)) w3.heap.size 119 #[.int .i64 n2, .string ⟨#[]⟩, .slice none 0 0, .int .i64 p2, .int .i64 e2] ∧ Below w1.heap.size w1 (w3.alloc (.cells #[.int .i64 n2, .string ⟨#[]⟩, .slice none 0 0, .int .i64 p2, .int .i64 e2] 119)) ∧ Below w.heap.size w (w3.alloc (.cells #[.int .i64 n2, .string ⟨#[]⟩, .slice none 0 0, .int .i64 p2, .int .i64 e2] 119))) := Lib.hid ⟨HB3.out.2.2.alloc _, Box.made _ _ _, HB3.out.1.alloc HB3.out.1.size _, HB3.out.2.1.alloc HB3.out.2.1.size _⟩
      have y0 : (w3.alloc (.cells #[.int .i64 n2, .string ⟨#[]⟩, .slice none 0 0, .int .i64 p2, .int .i64 e2] 119)).cell? ⟨w2.heap.size, 0, none⟩ = some (.int .i64 n1) := HX2.out.1.cell 0
      go_wp2
      go_quiet (fail)
      go_wp2
      go_ret2
      exact .inl ⟨by rw [HL.out]; exact He.out, by rw [HL.out]; rfl, HX2.out.2.2.2.trans ((below_nq _ _).mono HX2.out.2.2.2.size)⟩
  · have HL : Hid (loadT b = (⟨0, 0, []⟩, e1)) := Lib.hid (by rw [HLT.out, if_pos he1])
    have g3 : ((e1 : Int) != 0) = true := by simpa using he1
    have He := Lib.hid he1
    clear HLT HGd he1 HN3 HN2
    go_enter Try.func31, Try.ntmps31
    go_wp2_with fail
    refine (HN1.out w1 (Below.refl _ _)).mono ?_
    rintro e w2 ⟨rfl, b2⟩
    unfold got
    have HB2 : Hid (Below w1.heap.size w1 w2 ∧ Below w.heap.size w w2) := Lib.hid ⟨b2, HB.out.trans (b2.mono HB.out.size)⟩
    clear b2
    have HX1 := Lib.hid (HB2.out.2.alloc HB2.out.2.size (.cells #[.int .i64 n1, .string ⟨#[]⟩, .slice none 0 0, .int .i64 p1, .int .i64 e1] 119))
    go_wp2
    go_quiet (fail)
    go_wp2
    go_ret2
    exact .inl ⟨by rw [HL.out]; exact He.out, by rw [HL.out]; rfl, HX1.out.trans ((below_nq _ _).mono HX1.out.size)⟩
end Go.Proofs.Ytaljojjpgkmiiaa

/- What a part has, by the document. Condition: the map is in memory. -/
import Derived.Test.YtefagaiaflddaaaAtG
import Derived.RegionTactic
namespace Go.Proofs.Ytefagaiaflddaaa
open Go.RowKit
open Go.Lib (strCells compareBytes)

set_option maxRecDepth 100000 in
set_option maxHeartbeats 6400000 in
theorem refOf_any (ep : Int) (A : Option Addr) (n c C : Nat) (l : List Pt) (i : Int) (w : World) (h : HasPts w C A n l) (hC : C ≤ w.heap.size) (hn : n ≤ maxLen) (hs : ∀ p ∈ l, p.lo.size ≤ maxLen) :
    Calls Try.prog 14 #[.agg #[.int .i64 ep, .slice A n c], .int .i64 i] w (OfPost ep l i w) := by
  have Hc := Lib.hid (refCheck_any ep A n c C l ((w.alloc (.cells #[.int .i64 ep, .slice A n c] 24)).alloc (.cells #[.string ⟨#[]⟩, .string ⟨#[]⟩] 30)) ((h.alloc hC _).alloc (by simp; omega) _) (by simp; omega) hn hs)
  have HM := Lib.hid (fun wx (hx : Below ((w.alloc (.cells #[.int .i64 ep, .slice A n c] 24)).alloc (.cells #[.string ⟨#[]⟩, .string ⟨#[]⟩] 30)).heap.size ((w.alloc (.cells #[.int .i64 ep, .slice A n c] 24)).alloc (.cells #[.string ⟨#[]⟩, .string ⟨#[]⟩] 30)) wx) => of_boxes hx)
  have HA : Hid (∀ wx, Below ((w.alloc (.cells #[.int .i64 ep, .slice A n c] 24)).alloc (.cells #[.string ⟨#[]⟩, .string ⟨#[]⟩] 30)).heap.size ((w.alloc (.cells #[.int .i64 ep, .slice A n c] 24)).alloc (.cells #[.string ⟨#[]⟩, .string ⟨#[]⟩] 30)) wx → HasPts wx C A n l) := Lib.hid fun wx hx => h.belowOf (of_boxes hx).2.2.1 hC
  have Hl := Lib.hid h.1
  obtain ⟨z, hz⟩ : ∃ z, checkT ep l = z := ⟨_, rfl⟩
  have Hz := Lib.hid hz
  obtain ⟨⟨r0, r1, rb⟩, hr⟩ : ∃ r, ofT ep l i = r := ⟨_, rfl⟩
  unfold OfPost
  rw [hr]
  have Hr := Lib.hid hr
  unfold CheckPost at Hc
  rw [hz] at Hc
  unfold maxLen at hn
  clear h hs hz hr
  go_enter Try.func14, Try.ntmps14
  go_wp2_with fail
  refine Hc.out.mono ?_
  rintro e w1 ⟨rfl, hb1⟩
  have Hb1 := Lib.hid hb1
  obtain ⟨hx1, hx2, hbw, hsz1⟩ := HM.out w1 hb1
  have HW1 := Lib.hid hbw
  have HX2 := Lib.hid hx2
  have q1 : w1.cell? ⟨w.heap.size, 1, none⟩ = some (.slice A n c) := hx1.cell 1
  have u0 : w1.cell? ⟨w.heap.size + 1, 0, none⟩ = some (.string ⟨#[]⟩) := hx2.cell 0
  have u1 : w1.cell? ⟨w.heap.size + 1, 1, none⟩ = some (.string ⟨#[]⟩) := hx2.cell 1
  have f0 : w1.frozen? ⟨w.heap.size + 1, 0, none⟩ = false := hx2.frozen 0
  have f1 : w1.frozen? ⟨w.heap.size + 1, 1, none⟩ = false := hx2.frozen 1
  clear hx1 hx2 hbw Hc
  by_cases h0 : z = 0
  · subst h0
    by_cases hi0 : i < 0
    · have HN : Hid ((r0, r1, rb) = ((⟨#[]⟩, ⟨#[]⟩, false) : ByteArray × ByteArray × Bool)) := Lib.hid (by rw [← Hr.out]; exact if_neg (fun h => by omega))
      obtain ⟨p0, p1, hbe⟩ := of_res (.string ⟨#[]⟩) (.string ⟨#[]⟩) HX2.out HW1.out
      have HBE := Lib.hid hbe
      obtain ⟨W3, hW3⟩ : ∃ W3, ((w1.setCell ⟨w.heap.size + 1, 0, none⟩ (.string ⟨#[]⟩)).setCell ⟨w.heap.size + 1, 1, none⟩ (.string ⟨#[]⟩)) = W3 := ⟨_, rfl⟩
      rw [hW3] at p0 p1 HBE
      obtain ⟨rfl, rfl, rfl⟩ : r0 = ⟨#[]⟩ ∧ r1 = ⟨#[]⟩ ∧ rb = false := by have h9 := HN.out; injection h9 with h9 h8; injection h8 with h8 h7; exact ⟨h9, h8, h7⟩
      clear hbe hb1
      go_wp2
      refine bodyPost_ret (v := .tuple #[.agg #[.string ⟨#[]⟩, .string ⟨#[]⟩], .bool false]) ?_ rfl ⟨rfl, HBE.out⟩
      simp [results, Try.results14, go_sem, p0, p1]
    by_cases hin : (n : Int) ≤ i
    · have HN : Hid ((r0, r1, rb) = ((⟨#[]⟩, ⟨#[]⟩, false) : ByteArray × ByteArray × Bool)) := Lib.hid (by rw [← Hr.out]; exact if_neg (fun h => by have := Hl.out; omega))
      obtain ⟨p0, p1, hbe⟩ := of_res (.string ⟨#[]⟩) (.string ⟨#[]⟩) HX2.out HW1.out
      have HBE := Lib.hid hbe
      obtain ⟨W3, hW3⟩ : ∃ W3, ((w1.setCell ⟨w.heap.size + 1, 0, none⟩ (.string ⟨#[]⟩)).setCell ⟨w.heap.size + 1, 1, none⟩ (.string ⟨#[]⟩)) = W3 := ⟨_, rfl⟩
      rw [hW3] at p0 p1 HBE
      obtain ⟨rfl, rfl, rfl⟩ : r0 = ⟨#[]⟩ ∧ r1 = ⟨#[]⟩ ∧ rb = false := by have h9 := HN.out; injection h9 with h9 h8; injection h8 with h8 h7; exact ⟨h9, h8, h7⟩
      clear hbe hb1
      go_wp2
      refine bodyPost_ret (v := .tuple #[.agg #[.string ⟨#[]⟩, .string ⟨#[]⟩], .bool false]) ?_ rfl ⟨rfl, HBE.out⟩
      simp [results, Try.results14, go_sem, p0, p1]
    obtain ⟨j, rfl⟩ : ∃ j : Nat, i = (j : Int) := ⟨i.toNat, by omega⟩
    have hj : j < n := by omega
    have HR : Hid (RightP l) := Lib.hid (check_zero.1 Hz.out).2.2
    have hn8 : n ≤ 8 := by have := HR.out.most; have := Hl.out; omega
    obtain ⟨a, p, rfl, hab, hp, d0, -⟩ := (HA.out w1 hb1).at_ hj
    have hps := small_right HR.out p (List.mem_of_getElem? hp)
    have HY : Hid ((r0, r1, rb) = (p.lo, hiOf l j, true)) := Lib.hid (by rw [← Hr.out]; unfold ofT; rw [if_pos ⟨Hz.out, by omega, by rw [Hl.out]; omega⟩, Int.toNat_natCast, ptAt_of hp])
    obtain ⟨plo, pn⟩ := p
    simp only at d0 hps HY
    obtain ⟨rfl, hy⟩ : r0 = plo ∧ (r1, rb) = (hiOf l j, true) := by have h9 := HY.out; injection h9 with h9 h8; exact ⟨h9, h8⟩
    obtain ⟨hy1, rfl⟩ : r1 = hiOf l j ∧ rb = true := by injection hy with h9 h8; exact ⟨h9, h8⟩
    have HY1 := Lib.hid hy1
    have hj0 : (0 : Int) ≤ (j : Int) := by omega
    have hj1 : (j : Int) < (n : Int) := by omega
    have hwj : IntKind.i64.wrap ((j : Int) + 1) = (j : Int) + 1 := IntWalk.i64_in _ (by omega)
    clear hp hab hy hy1 hb1 HY hi0 hin
    by_cases hj2 : j + 1 < n
    · obtain ⟨a', p', ea, -, hp', d2, -⟩ := (HA.out w1 Hb1.out).at_ hj2
      injection ea with ea
      subst ea
      obtain rfl : r1 = p'.lo := by rw [HY1.out]; unfold hiOf; rw [if_pos (by rw [Hl.out]; exact hj2), ptAt_of hp']
      obtain ⟨r1, pn'⟩ := p'
      simp only at d2 HY1 ⊢
      have hwj1 : (0 : Int) ≤ (j : Int) + 1 := by omega
      have hj3 : (j : Int) + 1 < (n : Int) := by omega
      have hji : ((j : Int) + 1).toNat = j + 1 := by omega
      have hwn : IntKind.i64.wrap ((n : Int) - 1) = (n : Int) - 1 := IntWalk.i64_in _ (by omega)
      have hjn : ((j : Int) == (n : Int) - 1) = false := by
        have : ¬ ((j : Int) = (n : Int) - 1) := by omega
        simpa using this
      obtain ⟨p0, p1, hbe⟩ := of_res (.string r0) (.string r1) HX2.out HW1.out
      have HBE := Lib.hid hbe
      obtain ⟨W3, hW3⟩ : ∃ W3, ((w1.setCell ⟨w.heap.size + 1, 0, none⟩ (.string r0)).setCell ⟨w.heap.size + 1, 1, none⟩ (.string r1)) = W3 := ⟨_, rfl⟩
      rw [hW3] at p0 p1 HBE
      clear hbe hp'
      go_wp2
      go_region
      all_goals
        go_wp2
        refine bodyPost_ret (v := .tuple #[.agg #[.string r0, .string r1], .bool true]) ?_ rfl ⟨rfl, HBE.out.drew⟩
        simp [results, Try.results14, go_sem, p0, p1]
    · obtain rfl : r1 = ⟨#[]⟩ := by rw [HY1.out]; unfold hiOf; rw [if_neg (by rw [Hl.out]; exact hj2)]
      have hwn : IntKind.i64.wrap ((n : Int) - 1) = (n : Int) - 1 := IntWalk.i64_in _ (by omega)
      have hjn : ((j : Int) == (n : Int) - 1) = true := by
        have : (j : Int) = (n : Int) - 1 := by omega
        simpa using this
      obtain ⟨p0, p1, hbe⟩ := of_res (.string r0) (.string ⟨#[]⟩) HX2.out HW1.out
      have HBE := Lib.hid hbe
      obtain ⟨W3, hW3⟩ : ∃ W3, ((w1.setCell ⟨w.heap.size + 1, 0, none⟩ (.string r0)).setCell ⟨w.heap.size + 1, 1, none⟩ (.string ⟨#[]⟩)) = W3 := ⟨_, rfl⟩
      rw [hW3] at p0 p1 HBE
      clear hbe
      go_wp2
      refine bodyPost_ret (v := .tuple #[.agg #[.string r0, .string ⟨#[]⟩], .bool true]) ?_ rfl ⟨rfl, HBE.out⟩
      simp [results, Try.results14, go_sem, p0, p1]
  · have HN : Hid ((r0, r1, rb) = ((⟨#[]⟩, ⟨#[]⟩, false) : ByteArray × ByteArray × Bool)) := Lib.hid (by rw [← Hr.out]; exact if_neg (fun h => h0 (Hz.out.symm.trans h.1)))
    have h0' : (z == 0) = false := by simpa using h0
    have h0'' : (z != 0) = true := by simpa using h0
    clear h0
    obtain ⟨p0, p1, hbe⟩ := of_res (.string ⟨#[]⟩) (.string ⟨#[]⟩) HX2.out HW1.out
    have HBE := Lib.hid hbe
    obtain ⟨W3, hW3⟩ : ∃ W3, ((w1.setCell ⟨w.heap.size + 1, 0, none⟩ (.string ⟨#[]⟩)).setCell ⟨w.heap.size + 1, 1, none⟩ (.string ⟨#[]⟩)) = W3 := ⟨_, rfl⟩
    rw [hW3] at p0 p1 HBE
    obtain ⟨rfl, rfl, rfl⟩ : r0 = ⟨#[]⟩ ∧ r1 = ⟨#[]⟩ ∧ rb = false := by have h9 := HN.out; injection h9 with h9 h8; injection h8 with h8 h7; exact ⟨h9, h8, h7⟩
    clear hbe hb1
    go_wp2
    refine bodyPost_ret (v := .tuple #[.agg #[.string ⟨#[]⟩, .string ⟨#[]⟩], .bool false]) ?_ rfl ⟨rfl, HBE.out⟩
    simp [results, Try.results14, go_sem, p0, p1]
end Go.Proofs.Ytefagaiaflddaaa

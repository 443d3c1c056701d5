/- What a part has: atlas.Of, and the document's. Condition: the map is in memory. -/
import Derived.Test.YtefagaiaflddaaaAtF
import Derived.Test.YtefagaiaflddaaaSpecAtb
import Derived.Test.YtefagaiaflddaaaClone
namespace Go.Proofs.Ytefagaiaflddaaa
open Go.RowKit
open Go.Lib (strCells compareBytes)

def hiOf (l : List Pt) (i : Nat) : ByteArray := if i + 1 < l.length then (ptAt l (i + 1)).lo else ⟨#[]⟩
open Classical in
/-- what Of answers -/
noncomputable def ofT (ep : Int) (l : List Pt) (i : Int) : ByteArray × ByteArray × Bool := if checkT ep l = 0 ∧ 0 ≤ i ∧ i < (l.length : Int) then ((ptAt l i.toNat).lo, hiOf l i.toNat, true) else (⟨#[]⟩, ⟨#[]⟩, false)
def OfPost (ep : Int) (l : List Pt) (i : Int) (w : World) (e : Ending) (w' : World) : Prop :=
  e = .returned (.tuple #[.agg #[.string (ofT ep l i).1, .string (ofT ep l i).2.1], .bool (ofT ep l i).2.2]) ∧ Below w.heap.size w w'
/-- the call's own copy of a map, and the cell of its result -/
theorem of_boxes {w wx : World} {ep : Int} {A : Option Addr} {n c : Nat} (h : Below ((w.alloc (.cells #[.int .i64 ep, .slice A n c] 24)).alloc (.cells #[.string ⟨#[]⟩, .string ⟨#[]⟩] 30)).heap.size ((w.alloc (.cells #[.int .i64 ep, .slice A n c] 24)).alloc (.cells #[.string ⟨#[]⟩, .string ⟨#[]⟩] 30)) wx) :
    Box wx w.heap.size 24 #[.int .i64 ep, .slice A n c] ∧ Box wx (w.heap.size + 1) 30 #[.string ⟨#[]⟩, .string ⟨#[]⟩] ∧ Below w.heap.size w wx ∧ w.heap.size + 2 ≤ wx.heap.size := by
  have h1 : Box ((w.alloc (.cells #[.int .i64 ep, .slice A n c] 24)).alloc (.cells #[.string ⟨#[]⟩, .string ⟨#[]⟩] 30)) w.heap.size 24 #[.int .i64 ep, .slice A n c] := (Box.made w _ _).alloc _
  have h2 : Box ((w.alloc (.cells #[.int .i64 ep, .slice A n c] 24)).alloc (.cells #[.string ⟨#[]⟩, .string ⟨#[]⟩] 30)) (w.heap.size + 1) 30 #[.string ⟨#[]⟩, .string ⟨#[]⟩] := by
    have := Box.made (w.alloc (.cells #[.int .i64 ep, .slice A n c] 24)) 30 #[.string ⟨#[]⟩, .string ⟨#[]⟩]
    rwa [World.size_alloc] at this
  have hs := h.size
  simp only [World.size_alloc] at hs
  exact ⟨h1.below h (by simp; omega), h2.below h (by simp), ((below_box _).alloc (by simp) _).trans (h.mono (by simp; omega)), by omega⟩
/-- the result is stored -/
theorem of_res {w wx : World} {x y : Value} (x' y' : Value) (h : Box wx (w.heap.size + 1) 30 #[x, y]) (hb : Below w.heap.size w wx) :
    ((wx.setCell ⟨w.heap.size + 1, 0, none⟩ x').setCell ⟨w.heap.size + 1, 1, none⟩ y').cell? ⟨w.heap.size + 1, 0, none⟩ = some x' ∧ ((wx.setCell ⟨w.heap.size + 1, 0, none⟩ x').setCell ⟨w.heap.size + 1, 1, none⟩ y').cell? ⟨w.heap.size + 1, 1, none⟩ = some y' ∧
      Below w.heap.size w ((wx.setCell ⟨w.heap.size + 1, 0, none⟩ x').setCell ⟨w.heap.size + 1, 1, none⟩ y') := by
  have h1 := set2q x' y' h
  exact ⟨h1.cell 0, h1.cell 1, (hb.setCell (Nat.le_succ _) _).setCell (Nat.le_succ _) _⟩
set_option maxRecDepth 100000 in
set_option maxHeartbeats 6400000 in
theorem of_any (ep : Int) (A : Option Addr) (n c C : Nat) (l : List Pt) (i : Int) (w : World) (h : HasPts w C A n l) (hC : C ≤ w.heap.size) (hn : n ≤ maxLen) (hs : ∀ p ∈ l, p.lo.size ≤ maxLen) :
    Calls Try.prog 13 #[.agg #[.int .i64 ep, .slice A n c], .int .i64 i] w (OfPost ep l i w) := by
  have Hc := Lib.hid (check_any ep A n c C l ((w.alloc (.cells #[.int .i64 ep, .slice A n c] 24)).alloc (.cells #[.string ⟨#[]⟩, .string ⟨#[]⟩] 30)) ((h.alloc hC _).alloc (by simp; omega) _) (by simp; omega) hn hs)
  have HM := Lib.hid (fun wx (hx : Below ((w.alloc (.cells #[.int .i64 ep, .slice A n c] 24)).alloc (.cells #[.string ⟨#[]⟩, .string ⟨#[]⟩] 30)).heap.size ((w.alloc (.cells #[.int .i64 ep, .slice A n c] 24)).alloc (.cells #[.string ⟨#[]⟩, .string ⟨#[]⟩] 30)) wx) => of_boxes hx)
  have HA : Hid (∀ wx, Below ((w.alloc (.cells #[.int .i64 ep, .slice A n c] 24)).alloc (.cells #[.string ⟨#[]⟩, .string ⟨#[]⟩] 30)).heap.size ((w.alloc (.cells #[.int .i64 ep, .slice A n c] 24)).alloc (.cells #[.string ⟨#[]⟩, .string ⟨#[]⟩] 30)) wx → HasPts wx C A n l) := Lib.hid fun wx hx => h.belowOf (of_boxes hx).2.2.1 hC
  have Hl := Lib.hid h.1
  obtain ⟨z, hz⟩ : ∃ z, checkT ep l = z := ⟨_, rfl⟩
  have Hz := Lib.hid hz
  obtain ⟨⟨r0, r1, rb⟩, hr⟩ : ∃ r, ofT ep l i = r := ⟨_, rfl⟩
  unfold OfPost
  rw [hr]
  have Hr := Lib.hid hr
  unfold CheckPost at Hc
  rw [hz] at Hc
  unfold maxLen at hn
  clear h hs hz hr
  go_enter Try.func13, Try.ntmps13
  go_wp2_with fail
  refine Hc.out.mono ?_
  rintro e w1 ⟨rfl, hb1⟩
  have Hb1 := Lib.hid hb1
  obtain ⟨hx1, hx2, hbw, hsz1⟩ := HM.out w1 hb1
  have HW1 := Lib.hid hbw
  have HX2 := Lib.hid hx2
  have q1 : w1.cell? ⟨w.heap.size, 1, none⟩ = some (.slice A n c) := hx1.cell 1
  have u0 : w1.cell? ⟨w.heap.size + 1, 0, none⟩ = some (.string ⟨#[]⟩) := hx2.cell 0
  have u1 : w1.cell? ⟨w.heap.size + 1, 1, none⟩ = some (.string ⟨#[]⟩) := hx2.cell 1
  have f0 : w1.frozen? ⟨w.heap.size + 1, 0, none⟩ = false := hx2.frozen 0
  have f1 : w1.frozen? ⟨w.heap.size + 1, 1, none⟩ = false := hx2.frozen 1
  clear hx1 hx2 hbw Hc
  by_cases h0 : z = 0
  · subst h0
    by_cases hi0 : i < 0
    · have HN : Hid ((r0, r1, rb) = ((⟨#[]⟩, ⟨#[]⟩, false) : ByteArray × ByteArray × Bool)) := Lib.hid (by rw [← Hr.out]; exact if_neg (fun h => by omega))
      obtain ⟨p0, p1, hbe⟩ := of_res (.string ⟨#[]⟩) (.string ⟨#[]⟩) HX2.out HW1.out
      have HBE := Lib.hid hbe
      obtain ⟨W3, hW3⟩ : ∃ W3, ((w1.setCell ⟨w.heap.size + 1, 0, none⟩ (.string ⟨#[]⟩)).setCell ⟨w.heap.size + 1, 1, none⟩ (.string ⟨#[]⟩)) = W3 := ⟨_, rfl⟩
      rw [hW3] at p0 p1 HBE
      obtain ⟨rfl, rfl, rfl⟩ : r0 = ⟨#[]⟩ ∧ r1 = ⟨#[]⟩ ∧ rb = false := by have h9 := HN.out; injection h9 with h9 h8; injection h8 with h8 h7; exact ⟨h9, h8, h7⟩
      clear hbe hb1
      go_wp2
      refine bodyPost_ret (v := .tuple #[.agg #[.string ⟨#[]⟩, .string ⟨#[]⟩], .bool false]) ?_ rfl ⟨rfl, HBE.out⟩
      simp [results, Try.results13, go_sem, p0, p1]
    by_cases hin : (n : Int) ≤ i
    · have HN : Hid ((r0, r1, rb) = ((⟨#[]⟩, ⟨#[]⟩, false) : ByteArray × ByteArray × Bool)) := Lib.hid (by rw [← Hr.out]; exact if_neg (fun h => by have := Hl.out; omega))
      obtain ⟨p0, p1, hbe⟩ := of_res (.string ⟨#[]⟩) (.string ⟨#[]⟩) HX2.out HW1.out
      have HBE := Lib.hid hbe
      obtain ⟨W3, hW3⟩ : ∃ W3, ((w1.setCell ⟨w.heap.size + 1, 0, none⟩ (.string ⟨#[]⟩)).setCell ⟨w.heap.size + 1, 1, none⟩ (.string ⟨#[]⟩)) = W3 := ⟨_, rfl⟩
      rw [hW3] at p0 p1 HBE
      obtain ⟨rfl, rfl, rfl⟩ : r0 = ⟨#[]⟩ ∧ r1 = ⟨#[]⟩ ∧ rb = false := by have h9 := HN.out; injection h9 with h9 h8; injection h8 with h8 h7; exact ⟨h9, h8, h7⟩
      clear hbe hb1
      go_wp2
      refine bodyPost_ret (v := .tuple #[.agg #[.string ⟨#[]⟩, .string ⟨#[]⟩], .bool false]) ?_ rfl ⟨rfl, HBE.out⟩
      simp [results, Try.results13, go_sem, p0, p1]
    obtain ⟨j, rfl⟩ : ∃ j : Nat, i = (j : Int) := ⟨i.toNat, by omega⟩
    have hj : j < n := by omega
    have HR : Hid (RightP l) := Lib.hid (check_zero.1 Hz.out).2.2
    have hn8 : n ≤ 8 := by have := HR.out.most; have := Hl.out; omega
    obtain ⟨a, p, rfl, hab, hp, d0, -⟩ := (HA.out w1 hb1).at_ hj
    have hps := small_right HR.out p (List.mem_of_getElem? hp)
    have HY : Hid ((r0, r1, rb) = (p.lo, hiOf l j, true)) := Lib.hid (by rw [← Hr.out]; unfold ofT; rw [if_pos ⟨Hz.out, by omega, by rw [Hl.out]; omega⟩, Int.toNat_natCast, ptAt_of hp])
    obtain ⟨plo, pn⟩ := p
    simp only at d0 hps HY
    obtain ⟨rfl, hy⟩ : r0 = plo ∧ (r1, rb) = (hiOf l j, true) := by have h9 := HY.out; injection h9 with h9 h8; exact ⟨h9, h8⟩
    obtain ⟨hy1, rfl⟩ : r1 = hiOf l j ∧ rb = true := by injection hy with h9 h8; exact ⟨h9, h8⟩
    have HY1 := Lib.hid hy1
    have hj0 : (0 : Int) ≤ (j : Int) := by omega
    have hj1 : (j : Int) < (n : Int) := by omega
    have hwj : IntKind.i64.wrap ((j : Int) + 1) = (j : Int) + 1 := IntWalk.i64_in _ (by omega)
    clear hp hab hy hy1 hb1 HY hi0 hin
    have Hcl := Lib.hid (clone_any r0 w1 (by omega))
    go_wp2_with fail
    refine Hcl.out.mono ?_
    rintro e w2 ⟨rfl, hb2⟩
    have Hb2 := Lib.hid hb2
    have hs2 : w1.heap.size ≤ w2.heap.size := hb2.size
    have hbx : Below ((w.alloc (.cells #[.int .i64 ep, .slice (some a) n c] 24)).alloc (.cells #[.string ⟨#[]⟩, .string ⟨#[]⟩] 30)).heap.size ((w.alloc (.cells #[.int .i64 ep, .slice (some a) n c] 24)).alloc (.cells #[.string ⟨#[]⟩, .string ⟨#[]⟩] 30)) (w2.alloc (.cells #[.string r0, .string ⟨#[]⟩] 30)) := (Hb1.out.trans (hb2.mono Hb1.out.size)).alloc (Nat.le_trans Hb1.out.size hs2) _
    have Hbx := Lib.hid hbx
    obtain ⟨hx1, hx2, hbw, -⟩ := HM.out _ hbx
    have q2 : (w2.alloc (.cells #[.string r0, .string ⟨#[]⟩] 30)).cell? ⟨w.heap.size, 1, none⟩ = some (.slice (some a) n c) := hx1.cell 1
    have v0 : (w2.alloc (.cells #[.string r0, .string ⟨#[]⟩] 30)).cell? ⟨w.heap.size + 1, 0, none⟩ = some (.string ⟨#[]⟩) := hx2.cell 0
    have v1 : (w2.alloc (.cells #[.string r0, .string ⟨#[]⟩] 30)).cell? ⟨w.heap.size + 1, 1, none⟩ = some (.string ⟨#[]⟩) := hx2.cell 1
    have g0 := hx2.frozen 0
    have g1 := hx2.frozen 1
    have HX4 := Lib.hid hx2
    have HW4 := Lib.hid hbw
    have hl1 : w2.heap.size ≠ w.heap.size + 1 := by omega
    clear hb2 hbx hx1 hx2 hbw u0 u1 f0 f1
    by_cases hj2 : j + 1 < n
    · have hj3 : (j : Int) + 1 < (n : Int) := by omega
      obtain ⟨a', p', ea, -, hp', d2, -⟩ := (HA.out _ Hbx.out).at_ hj2
      injection ea with ea
      subst ea
      have hps' := small_right HR.out p' (List.mem_of_getElem? hp')
      have hr1 : r1 = p'.lo := by rw [HY1.out]; unfold hiOf; rw [if_pos (by rw [Hl.out]; exact hj2), ptAt_of hp']
      rw [← hr1] at d2 hps'
      have hwj1 : (0 : Int) ≤ (j : Int) + 1 := by omega
      have Hcl2 := Lib.hid (clone_any r1 (w2.alloc (.cells #[.string r0, .string ⟨#[]⟩] 30)) (by omega))
      have hji : ((j : Int) + 1).toNat = j + 1 := by omega
      clear hp' hr1
      go_wp2_with fail
      refine Hcl2.out.mono ?_
      rintro e w5 ⟨rfl, hb5⟩
      have hB5 := (Box.made w2 30 #[.string r0, .string ⟨#[]⟩]).below hb5 (by simp)
      have y0 : w5.cell? ⟨w2.heap.size, 0, none⟩ = some (.string r0) := hB5.cell 0
      have y1 : w5.cell? ⟨w2.heap.size, 1, none⟩ = some (.string ⟨#[]⟩) := hB5.cell 1
      have k1 : w5.frozen? ⟨w2.heap.size, 1, none⟩ = false := hB5.frozen 1
      have hX5 := HX4.out.below hb5 HX4.out.lt
      have hX6 := hX5.far (p := ⟨w2.heap.size, 1, none⟩) (show w.heap.size + 1 ≠ w2.heap.size by omega) (.string r1)
      have hB6 : Box (w5.setCell ⟨w2.heap.size, 1, none⟩ (.string r1)) w2.heap.size 30 #[.string r0, .string r1] := by simpa using hB5.set_ 1 (.string r1)
      have hW6 : Below w.heap.size w (w5.setCell ⟨w2.heap.size, 1, none⟩ (.string r1)) := (HW4.out.trans (hb5.mono HW4.out.size)).setCell (by show w.heap.size ≤ w2.heap.size; omega) _
      obtain ⟨W6, hW6e⟩ : ∃ W6, w5.setCell ⟨w2.heap.size, 1, none⟩ (.string r1) = W6 := ⟨_, rfl⟩
      rw [hW6e] at hX6 hB6 hW6
      have t0 : W6.cell? ⟨w2.heap.size, 0, none⟩ = some (.string r0) := hB6.cell 0
      have t1 : W6.cell? ⟨w2.heap.size, 1, none⟩ = some (.string r1) := hB6.cell 1
      have s0 : W6.cell? ⟨w.heap.size + 1, 0, none⟩ = some (.string ⟨#[]⟩) := hX6.cell 0
      have s1 : W6.cell? ⟨w.heap.size + 1, 1, none⟩ = some (.string ⟨#[]⟩) := hX6.cell 1
      have e0 := hX6.frozen 0
      have e1 := hX6.frozen 1
      obtain ⟨p0, p1, hbe⟩ := of_res (.string r0) (.string r1) hX6 hW6
      have HBE := Lib.hid hbe
      obtain ⟨W3, hW3⟩ : ∃ W3, ((W6.setCell ⟨w.heap.size + 1, 0, none⟩ (.string r0)).setCell ⟨w.heap.size + 1, 1, none⟩ (.string r1)) = W3 := ⟨_, rfl⟩
      rw [hW3] at p0 p1 HBE
      clear hbe hb5 hB5 hX5 hX6 hB6 hW6 v0 v1 g0 g1
      go_wp2
      refine bodyPost_ret (v := .tuple #[.agg #[.string r0, .string r1], .bool true]) ?_ rfl ⟨rfl, HBE.out⟩
      simp [results, Try.results13, go_sem, p0, p1]
    · have hj3 : ¬ (j : Int) + 1 < (n : Int) := by omega
      obtain rfl : r1 = ⟨#[]⟩ := by rw [HY1.out]; unfold hiOf; rw [if_neg (by rw [Hl.out]; exact hj2)]
      obtain ⟨p0, p1, hbe⟩ := of_res (.string r0) (.string ⟨#[]⟩) HX4.out HW4.out
      have HBE := Lib.hid hbe
      obtain ⟨W3, hW3⟩ : ∃ W3, (((w2.alloc (.cells #[.string r0, .string ⟨#[]⟩] 30)).setCell ⟨w.heap.size + 1, 0, none⟩ (.string r0)).setCell ⟨w.heap.size + 1, 1, none⟩ (.string ⟨#[]⟩)) = W3 := ⟨_, rfl⟩
      rw [hW3] at p0 p1 HBE
      clear hbe
      go_wp2
      refine bodyPost_ret (v := .tuple #[.agg #[.string r0, .string ⟨#[]⟩], .bool true]) ?_ rfl ⟨rfl, HBE.out⟩
      simp [results, Try.results13, go_sem, p0, p1]
  · have HN : Hid ((r0, r1, rb) = ((⟨#[]⟩, ⟨#[]⟩, false) : ByteArray × ByteArray × Bool)) := Lib.hid (by rw [← Hr.out]; exact if_neg (fun h => h0 (Hz.out.symm.trans h.1)))
    have h0' : (z == 0) = false := by simpa using h0
    have h0'' : (z != 0) = true := by simpa using h0
    clear h0
    obtain ⟨p0, p1, hbe⟩ := of_res (.string ⟨#[]⟩) (.string ⟨#[]⟩) HX2.out HW1.out
    have HBE := Lib.hid hbe
    obtain ⟨W3, hW3⟩ : ∃ W3, ((w1.setCell ⟨w.heap.size + 1, 0, none⟩ (.string ⟨#[]⟩)).setCell ⟨w.heap.size + 1, 1, none⟩ (.string ⟨#[]⟩)) = W3 := ⟨_, rfl⟩
    rw [hW3] at p0 p1 HBE
    obtain ⟨rfl, rfl, rfl⟩ : r0 = ⟨#[]⟩ ∧ r1 = ⟨#[]⟩ ∧ rb = false := by have h9 := HN.out; injection h9 with h9 h8; injection h8 with h8 h7; exact ⟨h9, h8, h7⟩
    clear hbe hb1
    go_wp2
    refine bodyPost_ret (v := .tuple #[.agg #[.string ⟨#[]⟩, .string ⟨#[]⟩], .bool false]) ?_ rfl ⟨rfl, HBE.out⟩
    simp [results, Try.results13, go_sem, p0, p1]
end Go.Proofs.Ytefagaiaflddaaa

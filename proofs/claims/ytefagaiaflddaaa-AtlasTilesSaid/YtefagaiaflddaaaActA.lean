/- A plan done to a map by the program (law's act). Condition: the map is in memory. -/
import Derived.Test.YtefagaiaflddaaaGoB
namespace Go.Proofs.Ytefagaiaflddaaa
open Go.RowKit
open Go.Lib (strCells compareBytes)

noncomputable def actT (k : Int) (ep : Int) (l : List Pt) (s : ByteArray) (node : Int) : MapR := if k = 1 then goT ep l (splitP l s) else if k = 2 then goT ep l (mergeP l s) else goT ep l (moveP l s node)
/-- what a plan comes to; what is no plan leaves the map -/
def ActPost (k ep : Int) (A : Option Addr) (n c : Nat) (l : List Pt) (s : ByteArray) (node : Int) (w : World) (e : Ending) (w' : World) : Prop :=
  ((k = 1 ∨ k = 2 ∨ k = 3) ∧ MapPost (actT k ep l s node) w e w') ∨ (¬ (k = 1 ∨ k = 2 ∨ k = 3) ∧ e = .returned (.tuple #[.agg #[.int .i64 ep, .slice A n c], .int .i64 0]) ∧ Below w.heap.size w w')
set_option maxRecDepth 100000 in
set_option maxHeartbeats 6400000 in
theorem act_any (k ep : Int) (A : Option Addr) (n c C : Nat) (l : List Pt) (s : ByteArray) (node : Int) (w : World) (h : HasPts w C A n l) (hC : C ≤ w.heap.size) (hn : n ≤ maxLen) (hs : ∀ p ∈ l, p.lo.size ≤ maxLen) (hsz : s.size ≤ maxLen) :
    Calls Try.prog 20 #[.agg #[.int .i64 ep, .slice A n c], .agg #[.int .i64 k, .string s, .int .i64 node]] w (ActPost k ep A n c l s node w) := by
  have hb2 : Below w.heap.size w (((w.alloc (.cells #[.int .i64 ep, .slice A n c] 24)).alloc (.cells #[.int .i64 k, .string s, .int .i64 node] 40)).alloc (.cells #[.int .i64 0, .slice none 0 0] 24)) := ((below_box _).alloc (by simp) _).alloc (by simp; omega) _
  have hbm : Box (((w.alloc (.cells #[.int .i64 ep, .slice A n c] 24)).alloc (.cells #[.int .i64 k, .string s, .int .i64 node] 40)).alloc (.cells #[.int .i64 0, .slice none 0 0] 24)) w.heap.size 24 #[.int .i64 ep, .slice A n c] := ((Box.made w _ _).alloc _).alloc _
  have hba : Box (((w.alloc (.cells #[.int .i64 ep, .slice A n c] 24)).alloc (.cells #[.int .i64 k, .string s, .int .i64 node] 40)).alloc (.cells #[.int .i64 0, .slice none 0 0] 24)) (w.heap.size + 1) 40 #[.int .i64 k, .string s, .int .i64 node] := by have h9 := (Box.made (w.alloc (.cells #[.int .i64 ep, .slice A n c] 24)) 40 #[.int .i64 k, .string s, .int .i64 node]).alloc (.cells #[.int .i64 0, .slice none 0 0] 24); rwa [World.size_alloc] at h9
  have hbr : Box (((w.alloc (.cells #[.int .i64 ep, .slice A n c] 24)).alloc (.cells #[.int .i64 k, .string s, .int .i64 node] 40)).alloc (.cells #[.int .i64 0, .slice none 0 0] 24)) (w.heap.size + 1 + 1) 24 #[.int .i64 0, .slice none 0 0] := by have h9 := Box.made ((w.alloc (.cells #[.int .i64 ep, .slice A n c] 24)).alloc (.cells #[.int .i64 k, .string s, .int .i64 node] 40)) 24 #[.int .i64 0, .slice none 0 0]; rwa [World.size_alloc, World.size_alloc] at h9
  have hh := h.belowOf hb2 hC
  have hCw : C ≤ (((w.alloc (.cells #[.int .i64 ep, .slice A n c] 24)).alloc (.cells #[.int .i64 k, .string s, .int .i64 node] 40)).alloc (.cells #[.int .i64 0, .slice none 0 0] 24)).heap.size := by simp; omega
  have HSp := Lib.hid (split_any ep A n c C l s (((w.alloc (.cells #[.int .i64 ep, .slice A n c] 24)).alloc (.cells #[.int .i64 k, .string s, .int .i64 node] 40)).alloc (.cells #[.int .i64 0, .slice none 0 0] 24)) hh hCw hn hs hsz)
  have HMg := Lib.hid (merge_any ep A n c C l s (((w.alloc (.cells #[.int .i64 ep, .slice A n c] 24)).alloc (.cells #[.int .i64 k, .string s, .int .i64 node] 40)).alloc (.cells #[.int .i64 0, .slice none 0 0] 24)) hh hCw hn hs)
  have HMv := Lib.hid (move_any ep A n c C l s node (((w.alloc (.cells #[.int .i64 ep, .slice A n c] 24)).alloc (.cells #[.int .i64 k, .string s, .int .i64 node] 40)).alloc (.cells #[.int .i64 0, .slice none 0 0] 24)) hh hCw hn hs)
  have HR := Lib.hid hbr
  have HB := Lib.hid hb2
  have m0 : (((w.alloc (.cells #[.int .i64 ep, .slice A n c] 24)).alloc (.cells #[.int .i64 k, .string s, .int .i64 node] 40)).alloc (.cells #[.int .i64 0, .slice none 0 0] 24)).cell? ⟨w.heap.size, 0, none⟩ = some (.int .i64 ep) := hbm.cell 0
  have m1 : (((w.alloc (.cells #[.int .i64 ep, .slice A n c] 24)).alloc (.cells #[.int .i64 k, .string s, .int .i64 node] 40)).alloc (.cells #[.int .i64 0, .slice none 0 0] 24)).cell? ⟨w.heap.size, 1, none⟩ = some (.slice A n c) := hbm.cell 1
  have a0 : (((w.alloc (.cells #[.int .i64 ep, .slice A n c] 24)).alloc (.cells #[.int .i64 k, .string s, .int .i64 node] 40)).alloc (.cells #[.int .i64 0, .slice none 0 0] 24)).cell? ⟨w.heap.size + 1, 0, none⟩ = some (.int .i64 k) := hba.cell 0
  have a1 : (((w.alloc (.cells #[.int .i64 ep, .slice A n c] 24)).alloc (.cells #[.int .i64 k, .string s, .int .i64 node] 40)).alloc (.cells #[.int .i64 0, .slice none 0 0] 24)).cell? ⟨w.heap.size + 1, 1, none⟩ = some (.string s) := hba.cell 1
  have a2 : (((w.alloc (.cells #[.int .i64 ep, .slice A n c] 24)).alloc (.cells #[.int .i64 k, .string s, .int .i64 node] 40)).alloc (.cells #[.int .i64 0, .slice none 0 0] 24)).cell? ⟨w.heap.size + 1, 2, none⟩ = some (.int .i64 node) := hba.cell 2
  clear h hs hsz hb2 hbm hba hbr hh hCw
  by_cases h1 : k = 1
  · have k1 : (k == 1) = true := by simpa using h1
    obtain ⟨m, hm⟩ : ∃ m, goT ep l (splitP l s) = m := ⟨_, rfl⟩
    have HA : Hid (actT k ep l s node = m) := Lib.hid (by rw [← hm]; exact if_pos h1)
    have Hor : Hid (k = 1 ∨ k = 2 ∨ k = 3) := Lib.hid (.inl h1)
    rw [hm] at HSp
    clear hm HMg HMv h1
    obtain ⟨me, ml, mz⟩ := m
    go_enter Try.func20, Try.ntmps20
    go_wp2_with fail
    refine HSp.out.mono ?_
    rintro e w1 ⟨v, rfl, ho, hb1⟩
    have hbr1 := HR.out.below hb1 HR.out.lt
    have r0 : w1.cell? ⟨w.heap.size + 1 + 1, 0, none⟩ = some (.int .i64 0) := hbr1.cell 0
    have r1 : w1.cell? ⟨w.heap.size + 1 + 1, 1, none⟩ = some (.slice none 0 0) := hbr1.cell 1
    have f0 : w1.frozen? ⟨w.heap.size + 1 + 1, 0, none⟩ = false := hbr1.frozen 0
    have f1 : w1.frozen? ⟨w.heap.size + 1 + 1, 1, none⟩ = false := hbr1.frozen 1
    obtain ⟨A4, c4, rfl, -, -, -⟩ := ho.slice
    have hno : (Value.slice A4 ml.length c4).ownBlock ≠ some (w.heap.size + 1 + 1) := fun e => by
      have h3 := (ho.lt _ e).1
      simp only [World.size_alloc] at h3
      omega
    have hszw : w.heap.size ≤ (((w.alloc (.cells #[.int .i64 ep, .slice A n c] 24)).alloc (.cells #[.int .i64 k, .string s, .int .i64 node] 40)).alloc (.cells #[.int .i64 0, .slice none 0 0] 24)).heap.size := HB.out.size
    have h9 := set2q (.int .i64 me) (.slice A4 ml.length c4) hbr1
    have p0 := h9.cell 0
    have p1 := h9.cell 1
    simp at p0 p1
    have HBE : Hid (Below w.heap.size w ((w1.setCell ⟨w.heap.size + 1 + 1, 0, none⟩ (.int .i64 me)).setCell ⟨w.heap.size + 1 + 1, 1, none⟩ (.slice A4 ml.length c4)) ∧ OwnPts ((w1.setCell ⟨w.heap.size + 1 + 1, 0, none⟩ (.int .i64 me)).setCell ⟨w.heap.size + 1 + 1, 1, none⟩ (.slice A4 ml.length c4)) w.heap.size (.slice A4 ml.length c4) ml) :=
      Lib.hid ⟨(((HB.out.trans (hb1.mono hszw))).setCell (by show w.heap.size ≤ w.heap.size + 1 + 1; omega) _).setCell (by show w.heap.size ≤ w.heap.size + 1 + 1; omega) _, ((ho.far hno).far hno).base hszw⟩
    obtain ⟨W3, hW3⟩ : ∃ W3, ((w1.setCell ⟨w.heap.size + 1 + 1, 0, none⟩ (.int .i64 me)).setCell ⟨w.heap.size + 1 + 1, 1, none⟩ (.slice A4 ml.length c4)) = W3 := ⟨_, rfl⟩
    rw [hW3] at p0 p1 HBE
    clear ho hb1 hbr1 hno h9 HSp
    go_wp2
    refine bodyPost_ret (v := .tuple #[.agg #[.int .i64 me, .slice A4 ml.length c4], .int .i64 mz]) ?_ rfl (.inl ⟨Hor.out, by rw [HA.out]; exact ⟨_, rfl, HBE.out.2, HBE.out.1⟩⟩)
    simp [results, Try.results20, go_sem, p0, p1]
  by_cases h2 : k = 2
  · have k1 : (k == 1) = false := by simpa using h1
    have k2 : (k == 2) = true := by simpa using h2
    obtain ⟨m, hm⟩ : ∃ m, goT ep l (mergeP l s) = m := ⟨_, rfl⟩
    have HA : Hid (actT k ep l s node = m) := Lib.hid (by rw [← hm]; unfold actT; rw [if_neg h1, if_pos h2])
    have Hor : Hid (k = 1 ∨ k = 2 ∨ k = 3) := Lib.hid (.inr (.inl h2))
    rw [hm] at HMg
    clear hm HSp HMv h1 h2
    obtain ⟨me, ml, mz⟩ := m
    go_enter Try.func20, Try.ntmps20
    go_wp2_with fail
    refine HMg.out.mono ?_
    rintro e w1 ⟨v, rfl, ho, hb1⟩
    have hbr1 := HR.out.below hb1 HR.out.lt
    have r0 : w1.cell? ⟨w.heap.size + 1 + 1, 0, none⟩ = some (.int .i64 0) := hbr1.cell 0
    have r1 : w1.cell? ⟨w.heap.size + 1 + 1, 1, none⟩ = some (.slice none 0 0) := hbr1.cell 1
    have f0 : w1.frozen? ⟨w.heap.size + 1 + 1, 0, none⟩ = false := hbr1.frozen 0
    have f1 : w1.frozen? ⟨w.heap.size + 1 + 1, 1, none⟩ = false := hbr1.frozen 1
    obtain ⟨A4, c4, rfl, -, -, -⟩ := ho.slice
    have hno : (Value.slice A4 ml.length c4).ownBlock ≠ some (w.heap.size + 1 + 1) := fun e => by
      have h3 := (ho.lt _ e).1
      simp only [World.size_alloc] at h3
      omega
    have hszw : w.heap.size ≤ (((w.alloc (.cells #[.int .i64 ep, .slice A n c] 24)).alloc (.cells #[.int .i64 k, .string s, .int .i64 node] 40)).alloc (.cells #[.int .i64 0, .slice none 0 0] 24)).heap.size := HB.out.size
    have h9 := set2q (.int .i64 me) (.slice A4 ml.length c4) hbr1
    have p0 := h9.cell 0
    have p1 := h9.cell 1
    simp at p0 p1
    have HBE : Hid (Below w.heap.size w ((w1.setCell ⟨w.heap.size + 1 + 1, 0, none⟩ (.int .i64 me)).setCell ⟨w.heap.size + 1 + 1, 1, none⟩ (.slice A4 ml.length c4)) ∧ OwnPts ((w1.setCell ⟨w.heap.size + 1 + 1, 0, none⟩ (.int .i64 me)).setCell ⟨w.heap.size + 1 + 1, 1, none⟩ (.slice A4 ml.length c4)) w.heap.size (.slice A4 ml.length c4) ml) :=
      Lib.hid ⟨(((HB.out.trans (hb1.mono hszw))).setCell (by show w.heap.size ≤ w.heap.size + 1 + 1; omega) _).setCell (by show w.heap.size ≤ w.heap.size + 1 + 1; omega) _, ((ho.far hno).far hno).base hszw⟩
    obtain ⟨W3, hW3⟩ : ∃ W3, ((w1.setCell ⟨w.heap.size + 1 + 1, 0, none⟩ (.int .i64 me)).setCell ⟨w.heap.size + 1 + 1, 1, none⟩ (.slice A4 ml.length c4)) = W3 := ⟨_, rfl⟩
    rw [hW3] at p0 p1 HBE
    clear ho hb1 hbr1 hno h9 HMg
    go_wp2
    refine bodyPost_ret (v := .tuple #[.agg #[.int .i64 me, .slice A4 ml.length c4], .int .i64 mz]) ?_ rfl (.inl ⟨Hor.out, by rw [HA.out]; exact ⟨_, rfl, HBE.out.2, HBE.out.1⟩⟩)
    simp [results, Try.results20, go_sem, p0, p1]
  by_cases h3 : k = 3
  · have k1 : (k == 1) = false := by simpa using h1
    have k2 : (k == 2) = false := by simpa using h2
    have k3 : (k == 3) = true := by simpa using h3
    obtain ⟨m, hm⟩ : ∃ m, goT ep l (moveP l s node) = m := ⟨_, rfl⟩
    have HA : Hid (actT k ep l s node = m) := Lib.hid (by rw [← hm]; unfold actT; rw [if_neg h1, if_neg h2])
    have Hor : Hid (k = 1 ∨ k = 2 ∨ k = 3) := Lib.hid (.inr (.inr h3))
    rw [hm] at HMv
    clear hm HSp HMg h1 h2 h3
    obtain ⟨me, ml, mz⟩ := m
    go_enter Try.func20, Try.ntmps20
    go_wp2_with fail
    refine HMv.out.mono ?_
    rintro e w1 ⟨v, rfl, ho, hb1⟩
    have hbr1 := HR.out.below hb1 HR.out.lt
    have r0 : w1.cell? ⟨w.heap.size + 1 + 1, 0, none⟩ = some (.int .i64 0) := hbr1.cell 0
    have r1 : w1.cell? ⟨w.heap.size + 1 + 1, 1, none⟩ = some (.slice none 0 0) := hbr1.cell 1
    have f0 : w1.frozen? ⟨w.heap.size + 1 + 1, 0, none⟩ = false := hbr1.frozen 0
    have f1 : w1.frozen? ⟨w.heap.size + 1 + 1, 1, none⟩ = false := hbr1.frozen 1
    obtain ⟨A4, c4, rfl, -, -, -⟩ := ho.slice
    have hno : (Value.slice A4 ml.length c4).ownBlock ≠ some (w.heap.size + 1 + 1) := fun e => by
      have h3 := (ho.lt _ e).1
      simp only [World.size_alloc] at h3
      omega
    have hszw : w.heap.size ≤ (((w.alloc (.cells #[.int .i64 ep, .slice A n c] 24)).alloc (.cells #[.int .i64 k, .string s, .int .i64 node] 40)).alloc (.cells #[.int .i64 0, .slice none 0 0] 24)).heap.size := HB.out.size
    have h9 := set2q (.int .i64 me) (.slice A4 ml.length c4) hbr1
    have p0 := h9.cell 0
    have p1 := h9.cell 1
    simp at p0 p1
    have HBE : Hid (Below w.heap.size w ((w1.setCell ⟨w.heap.size + 1 + 1, 0, none⟩ (.int .i64 me)).setCell ⟨w.heap.size + 1 + 1, 1, none⟩ (.slice A4 ml.length c4)) ∧ OwnPts ((w1.setCell ⟨w.heap.size + 1 + 1, 0, none⟩ (.int .i64 me)).setCell ⟨w.heap.size + 1 + 1, 1, none⟩ (.slice A4 ml.length c4)) w.heap.size (.slice A4 ml.length c4) ml) :=
      Lib.hid ⟨(((HB.out.trans (hb1.mono hszw))).setCell (by show w.heap.size ≤ w.heap.size + 1 + 1; omega) _).setCell (by show w.heap.size ≤ w.heap.size + 1 + 1; omega) _, ((ho.far hno).far hno).base hszw⟩
    obtain ⟨W3, hW3⟩ : ∃ W3, ((w1.setCell ⟨w.heap.size + 1 + 1, 0, none⟩ (.int .i64 me)).setCell ⟨w.heap.size + 1 + 1, 1, none⟩ (.slice A4 ml.length c4)) = W3 := ⟨_, rfl⟩
    rw [hW3] at p0 p1 HBE
    clear ho hb1 hbr1 hno h9 HMv
    go_wp2
    refine bodyPost_ret (v := .tuple #[.agg #[.int .i64 me, .slice A4 ml.length c4], .int .i64 mz]) ?_ rfl (.inl ⟨Hor.out, by rw [HA.out]; exact ⟨_, rfl, HBE.out.2, HBE.out.1⟩⟩)
    simp [results, Try.results20, go_sem, p0, p1]
  · have k1 : (k == 1) = false := by simpa using h1
    have k2 : (k == 2) = false := by simpa using h2
    have k3 : (k == 3) = false := by simpa using h3
    have Hor : Hid (¬ (k = 1 ∨ k = 2 ∨ k = 3)) := Lib.hid (fun h => h.elim h1 fun h => h.elim h2 h3)
    have r0 : (((w.alloc (.cells #[.int .i64 ep, .slice A n c] 24)).alloc (.cells #[.int .i64 k, .string s, .int .i64 node] 40)).alloc (.cells #[.int .i64 0, .slice none 0 0] 24)).cell? ⟨w.heap.size + 1 + 1, 0, none⟩ = some (.int .i64 0) := HR.out.cell 0
    have r1 : (((w.alloc (.cells #[.int .i64 ep, .slice A n c] 24)).alloc (.cells #[.int .i64 k, .string s, .int .i64 node] 40)).alloc (.cells #[.int .i64 0, .slice none 0 0] 24)).cell? ⟨w.heap.size + 1 + 1, 1, none⟩ = some (.slice none 0 0) := HR.out.cell 1
    have f0 : (((w.alloc (.cells #[.int .i64 ep, .slice A n c] 24)).alloc (.cells #[.int .i64 k, .string s, .int .i64 node] 40)).alloc (.cells #[.int .i64 0, .slice none 0 0] 24)).frozen? ⟨w.heap.size + 1 + 1, 0, none⟩ = false := HR.out.frozen 0
    have f1 : (((w.alloc (.cells #[.int .i64 ep, .slice A n c] 24)).alloc (.cells #[.int .i64 k, .string s, .int .i64 node] 40)).alloc (.cells #[.int .i64 0, .slice none 0 0] 24)).frozen? ⟨w.heap.size + 1 + 1, 1, none⟩ = false := HR.out.frozen 1
    clear h1 h2 h3 HSp HMg HMv
    go_enter Try.func20, Try.ntmps20
    go_wp2
    refine bodyPost_ret (v := .tuple #[.agg #[.int .i64 ep, .slice A n c], .int .i64 0]) ?_ rfl (.inr ⟨Hor.out, rfl, ?_⟩)
    · simp [results, Try.results20, go_sem]
    · exact ((below_box _).alloc (by simp) _).alloc (by simp; omega) _
end Go.Proofs.Ytefagaiaflddaaa

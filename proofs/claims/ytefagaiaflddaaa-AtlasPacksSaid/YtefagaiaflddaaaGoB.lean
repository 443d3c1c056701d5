/- Split, Merge and Move of a map. Condition: the map is in memory. -/
import Derived.Test.YtefagaiaflddaaaGoA
namespace Go.Proofs.Ytefagaiaflddaaa
open Go.RowKit
open Go.Lib (strCells compareBytes)

set_option maxRecDepth 100000 in
set_option maxHeartbeats 3200000 in
theorem split_any (ep : Int) (A : Option Addr) (n c C : Nat) (l : List Pt) (s : ByteArray) (w : World) (h : HasPts w C A n l) (hC : C ≤ w.heap.size) (hn : n ≤ maxLen) (hs : ∀ p ∈ l, p.lo.size ≤ maxLen) (hsz : s.size ≤ maxLen) :
    Calls Try.prog 22 #[.agg #[.int .i64 ep, .slice A n c], .string s] w (MapPost (goT ep l (splitP l s)) w) := by
  have hb2 : Below w.heap.size w (((w.alloc (.cells #[.int .i64 ep, .slice A n c] 24)).alloc (.cells #[.string s] 9)).alloc (.cells #[.int .i64 0, .slice none 0 0] 24)) := ((below_box _).alloc (by simp) _).alloc (by simp; omega) _
  have hbx : Box (((w.alloc (.cells #[.int .i64 ep, .slice A n c] 24)).alloc (.cells #[.string s] 9)).alloc (.cells #[.int .i64 0, .slice none 0 0] 24)) (w.heap.size + 1) 9 #[.string s] := by have h9 := (Box.made (w.alloc (.cells #[.int .i64 ep, .slice A n c] 24)) 9 #[.string s]).alloc (.cells #[.int .i64 0, .slice none 0 0] 24); rwa [World.size_alloc] at h9
  have hbr : Box (((w.alloc (.cells #[.int .i64 ep, .slice A n c] 24)).alloc (.cells #[.string s] 9)).alloc (.cells #[.int .i64 0, .slice none 0 0] 24)) (w.heap.size + 1 + 1) 24 #[.int .i64 0, .slice none 0 0] := by have h9 := Box.made ((w.alloc (.cells #[.int .i64 ep, .slice A n c] 24)).alloc (.cells #[.string s] 9)) 24 #[.int .i64 0, .slice none 0 0]; rwa [World.size_alloc, World.size_alloc] at h9
  have Hg := Lib.hid (goSplit_any ep A n c C (w.heap.size + 1) l s  (((w.alloc (.cells #[.int .i64 ep, .slice A n c] 24)).alloc (.cells #[.string s] 9)).alloc (.cells #[.int .i64 0, .slice none 0 0] 24)) (h.belowOf hb2 hC) (by simp; omega) hn hs hbx  hsz)
  have HR := Lib.hid hbr
  have HB := Lib.hid hb2
  obtain ⟨m, hm⟩ : ∃ m, goT ep l (splitP l s) = m := ⟨_, rfl⟩
  rw [hm] at Hg ⊢
  clear h hs hb2 hbx hbr hm
  obtain ⟨me, ml, mz⟩ := m
  go_enter Try.func22, Try.ntmps22
  go_wp2_with fail
  refine Hg.out.mono ?_
  rintro e w1 ⟨v, rfl, ho, hb1⟩
  have hbr1 := HR.out.below hb1 HR.out.lt
  have r0 : w1.cell? ⟨w.heap.size + 1 + 1, 0, none⟩ = some (.int .i64 0) := hbr1.cell 0
  have r1 : w1.cell? ⟨w.heap.size + 1 + 1, 1, none⟩ = some (.slice none 0 0) := hbr1.cell 1
  have f0 : w1.frozen? ⟨w.heap.size + 1 + 1, 0, none⟩ = false := hbr1.frozen 0
  have f1 : w1.frozen? ⟨w.heap.size + 1 + 1, 1, none⟩ = false := hbr1.frozen 1
  obtain ⟨A4, c4, rfl, -, -, -⟩ := ho.slice
  have hno : (Value.slice A4 ml.length c4).ownBlock ≠ some (w.heap.size + 1 + 1) := fun e => by
    have h3 := (ho.lt _ e).1
    simp only [World.size_alloc] at h3
    omega
  have hszw : w.heap.size ≤ (((w.alloc (.cells #[.int .i64 ep, .slice A n c] 24)).alloc (.cells #[.string s] 9)).alloc (.cells #[.int .i64 0, .slice none 0 0] 24)).heap.size := HB.out.size
  have h9 := set2q (.int .i64 me) (.slice A4 ml.length c4) hbr1
  have p0 := h9.cell 0
  have p1 := h9.cell 1
  simp at p0 p1
  have HBE : Hid (Below w.heap.size w ((w1.setCell ⟨w.heap.size + 1 + 1, 0, none⟩ (.int .i64 me)).setCell ⟨w.heap.size + 1 + 1, 1, none⟩ (.slice A4 ml.length c4)) ∧ OwnPts ((w1.setCell ⟨w.heap.size + 1 + 1, 0, none⟩ (.int .i64 me)).setCell ⟨w.heap.size + 1 + 1, 1, none⟩ (.slice A4 ml.length c4)) w.heap.size (.slice A4 ml.length c4) ml) :=
    Lib.hid ⟨(((HB.out.trans (hb1.mono hszw))).setCell (by show w.heap.size ≤ (w.heap.size + 1 + 1); omega) _).setCell (by show w.heap.size ≤ (w.heap.size + 1 + 1); omega) _, ((ho.far hno).far hno).base hszw⟩
  obtain ⟨W3, hW3⟩ : ∃ W3, ((w1.setCell ⟨w.heap.size + 1 + 1, 0, none⟩ (.int .i64 me)).setCell ⟨w.heap.size + 1 + 1, 1, none⟩ (.slice A4 ml.length c4)) = W3 := ⟨_, rfl⟩
  rw [hW3] at p0 p1 HBE
  clear ho hb1 hbr1 hno h9
  go_wp2
  refine bodyPost_ret (v := .tuple #[.agg #[.int .i64 me, .slice A4 ml.length c4], .int .i64 mz]) ?_ rfl ⟨_, rfl, HBE.out.2, HBE.out.1⟩
  simp [results, Try.results22, go_sem, p0, p1]
set_option maxRecDepth 100000 in
set_option maxHeartbeats 3200000 in
theorem merge_any (ep : Int) (A : Option Addr) (n c C : Nat) (l : List Pt) (s : ByteArray) (w : World) (h : HasPts w C A n l) (hC : C ≤ w.heap.size) (hn : n ≤ maxLen) (hs : ∀ p ∈ l, p.lo.size ≤ maxLen) :
    Calls Try.prog 23 #[.agg #[.int .i64 ep, .slice A n c], .string s] w (MapPost (goT ep l (mergeP l s)) w) := by
  have hb2 : Below w.heap.size w (((w.alloc (.cells #[.int .i64 ep, .slice A n c] 24)).alloc (.cells #[.string s] 9)).alloc (.cells #[.int .i64 0, .slice none 0 0] 24)) := ((below_box _).alloc (by simp) _).alloc (by simp; omega) _
  have hbx : Box (((w.alloc (.cells #[.int .i64 ep, .slice A n c] 24)).alloc (.cells #[.string s] 9)).alloc (.cells #[.int .i64 0, .slice none 0 0] 24)) (w.heap.size + 1) 9 #[.string s] := by have h9 := (Box.made (w.alloc (.cells #[.int .i64 ep, .slice A n c] 24)) 9 #[.string s]).alloc (.cells #[.int .i64 0, .slice none 0 0] 24); rwa [World.size_alloc] at h9
  have hbr : Box (((w.alloc (.cells #[.int .i64 ep, .slice A n c] 24)).alloc (.cells #[.string s] 9)).alloc (.cells #[.int .i64 0, .slice none 0 0] 24)) (w.heap.size + 1 + 1) 24 #[.int .i64 0, .slice none 0 0] := by have h9 := Box.made ((w.alloc (.cells #[.int .i64 ep, .slice A n c] 24)).alloc (.cells #[.string s] 9)) 24 #[.int .i64 0, .slice none 0 0]; rwa [World.size_alloc, World.size_alloc] at h9
  have Hg := Lib.hid (goMerge_any ep A n c C (w.heap.size + 1) l s  (((w.alloc (.cells #[.int .i64 ep, .slice A n c] 24)).alloc (.cells #[.string s] 9)).alloc (.cells #[.int .i64 0, .slice none 0 0] 24)) (h.belowOf hb2 hC) (by simp; omega) hn hs hbx  )
  have HR := Lib.hid hbr
  have HB := Lib.hid hb2
  obtain ⟨m, hm⟩ : ∃ m, goT ep l (mergeP l s) = m := ⟨_, rfl⟩
  rw [hm] at Hg ⊢
  clear h hs hb2 hbx hbr hm
  obtain ⟨me, ml, mz⟩ := m
  go_enter Try.func23, Try.ntmps23
  go_wp2_with fail
  refine Hg.out.mono ?_
  rintro e w1 ⟨v, rfl, ho, hb1⟩
  have hbr1 := HR.out.below hb1 HR.out.lt
  have r0 : w1.cell? ⟨w.heap.size + 1 + 1, 0, none⟩ = some (.int .i64 0) := hbr1.cell 0
  have r1 : w1.cell? ⟨w.heap.size + 1 + 1, 1, none⟩ = some (.slice none 0 0) := hbr1.cell 1
  have f0 : w1.frozen? ⟨w.heap.size + 1 + 1, 0, none⟩ = false := hbr1.frozen 0
  have f1 : w1.frozen? ⟨w.heap.size + 1 + 1, 1, none⟩ = false := hbr1.frozen 1
  obtain ⟨A4, c4, rfl, -, -, -⟩ := ho.slice
  have hno : (Value.slice A4 ml.length c4).ownBlock ≠ some (w.heap.size + 1 + 1) := fun e => by
    have h3 := (ho.lt _ e).1
    simp only [World.size_alloc] at h3
    omega
  have hsz : w.heap.size ≤ (((w.alloc (.cells #[.int .i64 ep, .slice A n c] 24)).alloc (.cells #[.string s] 9)).alloc (.cells #[.int .i64 0, .slice none 0 0] 24)).heap.size := HB.out.size
  have h9 := set2q (.int .i64 me) (.slice A4 ml.length c4) hbr1
  have p0 := h9.cell 0
  have p1 := h9.cell 1
  simp at p0 p1
  have HBE : Hid (Below w.heap.size w ((w1.setCell ⟨w.heap.size + 1 + 1, 0, none⟩ (.int .i64 me)).setCell ⟨w.heap.size + 1 + 1, 1, none⟩ (.slice A4 ml.length c4)) ∧ OwnPts ((w1.setCell ⟨w.heap.size + 1 + 1, 0, none⟩ (.int .i64 me)).setCell ⟨w.heap.size + 1 + 1, 1, none⟩ (.slice A4 ml.length c4)) w.heap.size (.slice A4 ml.length c4) ml) :=
    Lib.hid ⟨(((HB.out.trans (hb1.mono hsz))).setCell (by show w.heap.size ≤ (w.heap.size + 1 + 1); omega) _).setCell (by show w.heap.size ≤ (w.heap.size + 1 + 1); omega) _, ((ho.far hno).far hno).base hsz⟩
  obtain ⟨W3, hW3⟩ : ∃ W3, ((w1.setCell ⟨w.heap.size + 1 + 1, 0, none⟩ (.int .i64 me)).setCell ⟨w.heap.size + 1 + 1, 1, none⟩ (.slice A4 ml.length c4)) = W3 := ⟨_, rfl⟩
  rw [hW3] at p0 p1 HBE
  clear ho hb1 hbr1 hno h9
  go_wp2
  refine bodyPost_ret (v := .tuple #[.agg #[.int .i64 me, .slice A4 ml.length c4], .int .i64 mz]) ?_ rfl ⟨_, rfl, HBE.out.2, HBE.out.1⟩
  simp [results, Try.results23, go_sem, p0, p1]
set_option maxRecDepth 100000 in
set_option maxHeartbeats 3200000 in
theorem move_any (ep : Int) (A : Option Addr) (n c C : Nat) (l : List Pt) (s : ByteArray) (node : Int) (w : World) (h : HasPts w C A n l) (hC : C ≤ w.heap.size) (hn : n ≤ maxLen) (hs : ∀ p ∈ l, p.lo.size ≤ maxLen) :
    Calls Try.prog 24 #[.agg #[.int .i64 ep, .slice A n c], .string s, .int .i64 node] w (MapPost (goT ep l (moveP l s node)) w) := by
  have hb2 : Below w.heap.size w ((((w.alloc (.cells #[.int .i64 ep, .slice A n c] 24)).alloc (.cells #[.string s] 9)).alloc (.cells #[.int .i64 node] 3)).alloc (.cells #[.int .i64 0, .slice none 0 0] 24)) := (((below_box _).alloc (by simp) _).alloc (by simp; omega) _).alloc (by simp; omega) _
  have hbx : Box ((((w.alloc (.cells #[.int .i64 ep, .slice A n c] 24)).alloc (.cells #[.string s] 9)).alloc (.cells #[.int .i64 node] 3)).alloc (.cells #[.int .i64 0, .slice none 0 0] 24)) (w.heap.size + 1) 9 #[.string s] := by have h9 := ((Box.made (w.alloc (.cells #[.int .i64 ep, .slice A n c] 24)) 9 #[.string s]).alloc (.cells #[.int .i64 node] 3)).alloc (.cells #[.int .i64 0, .slice none 0 0] 24); rwa [World.size_alloc] at h9
  have hby : Box ((((w.alloc (.cells #[.int .i64 ep, .slice A n c] 24)).alloc (.cells #[.string s] 9)).alloc (.cells #[.int .i64 node] 3)).alloc (.cells #[.int .i64 0, .slice none 0 0] 24)) (w.heap.size + 1 + 1) 3 #[.int .i64 node] := by have h9 := (Box.made ((w.alloc (.cells #[.int .i64 ep, .slice A n c] 24)).alloc (.cells #[.string s] 9)) 3 #[.int .i64 node]).alloc (.cells #[.int .i64 0, .slice none 0 0] 24); rwa [World.size_alloc, World.size_alloc] at h9
  have hbr : Box ((((w.alloc (.cells #[.int .i64 ep, .slice A n c] 24)).alloc (.cells #[.string s] 9)).alloc (.cells #[.int .i64 node] 3)).alloc (.cells #[.int .i64 0, .slice none 0 0] 24)) (w.heap.size + 1 + 1 + 1) 24 #[.int .i64 0, .slice none 0 0] := by have h9 := Box.made (((w.alloc (.cells #[.int .i64 ep, .slice A n c] 24)).alloc (.cells #[.string s] 9)).alloc (.cells #[.int .i64 node] 3)) 24 #[.int .i64 0, .slice none 0 0]; rwa [World.size_alloc, World.size_alloc, World.size_alloc] at h9
  have Hg := Lib.hid (goMove_any ep A n c C (w.heap.size + 1) (w.heap.size + 1 + 1) l s node ((((w.alloc (.cells #[.int .i64 ep, .slice A n c] 24)).alloc (.cells #[.string s] 9)).alloc (.cells #[.int .i64 node] 3)).alloc (.cells #[.int .i64 0, .slice none 0 0] 24)) (h.belowOf hb2 hC) (by simp; omega) hn hs hbx hby )
  have HR := Lib.hid hbr
  have HB := Lib.hid hb2
  obtain ⟨m, hm⟩ : ∃ m, goT ep l (moveP l s node) = m := ⟨_, rfl⟩
  rw [hm] at Hg ⊢
  clear h hs hb2 hbx hbr hm hby
  obtain ⟨me, ml, mz⟩ := m
  go_enter Try.func24, Try.ntmps24
  go_wp2_with fail
  refine Hg.out.mono ?_
  rintro e w1 ⟨v, rfl, ho, hb1⟩
  have hbr1 := HR.out.below hb1 HR.out.lt
  have r0 : w1.cell? ⟨w.heap.size + 1 + 1 + 1, 0, none⟩ = some (.int .i64 0) := hbr1.cell 0
  have r1 : w1.cell? ⟨w.heap.size + 1 + 1 + 1, 1, none⟩ = some (.slice none 0 0) := hbr1.cell 1
  have f0 : w1.frozen? ⟨w.heap.size + 1 + 1 + 1, 0, none⟩ = false := hbr1.frozen 0
  have f1 : w1.frozen? ⟨w.heap.size + 1 + 1 + 1, 1, none⟩ = false := hbr1.frozen 1
  obtain ⟨A4, c4, rfl, -, -, -⟩ := ho.slice
  have hno : (Value.slice A4 ml.length c4).ownBlock ≠ some (w.heap.size + 1 + 1 + 1) := fun e => by
    have h3 := (ho.lt _ e).1
    simp only [World.size_alloc] at h3
    omega
  have hsz : w.heap.size ≤ ((((w.alloc (.cells #[.int .i64 ep, .slice A n c] 24)).alloc (.cells #[.string s] 9)).alloc (.cells #[.int .i64 node] 3)).alloc (.cells #[.int .i64 0, .slice none 0 0] 24)).heap.size := HB.out.size
  have h9 := set2q (.int .i64 me) (.slice A4 ml.length c4) hbr1
  have p0 := h9.cell 0
  have p1 := h9.cell 1
  simp at p0 p1
  have HBE : Hid (Below w.heap.size w ((w1.setCell ⟨w.heap.size + 1 + 1 + 1, 0, none⟩ (.int .i64 me)).setCell ⟨w.heap.size + 1 + 1 + 1, 1, none⟩ (.slice A4 ml.length c4)) ∧ OwnPts ((w1.setCell ⟨w.heap.size + 1 + 1 + 1, 0, none⟩ (.int .i64 me)).setCell ⟨w.heap.size + 1 + 1 + 1, 1, none⟩ (.slice A4 ml.length c4)) w.heap.size (.slice A4 ml.length c4) ml) :=
    Lib.hid ⟨(((HB.out.trans (hb1.mono hsz))).setCell (by show w.heap.size ≤ (w.heap.size + 1 + 1 + 1); omega) _).setCell (by show w.heap.size ≤ (w.heap.size + 1 + 1 + 1); omega) _, ((ho.far hno).far hno).base hsz⟩
  obtain ⟨W3, hW3⟩ : ∃ W3, ((w1.setCell ⟨w.heap.size + 1 + 1 + 1, 0, none⟩ (.int .i64 me)).setCell ⟨w.heap.size + 1 + 1 + 1, 1, none⟩ (.slice A4 ml.length c4)) = W3 := ⟨_, rfl⟩
  rw [hW3] at p0 p1 HBE
  clear ho hb1 hbr1 hno h9
  go_wp2
  refine bodyPost_ret (v := .tuple #[.agg #[.int .i64 me, .slice A4 ml.length c4], .int .i64 mz]) ?_ rfl ⟨_, rfl, HBE.out.2, HBE.out.1⟩
  simp [results, Try.results24, go_sem, p0, p1]
end Go.Proofs.Ytefagaiaflddaaa

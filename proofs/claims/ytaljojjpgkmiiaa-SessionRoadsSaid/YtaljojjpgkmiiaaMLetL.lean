/- letter.Unpack: the letter that a text is. Condition: none. -/
import Derived.Test.YtaljojjpgkmiiaaMLetK
import Derived.Test.YtaljojjpgkmiiaaMMem
namespace Go.Proofs.Ytaljojjpgkmiiaa
open Go.RowKit
open Go.Lib (strCells)

def zeroLet : Let := ⟨0, 0, 0, 0, 0, 0, 0, ⟨#[]⟩, ⟨#[]⟩, [], [], 0, false, ⟨#[]⟩⟩
/-- the reader's end: something left is a fault -/
def endS (l : List UInt8) (s : S2) : S2 := if s.1 < l.length then (s.1, if s.2 = 0 then 3 else s.2) else s
/-- what letter.Unpack answers -/
def letU (l : List UInt8) : Let × Nat :=
  if 65536 < l.length then (zeroLet, 4) else if (endS l (rdLet l (0, 0)).2).2 ≠ 0 then (zeroLet, (endS l (rdLet l (0, 0)).2).2) else ((rdLet l (0, 0)).1, 0)
def UnpPost (R : Let × Nat) (w : World) (e : Ending) (w' : World) : Prop :=
  ∃ (Ap : Option Addr) (np cp : Nat) (Ai : Option Addr) (ni ci : Nat), e = .returned (.tuple #[.agg #[.int .i64 R.1.kind, .int .i64 R.1.frm, .int .i64 R.1.to, .int .i64 R.1.a, .int .i64 R.1.b, .int .i64 R.1.c, .int .i64 R.1.d, .string R.1.s, .string R.1.t, .slice Ap np cp, .slice Ai ni ci, .int .i64 R.1.code, .bool R.1.yes, .string R.1.body], .int .i64 (R.2 : Int)]) ∧ OwnLps w' w.heap.size (.slice Ap np cp) R.1.ps ∧ OwnLis w' w.heap.size (.slice Ai ni ci) R.1.is ∧ Below w.heap.size w w'
theorem below_drN4 (w : World) (q : Nat) : Below w.heap.size w (w.drewN q) := ⟨rfl, rfl, rfl, Nat.le_refl _, fun _ _ => rfl⟩
theorem grown_belowR {w0 w w' : World} {B r : Nat} (h : Below B w0 w) (hg : w.grownBy w' (some r)) (hr : B ≤ r) (hB : B ≤ w.heap.size) : Below B w0 w' := h.grown hg hB (fun g e => by injection e with e; omega)
set_option maxRecDepth 100000 in
set_option maxHeartbeats 12800000 in
theorem letUnpack_any (s : ByteArray) (w : World) (hsz : s.size ≤ maxLen) : Calls Try.prog 57 #[.string s] w (UnpPost (letU s.data.toList) w) := by
  obtain ⟨l, hl⟩ : ∃ l, s.data.toList = l := ⟨_, rfl⟩
  have hlen : l.length = s.size := by rw [← hl]; simp
  obtain ⟨U, hU⟩ : ∃ U, letU l = U := ⟨_, rfl⟩
  rw [hl, hU]
  unfold maxLen at hsz
  unfold UnpPost
  have hB0 := below_box (w := w) (Obj.cells #[.int .i64 0, .int .i64 0, .int .i64 0, .int .i64 0, .int .i64 0, .int .i64 0, .int .i64 0, .string ⟨#[]⟩, .string ⟨#[]⟩, .slice none 0 0, .slice none 0 0, .int .i64 0, .bool false, .string ⟨#[]⟩] 69)
  have hR0 := Box.made w 69 #[.int .i64 0, .int .i64 0, .int .i64 0, .int .i64 0, .int .i64 0, .int .i64 0, .int .i64 0, .string ⟨#[]⟩, .string ⟨#[]⟩, .slice none 0 0, .slice none 0 0, .int .i64 0, .bool false, .string ⟨#[]⟩]
  by_cases hbig : 65536 < s.size
  · have hbig' : (65536 : Int) < (s.size : Int) := by omega
    have HU : Hid (U = (zeroLet, 4)) := Lib.hid (by rw [← hU]; exact if_pos (by rw [hlen]; exact hbig))
    obtain ⟨WA, hWA⟩ : ∃ WA, w.alloc (.cells #[.int .i64 0, .int .i64 0, .int .i64 0, .int .i64 0, .int .i64 0, .int .i64 0, .int .i64 0, .string ⟨#[]⟩, .string ⟨#[]⟩, .slice none 0 0, .slice none 0 0, .int .i64 0, .bool false, .string ⟨#[]⟩] 69) = WA := ⟨_, rfl⟩
    rw [hWA] at hB0 hR0
    have HB0 := Lib.hid hB0
    have HR0 := Lib.hid hR0
    clear hU hbig hB0 hR0
    go_enter Try.func57, Try.ntmps57
    go_upto_region 2 with fail
    first | rw [hWA] | skip
    clear hWA
    have hZ := HR0.out
    have z0 : WA.cell? ⟨w.heap.size, 0, none⟩ = some (.int .i64 0) := hZ.cell 0
    have y0 : WA.frozen? ⟨w.heap.size, 0, none⟩ = false := hZ.frozen 0
    have z1 : WA.cell? ⟨w.heap.size, 1, none⟩ = some (.int .i64 0) := hZ.cell 1
    have y1 : WA.frozen? ⟨w.heap.size, 1, none⟩ = false := hZ.frozen 1
    have z2 : WA.cell? ⟨w.heap.size, 2, none⟩ = some (.int .i64 0) := hZ.cell 2
    have y2 : WA.frozen? ⟨w.heap.size, 2, none⟩ = false := hZ.frozen 2
    have z3 : WA.cell? ⟨w.heap.size, 3, none⟩ = some (.int .i64 0) := hZ.cell 3
    have y3 : WA.frozen? ⟨w.heap.size, 3, none⟩ = false := hZ.frozen 3
    have z4 : WA.cell? ⟨w.heap.size, 4, none⟩ = some (.int .i64 0) := hZ.cell 4
    have y4 : WA.frozen? ⟨w.heap.size, 4, none⟩ = false := hZ.frozen 4
    have z5 : WA.cell? ⟨w.heap.size, 5, none⟩ = some (.int .i64 0) := hZ.cell 5
    have y5 : WA.frozen? ⟨w.heap.size, 5, none⟩ = false := hZ.frozen 5
    have z6 : WA.cell? ⟨w.heap.size, 6, none⟩ = some (.int .i64 0) := hZ.cell 6
    have y6 : WA.frozen? ⟨w.heap.size, 6, none⟩ = false := hZ.frozen 6
    have z7 : WA.cell? ⟨w.heap.size, 7, none⟩ = some (.string ⟨#[]⟩) := hZ.cell 7
    have y7 : WA.frozen? ⟨w.heap.size, 7, none⟩ = false := hZ.frozen 7
    have z8 : WA.cell? ⟨w.heap.size, 8, none⟩ = some (.string ⟨#[]⟩) := hZ.cell 8
    have y8 : WA.frozen? ⟨w.heap.size, 8, none⟩ = false := hZ.frozen 8
    have z9 : WA.cell? ⟨w.heap.size, 9, none⟩ = some (.slice none 0 0) := hZ.cell 9
    have y9 : WA.frozen? ⟨w.heap.size, 9, none⟩ = false := hZ.frozen 9
    have z10 : WA.cell? ⟨w.heap.size, 10, none⟩ = some (.slice none 0 0) := hZ.cell 10
    have y10 : WA.frozen? ⟨w.heap.size, 10, none⟩ = false := hZ.frozen 10
    have z11 : WA.cell? ⟨w.heap.size, 11, none⟩ = some (.int .i64 0) := hZ.cell 11
    have y11 : WA.frozen? ⟨w.heap.size, 11, none⟩ = false := hZ.frozen 11
    have z12 : WA.cell? ⟨w.heap.size, 12, none⟩ = some (.bool false) := hZ.cell 12
    have y12 : WA.frozen? ⟨w.heap.size, 12, none⟩ = false := hZ.frozen 12
    have z13 : WA.cell? ⟨w.heap.size, 13, none⟩ = some (.string ⟨#[]⟩) := hZ.cell 13
    have y13 : WA.frozen? ⟨w.heap.size, 13, none⟩ = false := hZ.frozen 13
    have hb0 : Box _ (w.heap.size) 69 #[.int .i64 0, .int .i64 0, .int .i64 0, .int .i64 0, .int .i64 0, .int .i64 0, .int .i64 0, .string ⟨#[]⟩, .string ⟨#[]⟩, .slice none 0 0, .slice none 0 0, .int .i64 0, .bool false, .string ⟨#[]⟩] := hZ.set_ 0 (.int .i64 0)
    have hb1 : Box _ (w.heap.size) 69 #[.int .i64 0, .int .i64 0, .int .i64 0, .int .i64 0, .int .i64 0, .int .i64 0, .int .i64 0, .string ⟨#[]⟩, .string ⟨#[]⟩, .slice none 0 0, .slice none 0 0, .int .i64 0, .bool false, .string ⟨#[]⟩] := hb0.set_ 1 (.int .i64 0)
    have hb2 : Box _ (w.heap.size) 69 #[.int .i64 0, .int .i64 0, .int .i64 0, .int .i64 0, .int .i64 0, .int .i64 0, .int .i64 0, .string ⟨#[]⟩, .string ⟨#[]⟩, .slice none 0 0, .slice none 0 0, .int .i64 0, .bool false, .string ⟨#[]⟩] := hb1.set_ 2 (.int .i64 0)
    have hb3 : Box _ (w.heap.size) 69 #[.int .i64 0, .int .i64 0, .int .i64 0, .int .i64 0, .int .i64 0, .int .i64 0, .int .i64 0, .string ⟨#[]⟩, .string ⟨#[]⟩, .slice none 0 0, .slice none 0 0, .int .i64 0, .bool false, .string ⟨#[]⟩] := hb2.set_ 3 (.int .i64 0)
    have hb4 : Box _ (w.heap.size) 69 #[.int .i64 0, .int .i64 0, .int .i64 0, .int .i64 0, .int .i64 0, .int .i64 0, .int .i64 0, .string ⟨#[]⟩, .string ⟨#[]⟩, .slice none 0 0, .slice none 0 0, .int .i64 0, .bool false, .string ⟨#[]⟩] := hb3.set_ 4 (.int .i64 0)
    have hb5 : Box _ (w.heap.size) 69 #[.int .i64 0, .int .i64 0, .int .i64 0, .int .i64 0, .int .i64 0, .int .i64 0, .int .i64 0, .string ⟨#[]⟩, .string ⟨#[]⟩, .slice none 0 0, .slice none 0 0, .int .i64 0, .bool false, .string ⟨#[]⟩] := hb4.set_ 5 (.int .i64 0)
    have hb6 : Box _ (w.heap.size) 69 #[.int .i64 0, .int .i64 0, .int .i64 0, .int .i64 0, .int .i64 0, .int .i64 0, .int .i64 0, .string ⟨#[]⟩, .string ⟨#[]⟩, .slice none 0 0, .slice none 0 0, .int .i64 0, .bool false, .string ⟨#[]⟩] := hb5.set_ 6 (.int .i64 0)
    have hb7 : Box _ (w.heap.size) 69 #[.int .i64 0, .int .i64 0, .int .i64 0, .int .i64 0, .int .i64 0, .int .i64 0, .int .i64 0, .string ⟨#[]⟩, .string ⟨#[]⟩, .slice none 0 0, .slice none 0 0, .int .i64 0, .bool false, .string ⟨#[]⟩] := hb6.set_ 7 (.string ⟨#[]⟩)
    have hb8 : Box _ (w.heap.size) 69 #[.int .i64 0, .int .i64 0, .int .i64 0, .int .i64 0, .int .i64 0, .int .i64 0, .int .i64 0, .string ⟨#[]⟩, .string ⟨#[]⟩, .slice none 0 0, .slice none 0 0, .int .i64 0, .bool false, .string ⟨#[]⟩] := hb7.set_ 8 (.string ⟨#[]⟩)
    have hb9 : Box _ (w.heap.size) 69 #[.int .i64 0, .int .i64 0, .int .i64 0, .int .i64 0, .int .i64 0, .int .i64 0, .int .i64 0, .string ⟨#[]⟩, .string ⟨#[]⟩, .slice none 0 0, .slice none 0 0, .int .i64 0, .bool false, .string ⟨#[]⟩] := hb8.set_ 9 (.slice none 0 0)
    have hb10 : Box _ (w.heap.size) 69 #[.int .i64 0, .int .i64 0, .int .i64 0, .int .i64 0, .int .i64 0, .int .i64 0, .int .i64 0, .string ⟨#[]⟩, .string ⟨#[]⟩, .slice none 0 0, .slice none 0 0, .int .i64 0, .bool false, .string ⟨#[]⟩] := hb9.set_ 10 (.slice none 0 0)
    have hb11 : Box _ (w.heap.size) 69 #[.int .i64 0, .int .i64 0, .int .i64 0, .int .i64 0, .int .i64 0, .int .i64 0, .int .i64 0, .string ⟨#[]⟩, .string ⟨#[]⟩, .slice none 0 0, .slice none 0 0, .int .i64 0, .bool false, .string ⟨#[]⟩] := hb10.set_ 11 (.int .i64 0)
    have hb12 : Box _ (w.heap.size) 69 #[.int .i64 0, .int .i64 0, .int .i64 0, .int .i64 0, .int .i64 0, .int .i64 0, .int .i64 0, .string ⟨#[]⟩, .string ⟨#[]⟩, .slice none 0 0, .slice none 0 0, .int .i64 0, .bool false, .string ⟨#[]⟩] := hb11.set_ 12 (.bool false)
    have hS : Box _ (w.heap.size) 69 #[.int .i64 0, .int .i64 0, .int .i64 0, .int .i64 0, .int .i64 0, .int .i64 0, .int .i64 0, .string ⟨#[]⟩, .string ⟨#[]⟩, .slice none 0 0, .slice none 0 0, .int .i64 0, .bool false, .string ⟨#[]⟩] := hb12.set_ 13 (.string ⟨#[]⟩)
    have HBE : Hid (Below w.heap.size w ((((((((((((((WA.setCell ⟨w.heap.size, 0, none⟩ (.int .i64 0)).setCell ⟨w.heap.size, 1, none⟩ (.int .i64 0)).setCell ⟨w.heap.size, 2, none⟩ (.int .i64 0)).setCell ⟨w.heap.size, 3, none⟩ (.int .i64 0)).setCell ⟨w.heap.size, 4, none⟩ (.int .i64 0)).setCell ⟨w.heap.size, 5, none⟩ (.int .i64 0)).setCell ⟨w.heap.size, 6, none⟩ (.int .i64 0)).setCell ⟨w.heap.size, 7, none⟩ (.string ⟨#[]⟩)).setCell ⟨w.heap.size, 8, none⟩ (.string ⟨#[]⟩)).setCell ⟨w.heap.size, 9, none⟩ (.slice none 0 0)).setCell ⟨w.heap.size, 10, none⟩ (.slice none 0 0)).setCell ⟨w.heap.size, 11, none⟩ (.int .i64 0)).setCell ⟨w.heap.size, 12, none⟩ (.bool false)).setCell ⟨w.heap.size, 13, none⟩ (.string ⟨#[]⟩))) := Lib.hid ((((((((((((((HB0.out.setCell (p := ⟨w.heap.size, 0, none⟩) (Nat.le_refl _) (.int .i64 0)).setCell (p := ⟨w.heap.size, 1, none⟩) (Nat.le_refl _) (.int .i64 0)).setCell (p := ⟨w.heap.size, 2, none⟩) (Nat.le_refl _) (.int .i64 0)).setCell (p := ⟨w.heap.size, 3, none⟩) (Nat.le_refl _) (.int .i64 0)).setCell (p := ⟨w.heap.size, 4, none⟩) (Nat.le_refl _) (.int .i64 0)).setCell (p := ⟨w.heap.size, 5, none⟩) (Nat.le_refl _) (.int .i64 0)).setCell (p := ⟨w.heap.size, 6, none⟩) (Nat.le_refl _) (.int .i64 0)).setCell (p := ⟨w.heap.size, 7, none⟩) (Nat.le_refl _) (.string ⟨#[]⟩)).setCell (p := ⟨w.heap.size, 8, none⟩) (Nat.le_refl _) (.string ⟨#[]⟩)).setCell (p := ⟨w.heap.size, 9, none⟩) (Nat.le_refl _) (.slice none 0 0)).setCell (p := ⟨w.heap.size, 10, none⟩) (Nat.le_refl _) (.slice none 0 0)).setCell (p := ⟨w.heap.size, 11, none⟩) (Nat.le_refl _) (.int .i64 0)).setCell (p := ⟨w.heap.size, 12, none⟩) (Nat.le_refl _) (.bool false)).setCell (p := ⟨w.heap.size, 13, none⟩) (Nat.le_refl _) (.string ⟨#[]⟩))
    obtain ⟨WZ, hWZ⟩ : ∃ WZ, ((((((((((((((WA.setCell ⟨w.heap.size, 0, none⟩ (.int .i64 0)).setCell ⟨w.heap.size, 1, none⟩ (.int .i64 0)).setCell ⟨w.heap.size, 2, none⟩ (.int .i64 0)).setCell ⟨w.heap.size, 3, none⟩ (.int .i64 0)).setCell ⟨w.heap.size, 4, none⟩ (.int .i64 0)).setCell ⟨w.heap.size, 5, none⟩ (.int .i64 0)).setCell ⟨w.heap.size, 6, none⟩ (.int .i64 0)).setCell ⟨w.heap.size, 7, none⟩ (.string ⟨#[]⟩)).setCell ⟨w.heap.size, 8, none⟩ (.string ⟨#[]⟩)).setCell ⟨w.heap.size, 9, none⟩ (.slice none 0 0)).setCell ⟨w.heap.size, 10, none⟩ (.slice none 0 0)).setCell ⟨w.heap.size, 11, none⟩ (.int .i64 0)).setCell ⟨w.heap.size, 12, none⟩ (.bool false)).setCell ⟨w.heap.size, 13, none⟩ (.string ⟨#[]⟩)) = WZ := ⟨_, rfl⟩
    rw [hWZ] at hS HBE
    have p0 : WZ.cell? ⟨w.heap.size, 0, none⟩ = some (.int .i64 0) := hS.cell 0
    have p1 : WZ.cell? ⟨w.heap.size, 1, none⟩ = some (.int .i64 0) := hS.cell 1
    have p2 : WZ.cell? ⟨w.heap.size, 2, none⟩ = some (.int .i64 0) := hS.cell 2
    have p3 : WZ.cell? ⟨w.heap.size, 3, none⟩ = some (.int .i64 0) := hS.cell 3
    have p4 : WZ.cell? ⟨w.heap.size, 4, none⟩ = some (.int .i64 0) := hS.cell 4
    have p5 : WZ.cell? ⟨w.heap.size, 5, none⟩ = some (.int .i64 0) := hS.cell 5
    have p6 : WZ.cell? ⟨w.heap.size, 6, none⟩ = some (.int .i64 0) := hS.cell 6
    have p7 : WZ.cell? ⟨w.heap.size, 7, none⟩ = some (.string ⟨#[]⟩) := hS.cell 7
    have p8 : WZ.cell? ⟨w.heap.size, 8, none⟩ = some (.string ⟨#[]⟩) := hS.cell 8
    have p9 : WZ.cell? ⟨w.heap.size, 9, none⟩ = some (.slice none 0 0) := hS.cell 9
    have p10 : WZ.cell? ⟨w.heap.size, 10, none⟩ = some (.slice none 0 0) := hS.cell 10
    have p11 : WZ.cell? ⟨w.heap.size, 11, none⟩ = some (.int .i64 0) := hS.cell 11
    have p12 : WZ.cell? ⟨w.heap.size, 12, none⟩ = some (.bool false) := hS.cell 12
    have p13 : WZ.cell? ⟨w.heap.size, 13, none⟩ = some (.string ⟨#[]⟩) := hS.cell 13
    clear hS hZ hb0 hb1 hb2 hb3 hb4 hb5 hb6 hb7 hb8 hb9 hb10 hb11 hb12
    go_wp2
    refine bodyPost_ret (v := .tuple #[.agg #[.int .i64 0, .int .i64 0, .int .i64 0, .int .i64 0, .int .i64 0, .int .i64 0, .int .i64 0, .string ⟨#[]⟩, .string ⟨#[]⟩, .slice none 0 0, .slice none 0 0, .int .i64 0, .bool false, .string ⟨#[]⟩], .int .i64 4]) ?_ rfl (by rw [HU.out]; exact ⟨none, 0, 0, none, 0, 0, rfl, OwnLps.nil _ _, OwnLis.nil _ _, HBE.out⟩)
    simp [results, Try.results57, go_sem, p0, p1, p2, p3, p4, p5, p6, p7, p8, p9, p10, p11, p12, p13]
  · have hbig' : ¬ (65536 : Int) < (s.size : Int) := by omega
    have HU0 : Hid (U = if (endS l (rdLet l (0, 0)).2).2 ≠ 0 then (zeroLet, (endS l (rdLet l (0, 0)).2).2) else ((rdLet l (0, 0)).1, 0)) := Lib.hid (by rw [← hU]; exact if_neg (by rw [hlen]; exact hbig))
    obtain ⟨w1, c, hcv, hc, hs1, hb1, hB1⟩ := conv_bytes Try.prog (w.alloc (.cells #[.int .i64 0, .int .i64 0, .int .i64 0, .int .i64 0, .int .i64 0, .int .i64 0, .int .i64 0, .string ⟨#[]⟩, .string ⟨#[]⟩, .slice none 0 0, .slice none 0 0, .int .i64 0, .bool false, .string ⟨#[]⟩] 69)) 9 76 5 s Try.underlying9 Try.underlying76 Try.underlying5
    have hbb : HasBytes w1 w1.heap.size (some ⟨w.heap.size + 1, 0, none⟩) s.size l := by
      have h9 := hB1.has
      rw [hl] at h9
      rw [hs1]
      rw [hlen] at h9
      simp only [World.size_alloc] at h9 ⊢
      exact h9
    simp only [World.size_alloc] at hcv hs1
    have hbr := below_box (w := w1) (Obj.cells #[.slice (some ⟨w.heap.size + 1, 0, none⟩) s.size c, .int .i64 0, .int .i64 0] 140)
    have HRD : Hid (RdAt (w1.alloc (.cells #[.slice (some ⟨w.heap.size + 1, 0, none⟩) s.size c, .int .i64 0, .int .i64 0] 140)) w1.heap.size (some ⟨w.heap.size + 1, 0, none⟩) s.size c l (0, 0)) := Lib.hid ⟨Box.made _ _ _, Has.belowOf hbb hbr (Nat.le_refl _), hc, by omega⟩
    have hwr : w.heap.size + 1 < w1.heap.size := by omega
    have HBW : Hid (Below w.heap.size w (w1.alloc (.cells #[.slice (some ⟨w.heap.size + 1, 0, none⟩) s.size c, .int .i64 0, .int .i64 0] 140))) := Lib.hid (hB0.trans ((hb1.mono (by simp)).trans (hbr.mono (by omega))))
    have HRW : Hid (Box (w1.alloc (.cells #[.slice (some ⟨w.heap.size + 1, 0, none⟩) s.size c, .int .i64 0, .int .i64 0] 140)) w.heap.size 69 #[.int .i64 0, .int .i64 0, .int .i64 0, .int .i64 0, .int .i64 0, .int .i64 0, .int .i64 0, .string ⟨#[]⟩, .string ⟨#[]⟩, .slice none 0 0, .slice none 0 0, .int .i64 0, .bool false, .string ⟨#[]⟩]) := Lib.hid ((hR0.below hb1 (by simp)).alloc _)
    have HLen := Lib.hid hlen
    clear hU hbb hB1 hb1 hbr hB0 hR0 hlen hl hs1
    go_enter Try.func57, Try.ntmps57
    go_upto_region 4 with fail
    generalize hWr : (w1.alloc (.cells #[.slice (some ⟨w.heap.size + 1, 0, none⟩) s.size c, .int .i64 0, .int .i64 0] 140)) = wr1 at *
    clear hWr hcv
    generalize hr : w1.heap.size = r at *
    have KL := Lib.hid (rdLet_any r (some ⟨w.heap.size + 1, 0, none⟩) s.size c l (0, 0) wr1 HRD.out)
    obtain ⟨⟨L, s'⟩, hL⟩ : ∃ x, rdLet l (0, 0) = x := ⟨_, rfl⟩
    have HU1 := Lib.hid HU0.out
    rw [hL] at KL HU1
    simp only at HU1
    unfold LetPost at KL
    clear hL HU0 hr
    go_wp2_with fail
    refine KL.out.mono ?_
    rintro e w3 hq
    obtain ⟨Ap, np, cp, Ai, ni, ci, rfl, hop, hoi, hrd, hgr⟩ := hq
    have hlt3 : r < w3.heap.size := hrd.box.lt
    have hws : w.heap.size ≤ wr1.heap.size := HBW.out.size
    have hal := below_box (w := w3) (Obj.cells #[.int .i64 L.kind, .int .i64 L.frm, .int .i64 L.to, .int .i64 L.a, .int .i64 L.b, .int .i64 L.c, .int .i64 L.d, .string L.s, .string L.t, .slice Ap np cp, .slice Ai ni ci, .int .i64 L.code, .bool L.yes, .string L.body] 69)
    have HRD4 : Hid (RdAt (w3.alloc (.cells #[.int .i64 L.kind, .int .i64 L.frm, .int .i64 L.to, .int .i64 L.a, .int .i64 L.b, .int .i64 L.c, .int .i64 L.d, .string L.s, .string L.t, .slice Ap np cp, .slice Ai ni ci, .int .i64 L.code, .bool L.yes, .string L.body] 69)) r (some ⟨w.heap.size + 1, 0, none⟩) s.size c l s') := Lib.hid (hrd.below hal)
    have HB4 : Hid (Below w.heap.size w (w3.alloc (.cells #[.int .i64 L.kind, .int .i64 L.frm, .int .i64 L.to, .int .i64 L.a, .int .i64 L.b, .int .i64 L.c, .int .i64 L.d, .string L.s, .string L.t, .slice Ap np cp, .slice Ai ni ci, .int .i64 L.code, .bool L.yes, .string L.body] 69))) := Lib.hid ((grown_belowR HBW.out hgr (by omega) hws).trans (hal.mono (by have := hgr.size; omega)))
    have HR4 : Hid (Box (w3.alloc (.cells #[.int .i64 L.kind, .int .i64 L.frm, .int .i64 L.to, .int .i64 L.a, .int .i64 L.b, .int .i64 L.c, .int .i64 L.d, .string L.s, .string L.t, .slice Ap np cp, .slice Ai ni ci, .int .i64 L.code, .bool L.yes, .string L.body] 69)) w.heap.size 69 #[.int .i64 0, .int .i64 0, .int .i64 0, .int .i64 0, .int .i64 0, .int .i64 0, .int .i64 0, .string ⟨#[]⟩, .string ⟨#[]⟩, .slice none 0 0, .slice none 0 0, .int .i64 0, .bool false, .string ⟨#[]⟩]) := Lib.hid ((grown_box hgr HRW.out (by omega)).alloc _)
    have HL4 : Hid (Box (w3.alloc (.cells #[.int .i64 L.kind, .int .i64 L.frm, .int .i64 L.to, .int .i64 L.a, .int .i64 L.b, .int .i64 L.c, .int .i64 L.d, .string L.s, .string L.t, .slice Ap np cp, .slice Ai ni ci, .int .i64 L.code, .bool L.yes, .string L.body] 69)) w3.heap.size 69 #[.int .i64 L.kind, .int .i64 L.frm, .int .i64 L.to, .int .i64 L.a, .int .i64 L.b, .int .i64 L.c, .int .i64 L.d, .string L.s, .string L.t, .slice Ap np cp, .slice Ai ni ci, .int .i64 L.code, .bool L.yes, .string L.body]) := Lib.hid (Box.made _ _ _)
    have hwr1 : w.heap.size < wr1.heap.size := HRW.out.lt
    have HO4 : Hid (OwnLps (w3.alloc (.cells #[.int .i64 L.kind, .int .i64 L.frm, .int .i64 L.to, .int .i64 L.a, .int .i64 L.b, .int .i64 L.c, .int .i64 L.d, .string L.s, .string L.t, .slice Ap np cp, .slice Ai ni ci, .int .i64 L.code, .bool L.yes, .string L.body] 69)) wr1.heap.size (.slice Ap np cp) L.ps ∧ OwnLis (w3.alloc (.cells #[.int .i64 L.kind, .int .i64 L.frm, .int .i64 L.to, .int .i64 L.a, .int .i64 L.b, .int .i64 L.c, .int .i64 L.d, .string L.s, .string L.t, .slice Ap np cp, .slice Ai ni ci, .int .i64 L.code, .bool L.yes, .string L.body] 69)) wr1.heap.size (.slice Ai ni ci) L.is) := Lib.hid ⟨hop.below hal, hoi.below hal⟩
    clear hop hoi hrd hgr hal KL HRD HBW HRW
    go_upto_region 5 with fail
    generalize hW4 : (w3.alloc (.cells #[.int .i64 L.kind, .int .i64 L.frm, .int .i64 L.to, .int .i64 L.a, .int .i64 L.b, .int .i64 L.c, .int .i64 L.d, .string L.s, .string L.t, .slice Ap np cp, .slice Ai ni ci, .int .i64 L.code, .bool L.yes, .string L.body] 69)) = w4 at *
    generalize hLb : w3.heap.size = lb at *
    clear hW4
    obtain ⟨⟨c0, c1, c2⟩, g1, g2⟩ := HRD4.out.cells
    obtain ⟨p', e'⟩ := s'
    simp only at c1 c2 HU1
    by_cases hlt : p' < s.size
    · have hlt' : (p' : Int) < (s.size : Int) := by omega
      have hld : decide ((p' : Int) < (s.size : Int)) = true := decide_eq_true hlt'
      obtain ⟨e2, he2⟩ : ∃ e2, (if e' = 0 then 3 else e') = e2 := ⟨_, rfl⟩
      have hne : e2 ≠ 0 := by rw [← he2]; split <;> omega
      have hES : endS l (p', e') = (p', e2) := by
        unfold endS
        have hl9 : (p', e').1 < l.length := by rw [HLen.out]; exact hlt
        rw [if_pos hl9]
        show (p', if e' = 0 then 3 else e') = (p', e2)
        rw [he2]
      rw [hES] at HU1
      have HU : Hid (U = (zeroLet, e2)) := Lib.hid (by rw [HU1.out]; exact if_pos hne)
      have hrw4 : r < w4.heap.size := HRD4.out.box.lt
      have HF : Hid (∀ q, Calls Try.prog 90 #[.pointer (some ⟨r, 0, none⟩), .int .i64 3] (w4.drewN q) (RdPost (w4.drewN q) r (some ⟨w.heap.size + 1, 0, none⟩) s.size c l (.tuple #[]) (p', e2))) := Lib.hid (fun q => by
        have h9 := fail_any r (some ⟨w.heap.size + 1, 0, none⟩) s.size c l (p', e') 3 (w4.drewN q) (HRD4.out.below (below_drN4 w4 q))
        rw [he2] at h9
        exact h9)
      have hne1 : ((e2 : Int) == 0) = false := by simpa using hne
      have hne2 : ((e2 : Int) != 0) = true := by simpa using hne
      clear he2 hne hlt hES
      go_wp2
      go_quiet (fail)
      go_wp2_with fail
      refine (HF.out _).mono ?_
      rintro e w5 hq
      obtain ⟨rfl, h5, g5⟩ := hq
      have hRd := h5.box
      have HR5 := Lib.hid (grown_box g5 (HR4.out.below (below_drN4 w4 _) HR4.out.lt) (by omega))
      have HB5 := Lib.hid (grown_belowR (HB4.out.trans ((below_drN4 w4 _).mono HB4.out.size)) g5 (by omega) HB4.out.size)
      have c2 : w5.cell? ⟨r, 2, none⟩ = some (.int .i64 (e2 : Int)) := hRd.cell 2
      clear h5 g5
      have hZ := HR5.out
      have z0 : w5.cell? ⟨w.heap.size, 0, none⟩ = some (.int .i64 0) := hZ.cell 0
      have y0 : w5.frozen? ⟨w.heap.size, 0, none⟩ = false := hZ.frozen 0
      have z1 : w5.cell? ⟨w.heap.size, 1, none⟩ = some (.int .i64 0) := hZ.cell 1
      have y1 : w5.frozen? ⟨w.heap.size, 1, none⟩ = false := hZ.frozen 1
      have z2 : w5.cell? ⟨w.heap.size, 2, none⟩ = some (.int .i64 0) := hZ.cell 2
      have y2 : w5.frozen? ⟨w.heap.size, 2, none⟩ = false := hZ.frozen 2
      have z3 : w5.cell? ⟨w.heap.size, 3, none⟩ = some (.int .i64 0) := hZ.cell 3
      have y3 : w5.frozen? ⟨w.heap.size, 3, none⟩ = false := hZ.frozen 3
      have z4 : w5.cell? ⟨w.heap.size, 4, none⟩ = some (.int .i64 0) := hZ.cell 4
      have y4 : w5.frozen? ⟨w.heap.size, 4, none⟩ = false := hZ.frozen 4
      have z5 : w5.cell? ⟨w.heap.size, 5, none⟩ = some (.int .i64 0) := hZ.cell 5
      have y5 : w5.frozen? ⟨w.heap.size, 5, none⟩ = false := hZ.frozen 5
      have z6 : w5.cell? ⟨w.heap.size, 6, none⟩ = some (.int .i64 0) := hZ.cell 6
      have y6 : w5.frozen? ⟨w.heap.size, 6, none⟩ = false := hZ.frozen 6
      have z7 : w5.cell? ⟨w.heap.size, 7, none⟩ = some (.string ⟨#[]⟩) := hZ.cell 7
      have y7 : w5.frozen? ⟨w.heap.size, 7, none⟩ = false := hZ.frozen 7
      have z8 : w5.cell? ⟨w.heap.size, 8, none⟩ = some (.string ⟨#[]⟩) := hZ.cell 8
      have y8 : w5.frozen? ⟨w.heap.size, 8, none⟩ = false := hZ.frozen 8
      have z9 : w5.cell? ⟨w.heap.size, 9, none⟩ = some (.slice none 0 0) := hZ.cell 9
      have y9 : w5.frozen? ⟨w.heap.size, 9, none⟩ = false := hZ.frozen 9
      have z10 : w5.cell? ⟨w.heap.size, 10, none⟩ = some (.slice none 0 0) := hZ.cell 10
      have y10 : w5.frozen? ⟨w.heap.size, 10, none⟩ = false := hZ.frozen 10
      have z11 : w5.cell? ⟨w.heap.size, 11, none⟩ = some (.int .i64 0) := hZ.cell 11
      have y11 : w5.frozen? ⟨w.heap.size, 11, none⟩ = false := hZ.frozen 11
      have z12 : w5.cell? ⟨w.heap.size, 12, none⟩ = some (.bool false) := hZ.cell 12
      have y12 : w5.frozen? ⟨w.heap.size, 12, none⟩ = false := hZ.frozen 12
      have z13 : w5.cell? ⟨w.heap.size, 13, none⟩ = some (.string ⟨#[]⟩) := hZ.cell 13
      have y13 : w5.frozen? ⟨w.heap.size, 13, none⟩ = false := hZ.frozen 13
      have hb0 : Box _ (w.heap.size) 69 #[.int .i64 0, .int .i64 0, .int .i64 0, .int .i64 0, .int .i64 0, .int .i64 0, .int .i64 0, .string ⟨#[]⟩, .string ⟨#[]⟩, .slice none 0 0, .slice none 0 0, .int .i64 0, .bool false, .string ⟨#[]⟩] := hZ.set_ 0 (.int .i64 0)
      have hb1 : Box _ (w.heap.size) 69 #[.int .i64 0, .int .i64 0, .int .i64 0, .int .i64 0, .int .i64 0, .int .i64 0, .int .i64 0, .string ⟨#[]⟩, .string ⟨#[]⟩, .slice none 0 0, .slice none 0 0, .int .i64 0, .bool false, .string ⟨#[]⟩] := hb0.set_ 1 (.int .i64 0)
      have hb2 : Box _ (w.heap.size) 69 #[.int .i64 0, .int .i64 0, .int .i64 0, .int .i64 0, .int .i64 0, .int .i64 0, .int .i64 0, .string ⟨#[]⟩, .string ⟨#[]⟩, .slice none 0 0, .slice none 0 0, .int .i64 0, .bool false, .string ⟨#[]⟩] := hb1.set_ 2 (.int .i64 0)
      have hb3 : Box _ (w.heap.size) 69 #[.int .i64 0, .int .i64 0, .int .i64 0, .int .i64 0, .int .i64 0, .int .i64 0, .int .i64 0, .string ⟨#[]⟩, .string ⟨#[]⟩, .slice none 0 0, .slice none 0 0, .int .i64 0, .bool false, .string ⟨#[]⟩] := hb2.set_ 3 (.int .i64 0)
      have hb4 : Box _ (w.heap.size) 69 #[.int .i64 0, .int .i64 0, .int .i64 0, .int .i64 0, .int .i64 0, .int .i64 0, .int .i64 0, .string ⟨#[]⟩, .string ⟨#[]⟩, .slice none 0 0, .slice none 0 0, .int .i64 0, .bool false, .string ⟨#[]⟩] := hb3.set_ 4 (.int .i64 0)
      have hb5 : Box _ (w.heap.size) 69 #[.int .i64 0, .int .i64 0, .int .i64 0, .int .i64 0, .int .i64 0, .int .i64 0, .int .i64 0, .string ⟨#[]⟩, .string ⟨#[]⟩, .slice none 0 0, .slice none 0 0, .int .i64 0, .bool false, .string ⟨#[]⟩] := hb4.set_ 5 (.int .i64 0)
      have hb6 : Box _ (w.heap.size) 69 #[.int .i64 0, .int .i64 0, .int .i64 0, .int .i64 0, .int .i64 0, .int .i64 0, .int .i64 0, .string ⟨#[]⟩, .string ⟨#[]⟩, .slice none 0 0, .slice none 0 0, .int .i64 0, .bool false, .string ⟨#[]⟩] := hb5.set_ 6 (.int .i64 0)
      have hb7 : Box _ (w.heap.size) 69 #[.int .i64 0, .int .i64 0, .int .i64 0, .int .i64 0, .int .i64 0, .int .i64 0, .int .i64 0, .string ⟨#[]⟩, .string ⟨#[]⟩, .slice none 0 0, .slice none 0 0, .int .i64 0, .bool false, .string ⟨#[]⟩] := hb6.set_ 7 (.string ⟨#[]⟩)
      have hb8 : Box _ (w.heap.size) 69 #[.int .i64 0, .int .i64 0, .int .i64 0, .int .i64 0, .int .i64 0, .int .i64 0, .int .i64 0, .string ⟨#[]⟩, .string ⟨#[]⟩, .slice none 0 0, .slice none 0 0, .int .i64 0, .bool false, .string ⟨#[]⟩] := hb7.set_ 8 (.string ⟨#[]⟩)
      have hb9 : Box _ (w.heap.size) 69 #[.int .i64 0, .int .i64 0, .int .i64 0, .int .i64 0, .int .i64 0, .int .i64 0, .int .i64 0, .string ⟨#[]⟩, .string ⟨#[]⟩, .slice none 0 0, .slice none 0 0, .int .i64 0, .bool false, .string ⟨#[]⟩] := hb8.set_ 9 (.slice none 0 0)
      have hb10 : Box _ (w.heap.size) 69 #[.int .i64 0, .int .i64 0, .int .i64 0, .int .i64 0, .int .i64 0, .int .i64 0, .int .i64 0, .string ⟨#[]⟩, .string ⟨#[]⟩, .slice none 0 0, .slice none 0 0, .int .i64 0, .bool false, .string ⟨#[]⟩] := hb9.set_ 10 (.slice none 0 0)
      have hb11 : Box _ (w.heap.size) 69 #[.int .i64 0, .int .i64 0, .int .i64 0, .int .i64 0, .int .i64 0, .int .i64 0, .int .i64 0, .string ⟨#[]⟩, .string ⟨#[]⟩, .slice none 0 0, .slice none 0 0, .int .i64 0, .bool false, .string ⟨#[]⟩] := hb10.set_ 11 (.int .i64 0)
      have hb12 : Box _ (w.heap.size) 69 #[.int .i64 0, .int .i64 0, .int .i64 0, .int .i64 0, .int .i64 0, .int .i64 0, .int .i64 0, .string ⟨#[]⟩, .string ⟨#[]⟩, .slice none 0 0, .slice none 0 0, .int .i64 0, .bool false, .string ⟨#[]⟩] := hb11.set_ 12 (.bool false)
      have hS : Box _ (w.heap.size) 69 #[.int .i64 0, .int .i64 0, .int .i64 0, .int .i64 0, .int .i64 0, .int .i64 0, .int .i64 0, .string ⟨#[]⟩, .string ⟨#[]⟩, .slice none 0 0, .slice none 0 0, .int .i64 0, .bool false, .string ⟨#[]⟩] := hb12.set_ 13 (.string ⟨#[]⟩)
      have HBE : Hid (Below w.heap.size w ((((((((((((((w5.setCell ⟨w.heap.size, 0, none⟩ (.int .i64 0)).setCell ⟨w.heap.size, 1, none⟩ (.int .i64 0)).setCell ⟨w.heap.size, 2, none⟩ (.int .i64 0)).setCell ⟨w.heap.size, 3, none⟩ (.int .i64 0)).setCell ⟨w.heap.size, 4, none⟩ (.int .i64 0)).setCell ⟨w.heap.size, 5, none⟩ (.int .i64 0)).setCell ⟨w.heap.size, 6, none⟩ (.int .i64 0)).setCell ⟨w.heap.size, 7, none⟩ (.string ⟨#[]⟩)).setCell ⟨w.heap.size, 8, none⟩ (.string ⟨#[]⟩)).setCell ⟨w.heap.size, 9, none⟩ (.slice none 0 0)).setCell ⟨w.heap.size, 10, none⟩ (.slice none 0 0)).setCell ⟨w.heap.size, 11, none⟩ (.int .i64 0)).setCell ⟨w.heap.size, 12, none⟩ (.bool false)).setCell ⟨w.heap.size, 13, none⟩ (.string ⟨#[]⟩))) := Lib.hid ((((((((((((((HB5.out.setCell (p := ⟨w.heap.size, 0, none⟩) (Nat.le_refl _) (.int .i64 0)).setCell (p := ⟨w.heap.size, 1, none⟩) (Nat.le_refl _) (.int .i64 0)).setCell (p := ⟨w.heap.size, 2, none⟩) (Nat.le_refl _) (.int .i64 0)).setCell (p := ⟨w.heap.size, 3, none⟩) (Nat.le_refl _) (.int .i64 0)).setCell (p := ⟨w.heap.size, 4, none⟩) (Nat.le_refl _) (.int .i64 0)).setCell (p := ⟨w.heap.size, 5, none⟩) (Nat.le_refl _) (.int .i64 0)).setCell (p := ⟨w.heap.size, 6, none⟩) (Nat.le_refl _) (.int .i64 0)).setCell (p := ⟨w.heap.size, 7, none⟩) (Nat.le_refl _) (.string ⟨#[]⟩)).setCell (p := ⟨w.heap.size, 8, none⟩) (Nat.le_refl _) (.string ⟨#[]⟩)).setCell (p := ⟨w.heap.size, 9, none⟩) (Nat.le_refl _) (.slice none 0 0)).setCell (p := ⟨w.heap.size, 10, none⟩) (Nat.le_refl _) (.slice none 0 0)).setCell (p := ⟨w.heap.size, 11, none⟩) (Nat.le_refl _) (.int .i64 0)).setCell (p := ⟨w.heap.size, 12, none⟩) (Nat.le_refl _) (.bool false)).setCell (p := ⟨w.heap.size, 13, none⟩) (Nat.le_refl _) (.string ⟨#[]⟩))
      have k4 : ((((((((((((((w5.setCell ⟨w.heap.size, 0, none⟩ (.int .i64 0)).setCell ⟨w.heap.size, 1, none⟩ (.int .i64 0)).setCell ⟨w.heap.size, 2, none⟩ (.int .i64 0)).setCell ⟨w.heap.size, 3, none⟩ (.int .i64 0)).setCell ⟨w.heap.size, 4, none⟩ (.int .i64 0)).setCell ⟨w.heap.size, 5, none⟩ (.int .i64 0)).setCell ⟨w.heap.size, 6, none⟩ (.int .i64 0)).setCell ⟨w.heap.size, 7, none⟩ (.string ⟨#[]⟩)).setCell ⟨w.heap.size, 8, none⟩ (.string ⟨#[]⟩)).setCell ⟨w.heap.size, 9, none⟩ (.slice none 0 0)).setCell ⟨w.heap.size, 10, none⟩ (.slice none 0 0)).setCell ⟨w.heap.size, 11, none⟩ (.int .i64 0)).setCell ⟨w.heap.size, 12, none⟩ (.bool false)).setCell ⟨w.heap.size, 13, none⟩ (.string ⟨#[]⟩)).cell? ⟨r, 2, none⟩ = some (.int .i64 (e2 : Int)) := ((((((((((((((hRd.far (p := ⟨w.heap.size, 0, none⟩) (by show r ≠ w.heap.size; omega) (.int .i64 0)).far (p := ⟨w.heap.size, 1, none⟩) (by show r ≠ w.heap.size; omega) (.int .i64 0)).far (p := ⟨w.heap.size, 2, none⟩) (by show r ≠ w.heap.size; omega) (.int .i64 0)).far (p := ⟨w.heap.size, 3, none⟩) (by show r ≠ w.heap.size; omega) (.int .i64 0)).far (p := ⟨w.heap.size, 4, none⟩) (by show r ≠ w.heap.size; omega) (.int .i64 0)).far (p := ⟨w.heap.size, 5, none⟩) (by show r ≠ w.heap.size; omega) (.int .i64 0)).far (p := ⟨w.heap.size, 6, none⟩) (by show r ≠ w.heap.size; omega) (.int .i64 0)).far (p := ⟨w.heap.size, 7, none⟩) (by show r ≠ w.heap.size; omega) (.string ⟨#[]⟩)).far (p := ⟨w.heap.size, 8, none⟩) (by show r ≠ w.heap.size; omega) (.string ⟨#[]⟩)).far (p := ⟨w.heap.size, 9, none⟩) (by show r ≠ w.heap.size; omega) (.slice none 0 0)).far (p := ⟨w.heap.size, 10, none⟩) (by show r ≠ w.heap.size; omega) (.slice none 0 0)).far (p := ⟨w.heap.size, 11, none⟩) (by show r ≠ w.heap.size; omega) (.int .i64 0)).far (p := ⟨w.heap.size, 12, none⟩) (by show r ≠ w.heap.size; omega) (.bool false)).far (p := ⟨w.heap.size, 13, none⟩) (by show r ≠ w.heap.size; omega) (.string ⟨#[]⟩)).cell 2
      obtain ⟨WZ, hWZ⟩ : ∃ WZ, ((((((((((((((w5.setCell ⟨w.heap.size, 0, none⟩ (.int .i64 0)).setCell ⟨w.heap.size, 1, none⟩ (.int .i64 0)).setCell ⟨w.heap.size, 2, none⟩ (.int .i64 0)).setCell ⟨w.heap.size, 3, none⟩ (.int .i64 0)).setCell ⟨w.heap.size, 4, none⟩ (.int .i64 0)).setCell ⟨w.heap.size, 5, none⟩ (.int .i64 0)).setCell ⟨w.heap.size, 6, none⟩ (.int .i64 0)).setCell ⟨w.heap.size, 7, none⟩ (.string ⟨#[]⟩)).setCell ⟨w.heap.size, 8, none⟩ (.string ⟨#[]⟩)).setCell ⟨w.heap.size, 9, none⟩ (.slice none 0 0)).setCell ⟨w.heap.size, 10, none⟩ (.slice none 0 0)).setCell ⟨w.heap.size, 11, none⟩ (.int .i64 0)).setCell ⟨w.heap.size, 12, none⟩ (.bool false)).setCell ⟨w.heap.size, 13, none⟩ (.string ⟨#[]⟩)) = WZ := ⟨_, rfl⟩
      rw [hWZ] at hS HBE k4
      have p0 : WZ.cell? ⟨w.heap.size, 0, none⟩ = some (.int .i64 0) := hS.cell 0
      have p1 : WZ.cell? ⟨w.heap.size, 1, none⟩ = some (.int .i64 0) := hS.cell 1
      have p2 : WZ.cell? ⟨w.heap.size, 2, none⟩ = some (.int .i64 0) := hS.cell 2
      have p3 : WZ.cell? ⟨w.heap.size, 3, none⟩ = some (.int .i64 0) := hS.cell 3
      have p4 : WZ.cell? ⟨w.heap.size, 4, none⟩ = some (.int .i64 0) := hS.cell 4
      have p5 : WZ.cell? ⟨w.heap.size, 5, none⟩ = some (.int .i64 0) := hS.cell 5
      have p6 : WZ.cell? ⟨w.heap.size, 6, none⟩ = some (.int .i64 0) := hS.cell 6
      have p7 : WZ.cell? ⟨w.heap.size, 7, none⟩ = some (.string ⟨#[]⟩) := hS.cell 7
      have p8 : WZ.cell? ⟨w.heap.size, 8, none⟩ = some (.string ⟨#[]⟩) := hS.cell 8
      have p9 : WZ.cell? ⟨w.heap.size, 9, none⟩ = some (.slice none 0 0) := hS.cell 9
      have p10 : WZ.cell? ⟨w.heap.size, 10, none⟩ = some (.slice none 0 0) := hS.cell 10
      have p11 : WZ.cell? ⟨w.heap.size, 11, none⟩ = some (.int .i64 0) := hS.cell 11
      have p12 : WZ.cell? ⟨w.heap.size, 12, none⟩ = some (.bool false) := hS.cell 12
      have p13 : WZ.cell? ⟨w.heap.size, 13, none⟩ = some (.string ⟨#[]⟩) := hS.cell 13
      clear hS hZ hb0 hb1 hb2 hb3 hb4 hb5 hb6 hb7 hb8 hb9 hb10 hb11 hb12
      go_wp2
      go_region
      all_goals
        go_wp2
        refine bodyPost_ret (v := .tuple #[.agg #[.int .i64 0, .int .i64 0, .int .i64 0, .int .i64 0, .int .i64 0, .int .i64 0, .int .i64 0, .string ⟨#[]⟩, .string ⟨#[]⟩, .slice none 0 0, .slice none 0 0, .int .i64 0, .bool false, .string ⟨#[]⟩], .int .i64 (e2 : Int)]) ?_ rfl (by rw [HU.out]; exact ⟨none, 0, 0, none, 0, 0, rfl, OwnLps.nil _ _, OwnLis.nil _ _, HBE.out.drew⟩)
        simp [results, Try.results57, go_sem, p0, p1, p2, p3, p4, p5, p6, p7, p8, p9, p10, p11, p12, p13]
    · have hlt' : ¬ (p' : Int) < (s.size : Int) := by omega
      have hld : decide ((p' : Int) < (s.size : Int)) = false := decide_eq_false hlt'
      have hES : endS l (p', e') = (p', e') := by unfold endS; rw [if_neg (by rw [HLen.out]; exact hlt)]
      rw [hES] at HU1
      simp only at HU1
      clear hlt hES
      go_wp2
      go_quiet (fail)
      generalize hW5 : World.drewN w4 _ = w5
      have hb45 : Below w4.heap.size w4 w5 := hW5 ▸ below_drN4 w4 _
      clear hW5
      have hRd := HRD4.out.box.below hb45 HRD4.out.box.lt
      have HR5 := Lib.hid (HR4.out.below hb45 HR4.out.lt)
      have HL5 := Lib.hid (HL4.out.below hb45 HL4.out.lt)
      have HB5 := Lib.hid (HB4.out.trans (hb45.mono HB4.out.size))
      have HOO := Lib.hid (And.intro (HO4.out.1.below hb45) (HO4.out.2.below hb45))
      have c2 : w5.cell? ⟨r, 2, none⟩ = some (.int .i64 (e' : Int)) := hRd.cell 2
      clear hb45
      by_cases he : e' = 0
      · subst he
        have HU : Hid (U = (L, 0)) := Lib.hid (by rw [HU1.out]; exact if_neg (by simp))
        have hLb := HL5.out
        have v0 : w5.cell? ⟨lb, 0, none⟩ = some (.int .i64 L.kind) := hLb.cell 0
        have v1 : w5.cell? ⟨lb, 1, none⟩ = some (.int .i64 L.frm) := hLb.cell 1
        have v2 : w5.cell? ⟨lb, 2, none⟩ = some (.int .i64 L.to) := hLb.cell 2
        have v3 : w5.cell? ⟨lb, 3, none⟩ = some (.int .i64 L.a) := hLb.cell 3
        have v4 : w5.cell? ⟨lb, 4, none⟩ = some (.int .i64 L.b) := hLb.cell 4
        have v5 : w5.cell? ⟨lb, 5, none⟩ = some (.int .i64 L.c) := hLb.cell 5
        have v6 : w5.cell? ⟨lb, 6, none⟩ = some (.int .i64 L.d) := hLb.cell 6
        have v7 : w5.cell? ⟨lb, 7, none⟩ = some (.string L.s) := hLb.cell 7
        have v8 : w5.cell? ⟨lb, 8, none⟩ = some (.string L.t) := hLb.cell 8
        have v9 : w5.cell? ⟨lb, 9, none⟩ = some (.slice Ap np cp) := hLb.cell 9
        have v10 : w5.cell? ⟨lb, 10, none⟩ = some (.slice Ai ni ci) := hLb.cell 10
        have v11 : w5.cell? ⟨lb, 11, none⟩ = some (.int .i64 L.code) := hLb.cell 11
        have v12 : w5.cell? ⟨lb, 12, none⟩ = some (.bool L.yes) := hLb.cell 12
        have v13 : w5.cell? ⟨lb, 13, none⟩ = some (.string L.body) := hLb.cell 13
        clear hLb
        have hZ := HR5.out
        have z0 : w5.cell? ⟨w.heap.size, 0, none⟩ = some (.int .i64 0) := hZ.cell 0
        have y0 : w5.frozen? ⟨w.heap.size, 0, none⟩ = false := hZ.frozen 0
        have z1 : w5.cell? ⟨w.heap.size, 1, none⟩ = some (.int .i64 0) := hZ.cell 1
        have y1 : w5.frozen? ⟨w.heap.size, 1, none⟩ = false := hZ.frozen 1
        have z2 : w5.cell? ⟨w.heap.size, 2, none⟩ = some (.int .i64 0) := hZ.cell 2
        have y2 : w5.frozen? ⟨w.heap.size, 2, none⟩ = false := hZ.frozen 2
        have z3 : w5.cell? ⟨w.heap.size, 3, none⟩ = some (.int .i64 0) := hZ.cell 3
        have y3 : w5.frozen? ⟨w.heap.size, 3, none⟩ = false := hZ.frozen 3
        have z4 : w5.cell? ⟨w.heap.size, 4, none⟩ = some (.int .i64 0) := hZ.cell 4
        have y4 : w5.frozen? ⟨w.heap.size, 4, none⟩ = false := hZ.frozen 4
        have z5 : w5.cell? ⟨w.heap.size, 5, none⟩ = some (.int .i64 0) := hZ.cell 5
        have y5 : w5.frozen? ⟨w.heap.size, 5, none⟩ = false := hZ.frozen 5
        have z6 : w5.cell? ⟨w.heap.size, 6, none⟩ = some (.int .i64 0) := hZ.cell 6
        have y6 : w5.frozen? ⟨w.heap.size, 6, none⟩ = false := hZ.frozen 6
        have z7 : w5.cell? ⟨w.heap.size, 7, none⟩ = some (.string ⟨#[]⟩) := hZ.cell 7
        have y7 : w5.frozen? ⟨w.heap.size, 7, none⟩ = false := hZ.frozen 7
        have z8 : w5.cell? ⟨w.heap.size, 8, none⟩ = some (.string ⟨#[]⟩) := hZ.cell 8
        have y8 : w5.frozen? ⟨w.heap.size, 8, none⟩ = false := hZ.frozen 8
        have z9 : w5.cell? ⟨w.heap.size, 9, none⟩ = some (.slice none 0 0) := hZ.cell 9
        have y9 : w5.frozen? ⟨w.heap.size, 9, none⟩ = false := hZ.frozen 9
        have z10 : w5.cell? ⟨w.heap.size, 10, none⟩ = some (.slice none 0 0) := hZ.cell 10
        have y10 : w5.frozen? ⟨w.heap.size, 10, none⟩ = false := hZ.frozen 10
        have z11 : w5.cell? ⟨w.heap.size, 11, none⟩ = some (.int .i64 0) := hZ.cell 11
        have y11 : w5.frozen? ⟨w.heap.size, 11, none⟩ = false := hZ.frozen 11
        have z12 : w5.cell? ⟨w.heap.size, 12, none⟩ = some (.bool false) := hZ.cell 12
        have y12 : w5.frozen? ⟨w.heap.size, 12, none⟩ = false := hZ.frozen 12
        have z13 : w5.cell? ⟨w.heap.size, 13, none⟩ = some (.string ⟨#[]⟩) := hZ.cell 13
        have y13 : w5.frozen? ⟨w.heap.size, 13, none⟩ = false := hZ.frozen 13
        have hb0 : Box _ (w.heap.size) 69 #[.int .i64 L.kind, .int .i64 0, .int .i64 0, .int .i64 0, .int .i64 0, .int .i64 0, .int .i64 0, .string ⟨#[]⟩, .string ⟨#[]⟩, .slice none 0 0, .slice none 0 0, .int .i64 0, .bool false, .string ⟨#[]⟩] := hZ.set_ 0 (.int .i64 L.kind)
        have hb1 : Box _ (w.heap.size) 69 #[.int .i64 L.kind, .int .i64 L.frm, .int .i64 0, .int .i64 0, .int .i64 0, .int .i64 0, .int .i64 0, .string ⟨#[]⟩, .string ⟨#[]⟩, .slice none 0 0, .slice none 0 0, .int .i64 0, .bool false, .string ⟨#[]⟩] := hb0.set_ 1 (.int .i64 L.frm)
        have hb2 : Box _ (w.heap.size) 69 #[.int .i64 L.kind, .int .i64 L.frm, .int .i64 L.to, .int .i64 0, .int .i64 0, .int .i64 0, .int .i64 0, .string ⟨#[]⟩, .string ⟨#[]⟩, .slice none 0 0, .slice none 0 0, .int .i64 0, .bool false, .string ⟨#[]⟩] := hb1.set_ 2 (.int .i64 L.to)
        have hb3 : Box _ (w.heap.size) 69 #[.int .i64 L.kind, .int .i64 L.frm, .int .i64 L.to, .int .i64 L.a, .int .i64 0, .int .i64 0, .int .i64 0, .string ⟨#[]⟩, .string ⟨#[]⟩, .slice none 0 0, .slice none 0 0, .int .i64 0, .bool false, .string ⟨#[]⟩] := hb2.set_ 3 (.int .i64 L.a)
        have hb4 : Box _ (w.heap.size) 69 #[.int .i64 L.kind, .int .i64 L.frm, .int .i64 L.to, .int .i64 L.a, .int .i64 L.b, .int .i64 0, .int .i64 0, .string ⟨#[]⟩, .string ⟨#[]⟩, .slice none 0 0, .slice none 0 0, .int .i64 0, .bool false, .string ⟨#[]⟩] := hb3.set_ 4 (.int .i64 L.b)
        have hb5 : Box _ (w.heap.size) 69 #[.int .i64 L.kind, .int .i64 L.frm, .int .i64 L.to, .int .i64 L.a, .int .i64 L.b, .int .i64 L.c, .int .i64 0, .string ⟨#[]⟩, .string ⟨#[]⟩, .slice none 0 0, .slice none 0 0, .int .i64 0, .bool false, .string ⟨#[]⟩] := hb4.set_ 5 (.int .i64 L.c)
        have hb6 : Box _ (w.heap.size) 69 #[.int .i64 L.kind, .int .i64 L.frm, .int .i64 L.to, .int .i64 L.a, .int .i64 L.b, .int .i64 L.c, .int .i64 L.d, .string ⟨#[]⟩, .string ⟨#[]⟩, .slice none 0 0, .slice none 0 0, .int .i64 0, .bool false, .string ⟨#[]⟩] := hb5.set_ 6 (.int .i64 L.d)
        have hb7 : Box _ (w.heap.size) 69 #[.int .i64 L.kind, .int .i64 L.frm, .int .i64 L.to, .int .i64 L.a, .int .i64 L.b, .int .i64 L.c, .int .i64 L.d, .string L.s, .string ⟨#[]⟩, .slice none 0 0, .slice none 0 0, .int .i64 0, .bool false, .string ⟨#[]⟩] := hb6.set_ 7 (.string L.s)
        have hb8 : Box _ (w.heap.size) 69 #[.int .i64 L.kind, .int .i64 L.frm, .int .i64 L.to, .int .i64 L.a, .int .i64 L.b, .int .i64 L.c, .int .i64 L.d, .string L.s, .string L.t, .slice none 0 0, .slice none 0 0, .int .i64 0, .bool false, .string ⟨#[]⟩] := hb7.set_ 8 (.string L.t)
        have hb9 : Box _ (w.heap.size) 69 #[.int .i64 L.kind, .int .i64 L.frm, .int .i64 L.to, .int .i64 L.a, .int .i64 L.b, .int .i64 L.c, .int .i64 L.d, .string L.s, .string L.t, .slice Ap np cp, .slice none 0 0, .int .i64 0, .bool false, .string ⟨#[]⟩] := hb8.set_ 9 (.slice Ap np cp)
        have hb10 : Box _ (w.heap.size) 69 #[.int .i64 L.kind, .int .i64 L.frm, .int .i64 L.to, .int .i64 L.a, .int .i64 L.b, .int .i64 L.c, .int .i64 L.d, .string L.s, .string L.t, .slice Ap np cp, .slice Ai ni ci, .int .i64 0, .bool false, .string ⟨#[]⟩] := hb9.set_ 10 (.slice Ai ni ci)
        have hb11 : Box _ (w.heap.size) 69 #[.int .i64 L.kind, .int .i64 L.frm, .int .i64 L.to, .int .i64 L.a, .int .i64 L.b, .int .i64 L.c, .int .i64 L.d, .string L.s, .string L.t, .slice Ap np cp, .slice Ai ni ci, .int .i64 L.code, .bool false, .string ⟨#[]⟩] := hb10.set_ 11 (.int .i64 L.code)
        have hb12 : Box _ (w.heap.size) 69 #[.int .i64 L.kind, .int .i64 L.frm, .int .i64 L.to, .int .i64 L.a, .int .i64 L.b, .int .i64 L.c, .int .i64 L.d, .string L.s, .string L.t, .slice Ap np cp, .slice Ai ni ci, .int .i64 L.code, .bool L.yes, .string ⟨#[]⟩] := hb11.set_ 12 (.bool L.yes)
        have hS : Box _ (w.heap.size) 69 #[.int .i64 L.kind, .int .i64 L.frm, .int .i64 L.to, .int .i64 L.a, .int .i64 L.b, .int .i64 L.c, .int .i64 L.d, .string L.s, .string L.t, .slice Ap np cp, .slice Ai ni ci, .int .i64 L.code, .bool L.yes, .string L.body] := hb12.set_ 13 (.string L.body)
        have HBE : Hid (Below w.heap.size w ((((((((((((((w5.setCell ⟨w.heap.size, 0, none⟩ (.int .i64 L.kind)).setCell ⟨w.heap.size, 1, none⟩ (.int .i64 L.frm)).setCell ⟨w.heap.size, 2, none⟩ (.int .i64 L.to)).setCell ⟨w.heap.size, 3, none⟩ (.int .i64 L.a)).setCell ⟨w.heap.size, 4, none⟩ (.int .i64 L.b)).setCell ⟨w.heap.size, 5, none⟩ (.int .i64 L.c)).setCell ⟨w.heap.size, 6, none⟩ (.int .i64 L.d)).setCell ⟨w.heap.size, 7, none⟩ (.string L.s)).setCell ⟨w.heap.size, 8, none⟩ (.string L.t)).setCell ⟨w.heap.size, 9, none⟩ (.slice Ap np cp)).setCell ⟨w.heap.size, 10, none⟩ (.slice Ai ni ci)).setCell ⟨w.heap.size, 11, none⟩ (.int .i64 L.code)).setCell ⟨w.heap.size, 12, none⟩ (.bool L.yes)).setCell ⟨w.heap.size, 13, none⟩ (.string L.body))) := Lib.hid ((((((((((((((HB5.out.setCell (p := ⟨w.heap.size, 0, none⟩) (Nat.le_refl _) (.int .i64 L.kind)).setCell (p := ⟨w.heap.size, 1, none⟩) (Nat.le_refl _) (.int .i64 L.frm)).setCell (p := ⟨w.heap.size, 2, none⟩) (Nat.le_refl _) (.int .i64 L.to)).setCell (p := ⟨w.heap.size, 3, none⟩) (Nat.le_refl _) (.int .i64 L.a)).setCell (p := ⟨w.heap.size, 4, none⟩) (Nat.le_refl _) (.int .i64 L.b)).setCell (p := ⟨w.heap.size, 5, none⟩) (Nat.le_refl _) (.int .i64 L.c)).setCell (p := ⟨w.heap.size, 6, none⟩) (Nat.le_refl _) (.int .i64 L.d)).setCell (p := ⟨w.heap.size, 7, none⟩) (Nat.le_refl _) (.string L.s)).setCell (p := ⟨w.heap.size, 8, none⟩) (Nat.le_refl _) (.string L.t)).setCell (p := ⟨w.heap.size, 9, none⟩) (Nat.le_refl _) (.slice Ap np cp)).setCell (p := ⟨w.heap.size, 10, none⟩) (Nat.le_refl _) (.slice Ai ni ci)).setCell (p := ⟨w.heap.size, 11, none⟩) (Nat.le_refl _) (.int .i64 L.code)).setCell (p := ⟨w.heap.size, 12, none⟩) (Nat.le_refl _) (.bool L.yes)).setCell (p := ⟨w.heap.size, 13, none⟩) (Nat.le_refl _) (.string L.body))
        have HOW : Hid (OwnLps ((((((((((((((w5.setCell ⟨w.heap.size, 0, none⟩ (.int .i64 L.kind)).setCell ⟨w.heap.size, 1, none⟩ (.int .i64 L.frm)).setCell ⟨w.heap.size, 2, none⟩ (.int .i64 L.to)).setCell ⟨w.heap.size, 3, none⟩ (.int .i64 L.a)).setCell ⟨w.heap.size, 4, none⟩ (.int .i64 L.b)).setCell ⟨w.heap.size, 5, none⟩ (.int .i64 L.c)).setCell ⟨w.heap.size, 6, none⟩ (.int .i64 L.d)).setCell ⟨w.heap.size, 7, none⟩ (.string L.s)).setCell ⟨w.heap.size, 8, none⟩ (.string L.t)).setCell ⟨w.heap.size, 9, none⟩ (.slice Ap np cp)).setCell ⟨w.heap.size, 10, none⟩ (.slice Ai ni ci)).setCell ⟨w.heap.size, 11, none⟩ (.int .i64 L.code)).setCell ⟨w.heap.size, 12, none⟩ (.bool L.yes)).setCell ⟨w.heap.size, 13, none⟩ (.string L.body)) w.heap.size (.slice Ap np cp) L.ps ∧ OwnLis ((((((((((((((w5.setCell ⟨w.heap.size, 0, none⟩ (.int .i64 L.kind)).setCell ⟨w.heap.size, 1, none⟩ (.int .i64 L.frm)).setCell ⟨w.heap.size, 2, none⟩ (.int .i64 L.to)).setCell ⟨w.heap.size, 3, none⟩ (.int .i64 L.a)).setCell ⟨w.heap.size, 4, none⟩ (.int .i64 L.b)).setCell ⟨w.heap.size, 5, none⟩ (.int .i64 L.c)).setCell ⟨w.heap.size, 6, none⟩ (.int .i64 L.d)).setCell ⟨w.heap.size, 7, none⟩ (.string L.s)).setCell ⟨w.heap.size, 8, none⟩ (.string L.t)).setCell ⟨w.heap.size, 9, none⟩ (.slice Ap np cp)).setCell ⟨w.heap.size, 10, none⟩ (.slice Ai ni ci)).setCell ⟨w.heap.size, 11, none⟩ (.int .i64 L.code)).setCell ⟨w.heap.size, 12, none⟩ (.bool L.yes)).setCell ⟨w.heap.size, 13, none⟩ (.string L.body)) w.heap.size (.slice Ai ni ci) L.is) := Lib.hid ⟨own_baseN (own_setB (own_setB (own_setB (own_setB (own_setB (own_setB (own_setB (own_setB (own_setB (own_setB (own_setB (own_setB (own_setB (own_setB HOO.out.1 (i := 0) (u := .int .i64 L.kind) (g := w.heap.size) (by omega)) (i := 1) (u := .int .i64 L.frm) (g := w.heap.size) (by omega)) (i := 2) (u := .int .i64 L.to) (g := w.heap.size) (by omega)) (i := 3) (u := .int .i64 L.a) (g := w.heap.size) (by omega)) (i := 4) (u := .int .i64 L.b) (g := w.heap.size) (by omega)) (i := 5) (u := .int .i64 L.c) (g := w.heap.size) (by omega)) (i := 6) (u := .int .i64 L.d) (g := w.heap.size) (by omega)) (i := 7) (u := .string L.s) (g := w.heap.size) (by omega)) (i := 8) (u := .string L.t) (g := w.heap.size) (by omega)) (i := 9) (u := .slice Ap np cp) (g := w.heap.size) (by omega)) (i := 10) (u := .slice Ai ni ci) (g := w.heap.size) (by omega)) (i := 11) (u := .int .i64 L.code) (g := w.heap.size) (by omega)) (i := 12) (u := .bool L.yes) (g := w.heap.size) (by omega)) (i := 13) (u := .string L.body) (g := w.heap.size) (by omega)) (by omega), own_baseN (own_setB (own_setB (own_setB (own_setB (own_setB (own_setB (own_setB (own_setB (own_setB (own_setB (own_setB (own_setB (own_setB (own_setB HOO.out.2 (i := 0) (u := .int .i64 L.kind) (g := w.heap.size) (by omega)) (i := 1) (u := .int .i64 L.frm) (g := w.heap.size) (by omega)) (i := 2) (u := .int .i64 L.to) (g := w.heap.size) (by omega)) (i := 3) (u := .int .i64 L.a) (g := w.heap.size) (by omega)) (i := 4) (u := .int .i64 L.b) (g := w.heap.size) (by omega)) (i := 5) (u := .int .i64 L.c) (g := w.heap.size) (by omega)) (i := 6) (u := .int .i64 L.d) (g := w.heap.size) (by omega)) (i := 7) (u := .string L.s) (g := w.heap.size) (by omega)) (i := 8) (u := .string L.t) (g := w.heap.size) (by omega)) (i := 9) (u := .slice Ap np cp) (g := w.heap.size) (by omega)) (i := 10) (u := .slice Ai ni ci) (g := w.heap.size) (by omega)) (i := 11) (u := .int .i64 L.code) (g := w.heap.size) (by omega)) (i := 12) (u := .bool L.yes) (g := w.heap.size) (by omega)) (i := 13) (u := .string L.body) (g := w.heap.size) (by omega)) (by omega)⟩
        obtain ⟨WZ, hWZ⟩ : ∃ WZ, ((((((((((((((w5.setCell ⟨w.heap.size, 0, none⟩ (.int .i64 L.kind)).setCell ⟨w.heap.size, 1, none⟩ (.int .i64 L.frm)).setCell ⟨w.heap.size, 2, none⟩ (.int .i64 L.to)).setCell ⟨w.heap.size, 3, none⟩ (.int .i64 L.a)).setCell ⟨w.heap.size, 4, none⟩ (.int .i64 L.b)).setCell ⟨w.heap.size, 5, none⟩ (.int .i64 L.c)).setCell ⟨w.heap.size, 6, none⟩ (.int .i64 L.d)).setCell ⟨w.heap.size, 7, none⟩ (.string L.s)).setCell ⟨w.heap.size, 8, none⟩ (.string L.t)).setCell ⟨w.heap.size, 9, none⟩ (.slice Ap np cp)).setCell ⟨w.heap.size, 10, none⟩ (.slice Ai ni ci)).setCell ⟨w.heap.size, 11, none⟩ (.int .i64 L.code)).setCell ⟨w.heap.size, 12, none⟩ (.bool L.yes)).setCell ⟨w.heap.size, 13, none⟩ (.string L.body)) = WZ := ⟨_, rfl⟩
        rw [hWZ] at hS HBE HOW
        have p0 : WZ.cell? ⟨w.heap.size, 0, none⟩ = some (.int .i64 L.kind) := hS.cell 0
        have p1 : WZ.cell? ⟨w.heap.size, 1, none⟩ = some (.int .i64 L.frm) := hS.cell 1
        have p2 : WZ.cell? ⟨w.heap.size, 2, none⟩ = some (.int .i64 L.to) := hS.cell 2
        have p3 : WZ.cell? ⟨w.heap.size, 3, none⟩ = some (.int .i64 L.a) := hS.cell 3
        have p4 : WZ.cell? ⟨w.heap.size, 4, none⟩ = some (.int .i64 L.b) := hS.cell 4
        have p5 : WZ.cell? ⟨w.heap.size, 5, none⟩ = some (.int .i64 L.c) := hS.cell 5
        have p6 : WZ.cell? ⟨w.heap.size, 6, none⟩ = some (.int .i64 L.d) := hS.cell 6
        have p7 : WZ.cell? ⟨w.heap.size, 7, none⟩ = some (.string L.s) := hS.cell 7
        have p8 : WZ.cell? ⟨w.heap.size, 8, none⟩ = some (.string L.t) := hS.cell 8
        have p9 : WZ.cell? ⟨w.heap.size, 9, none⟩ = some (.slice Ap np cp) := hS.cell 9
        have p10 : WZ.cell? ⟨w.heap.size, 10, none⟩ = some (.slice Ai ni ci) := hS.cell 10
        have p11 : WZ.cell? ⟨w.heap.size, 11, none⟩ = some (.int .i64 L.code) := hS.cell 11
        have p12 : WZ.cell? ⟨w.heap.size, 12, none⟩ = some (.bool L.yes) := hS.cell 12
        have p13 : WZ.cell? ⟨w.heap.size, 13, none⟩ = some (.string L.body) := hS.cell 13
        clear hS hZ hb0 hb1 hb2 hb3 hb4 hb5 hb6 hb7 hb8 hb9 hb10 hb11 hb12
        go_wp2
        refine bodyPost_ret (v := .tuple #[.agg #[.int .i64 L.kind, .int .i64 L.frm, .int .i64 L.to, .int .i64 L.a, .int .i64 L.b, .int .i64 L.c, .int .i64 L.d, .string L.s, .string L.t, .slice Ap np cp, .slice Ai ni ci, .int .i64 L.code, .bool L.yes, .string L.body], .int .i64 0]) ?_ rfl (by rw [HU.out]; exact ⟨Ap, np, cp, Ai, ni, ci, rfl, HOW.out.1, HOW.out.2, HBE.out⟩)
        simp [results, Try.results57, go_sem, p0, p1, p2, p3, p4, p5, p6, p7, p8, p9, p10, p11, p12, p13]
      · have hne1 : ((e' : Int) == 0) = false := by simpa using he
        have hne2 : ((e' : Int) != 0) = true := by simpa using he
        have HU : Hid (U = (zeroLet, e')) := Lib.hid (by rw [HU1.out]; exact if_pos he)
        clear he
        have hZ := HR5.out
        have z0 : w5.cell? ⟨w.heap.size, 0, none⟩ = some (.int .i64 0) := hZ.cell 0
        have y0 : w5.frozen? ⟨w.heap.size, 0, none⟩ = false := hZ.frozen 0
        have z1 : w5.cell? ⟨w.heap.size, 1, none⟩ = some (.int .i64 0) := hZ.cell 1
        have y1 : w5.frozen? ⟨w.heap.size, 1, none⟩ = false := hZ.frozen 1
        have z2 : w5.cell? ⟨w.heap.size, 2, none⟩ = some (.int .i64 0) := hZ.cell 2
        have y2 : w5.frozen? ⟨w.heap.size, 2, none⟩ = false := hZ.frozen 2
        have z3 : w5.cell? ⟨w.heap.size, 3, none⟩ = some (.int .i64 0) := hZ.cell 3
        have y3 : w5.frozen? ⟨w.heap.size, 3, none⟩ = false := hZ.frozen 3
        have z4 : w5.cell? ⟨w.heap.size, 4, none⟩ = some (.int .i64 0) := hZ.cell 4
        have y4 : w5.frozen? ⟨w.heap.size, 4, none⟩ = false := hZ.frozen 4
        have z5 : w5.cell? ⟨w.heap.size, 5, none⟩ = some (.int .i64 0) := hZ.cell 5
        have y5 : w5.frozen? ⟨w.heap.size, 5, none⟩ = false := hZ.frozen 5
        have z6 : w5.cell? ⟨w.heap.size, 6, none⟩ = some (.int .i64 0) := hZ.cell 6
        have y6 : w5.frozen? ⟨w.heap.size, 6, none⟩ = false := hZ.frozen 6
        have z7 : w5.cell? ⟨w.heap.size, 7, none⟩ = some (.string ⟨#[]⟩) := hZ.cell 7
        have y7 : w5.frozen? ⟨w.heap.size, 7, none⟩ = false := hZ.frozen 7
        have z8 : w5.cell? ⟨w.heap.size, 8, none⟩ = some (.string ⟨#[]⟩) := hZ.cell 8
        have y8 : w5.frozen? ⟨w.heap.size, 8, none⟩ = false := hZ.frozen 8
        have z9 : w5.cell? ⟨w.heap.size, 9, none⟩ = some (.slice none 0 0) := hZ.cell 9
        have y9 : w5.frozen? ⟨w.heap.size, 9, none⟩ = false := hZ.frozen 9
        have z10 : w5.cell? ⟨w.heap.size, 10, none⟩ = some (.slice none 0 0) := hZ.cell 10
        have y10 : w5.frozen? ⟨w.heap.size, 10, none⟩ = false := hZ.frozen 10
        have z11 : w5.cell? ⟨w.heap.size, 11, none⟩ = some (.int .i64 0) := hZ.cell 11
        have y11 : w5.frozen? ⟨w.heap.size, 11, none⟩ = false := hZ.frozen 11
        have z12 : w5.cell? ⟨w.heap.size, 12, none⟩ = some (.bool false) := hZ.cell 12
        have y12 : w5.frozen? ⟨w.heap.size, 12, none⟩ = false := hZ.frozen 12
        have z13 : w5.cell? ⟨w.heap.size, 13, none⟩ = some (.string ⟨#[]⟩) := hZ.cell 13
        have y13 : w5.frozen? ⟨w.heap.size, 13, none⟩ = false := hZ.frozen 13
        have hb0 : Box _ (w.heap.size) 69 #[.int .i64 0, .int .i64 0, .int .i64 0, .int .i64 0, .int .i64 0, .int .i64 0, .int .i64 0, .string ⟨#[]⟩, .string ⟨#[]⟩, .slice none 0 0, .slice none 0 0, .int .i64 0, .bool false, .string ⟨#[]⟩] := hZ.set_ 0 (.int .i64 0)
        have hb1 : Box _ (w.heap.size) 69 #[.int .i64 0, .int .i64 0, .int .i64 0, .int .i64 0, .int .i64 0, .int .i64 0, .int .i64 0, .string ⟨#[]⟩, .string ⟨#[]⟩, .slice none 0 0, .slice none 0 0, .int .i64 0, .bool false, .string ⟨#[]⟩] := hb0.set_ 1 (.int .i64 0)
        have hb2 : Box _ (w.heap.size) 69 #[.int .i64 0, .int .i64 0, .int .i64 0, .int .i64 0, .int .i64 0, .int .i64 0, .int .i64 0, .string ⟨#[]⟩, .string ⟨#[]⟩, .slice none 0 0, .slice none 0 0, .int .i64 0, .bool false, .string ⟨#[]⟩] := hb1.set_ 2 (.int .i64 0)
        have hb3 : Box _ (w.heap.size) 69 #[.int .i64 0, .int .i64 0, .int .i64 0, .int .i64 0, .int .i64 0, .int .i64 0, .int .i64 0, .string ⟨#[]⟩, .string ⟨#[]⟩, .slice none 0 0, .slice none 0 0, .int .i64 0, .bool false, .string ⟨#[]⟩] := hb2.set_ 3 (.int .i64 0)
        have hb4 : Box _ (w.heap.size) 69 #[.int .i64 0, .int .i64 0, .int .i64 0, .int .i64 0, .int .i64 0, .int .i64 0, .int .i64 0, .string ⟨#[]⟩, .string ⟨#[]⟩, .slice none 0 0, .slice none 0 0, .int .i64 0, .bool false, .string ⟨#[]⟩] := hb3.set_ 4 (.int .i64 0)
        have hb5 : Box _ (w.heap.size) 69 #[.int .i64 0, .int .i64 0, .int .i64 0, .int .i64 0, .int .i64 0, .int .i64 0, .int .i64 0, .string ⟨#[]⟩, .string ⟨#[]⟩, .slice none 0 0, .slice none 0 0, .int .i64 0, .bool false, .string ⟨#[]⟩] := hb4.set_ 5 (.int .i64 0)
        have hb6 : Box _ (w.heap.size) 69 #[.int .i64 0, .int .i64 0, .int .i64 0, .int .i64 0, .int .i64 0, .int .i64 0, .int .i64 0, .string ⟨#[]⟩, .string ⟨#[]⟩, .slice none 0 0, .slice none 0 0, .int .i64 0, .bool false, .string ⟨#[]⟩] := hb5.set_ 6 (.int .i64 0)
        have hb7 : Box _ (w.heap.size) 69 #[.int .i64 0, .int .i64 0, .int .i64 0, .int .i64 0, .int .i64 0, .int .i64 0, .int .i64 0, .string ⟨#[]⟩, .string ⟨#[]⟩, .slice none 0 0, .slice none 0 0, .int .i64 0, .bool false, .string ⟨#[]⟩] := hb6.set_ 7 (.string ⟨#[]⟩)
        have hb8 : Box _ (w.heap.size) 69 #[.int .i64 0, .int .i64 0, .int .i64 0, .int .i64 0, .int .i64 0, .int .i64 0, .int .i64 0, .string ⟨#[]⟩, .string ⟨#[]⟩, .slice none 0 0, .slice none 0 0, .int .i64 0, .bool false, .string ⟨#[]⟩] := hb7.set_ 8 (.string ⟨#[]⟩)
        have hb9 : Box _ (w.heap.size) 69 #[.int .i64 0, .int .i64 0, .int .i64 0, .int .i64 0, .int .i64 0, .int .i64 0, .int .i64 0, .string ⟨#[]⟩, .string ⟨#[]⟩, .slice none 0 0, .slice none 0 0, .int .i64 0, .bool false, .string ⟨#[]⟩] := hb8.set_ 9 (.slice none 0 0)
        have hb10 : Box _ (w.heap.size) 69 #[.int .i64 0, .int .i64 0, .int .i64 0, .int .i64 0, .int .i64 0, .int .i64 0, .int .i64 0, .string ⟨#[]⟩, .string ⟨#[]⟩, .slice none 0 0, .slice none 0 0, .int .i64 0, .bool false, .string ⟨#[]⟩] := hb9.set_ 10 (.slice none 0 0)
        have hb11 : Box _ (w.heap.size) 69 #[.int .i64 0, .int .i64 0, .int .i64 0, .int .i64 0, .int .i64 0, .int .i64 0, .int .i64 0, .string ⟨#[]⟩, .string ⟨#[]⟩, .slice none 0 0, .slice none 0 0, .int .i64 0, .bool false, .string ⟨#[]⟩] := hb10.set_ 11 (.int .i64 0)
        have hb12 : Box _ (w.heap.size) 69 #[.int .i64 0, .int .i64 0, .int .i64 0, .int .i64 0, .int .i64 0, .int .i64 0, .int .i64 0, .string ⟨#[]⟩, .string ⟨#[]⟩, .slice none 0 0, .slice none 0 0, .int .i64 0, .bool false, .string ⟨#[]⟩] := hb11.set_ 12 (.bool false)
        have hS : Box _ (w.heap.size) 69 #[.int .i64 0, .int .i64 0, .int .i64 0, .int .i64 0, .int .i64 0, .int .i64 0, .int .i64 0, .string ⟨#[]⟩, .string ⟨#[]⟩, .slice none 0 0, .slice none 0 0, .int .i64 0, .bool false, .string ⟨#[]⟩] := hb12.set_ 13 (.string ⟨#[]⟩)
        have HBE : Hid (Below w.heap.size w ((((((((((((((w5.setCell ⟨w.heap.size, 0, none⟩ (.int .i64 0)).setCell ⟨w.heap.size, 1, none⟩ (.int .i64 0)).setCell ⟨w.heap.size, 2, none⟩ (.int .i64 0)).setCell ⟨w.heap.size, 3, none⟩ (.int .i64 0)).setCell ⟨w.heap.size, 4, none⟩ (.int .i64 0)).setCell ⟨w.heap.size, 5, none⟩ (.int .i64 0)).setCell ⟨w.heap.size, 6, none⟩ (.int .i64 0)).setCell ⟨w.heap.size, 7, none⟩ (.string ⟨#[]⟩)).setCell ⟨w.heap.size, 8, none⟩ (.string ⟨#[]⟩)).setCell ⟨w.heap.size, 9, none⟩ (.slice none 0 0)).setCell ⟨w.heap.size, 10, none⟩ (.slice none 0 0)).setCell ⟨w.heap.size, 11, none⟩ (.int .i64 0)).setCell ⟨w.heap.size, 12, none⟩ (.bool false)).setCell ⟨w.heap.size, 13, none⟩ (.string ⟨#[]⟩))) := Lib.hid ((((((((((((((HB5.out.setCell (p := ⟨w.heap.size, 0, none⟩) (Nat.le_refl _) (.int .i64 0)).setCell (p := ⟨w.heap.size, 1, none⟩) (Nat.le_refl _) (.int .i64 0)).setCell (p := ⟨w.heap.size, 2, none⟩) (Nat.le_refl _) (.int .i64 0)).setCell (p := ⟨w.heap.size, 3, none⟩) (Nat.le_refl _) (.int .i64 0)).setCell (p := ⟨w.heap.size, 4, none⟩) (Nat.le_refl _) (.int .i64 0)).setCell (p := ⟨w.heap.size, 5, none⟩) (Nat.le_refl _) (.int .i64 0)).setCell (p := ⟨w.heap.size, 6, none⟩) (Nat.le_refl _) (.int .i64 0)).setCell (p := ⟨w.heap.size, 7, none⟩) (Nat.le_refl _) (.string ⟨#[]⟩)).setCell (p := ⟨w.heap.size, 8, none⟩) (Nat.le_refl _) (.string ⟨#[]⟩)).setCell (p := ⟨w.heap.size, 9, none⟩) (Nat.le_refl _) (.slice none 0 0)).setCell (p := ⟨w.heap.size, 10, none⟩) (Nat.le_refl _) (.slice none 0 0)).setCell (p := ⟨w.heap.size, 11, none⟩) (Nat.le_refl _) (.int .i64 0)).setCell (p := ⟨w.heap.size, 12, none⟩) (Nat.le_refl _) (.bool false)).setCell (p := ⟨w.heap.size, 13, none⟩) (Nat.le_refl _) (.string ⟨#[]⟩))
        have k4 : ((((((((((((((w5.setCell ⟨w.heap.size, 0, none⟩ (.int .i64 0)).setCell ⟨w.heap.size, 1, none⟩ (.int .i64 0)).setCell ⟨w.heap.size, 2, none⟩ (.int .i64 0)).setCell ⟨w.heap.size, 3, none⟩ (.int .i64 0)).setCell ⟨w.heap.size, 4, none⟩ (.int .i64 0)).setCell ⟨w.heap.size, 5, none⟩ (.int .i64 0)).setCell ⟨w.heap.size, 6, none⟩ (.int .i64 0)).setCell ⟨w.heap.size, 7, none⟩ (.string ⟨#[]⟩)).setCell ⟨w.heap.size, 8, none⟩ (.string ⟨#[]⟩)).setCell ⟨w.heap.size, 9, none⟩ (.slice none 0 0)).setCell ⟨w.heap.size, 10, none⟩ (.slice none 0 0)).setCell ⟨w.heap.size, 11, none⟩ (.int .i64 0)).setCell ⟨w.heap.size, 12, none⟩ (.bool false)).setCell ⟨w.heap.size, 13, none⟩ (.string ⟨#[]⟩)).cell? ⟨r, 2, none⟩ = some (.int .i64 (e' : Int)) := ((((((((((((((hRd.far (p := ⟨w.heap.size, 0, none⟩) (by show r ≠ w.heap.size; omega) (.int .i64 0)).far (p := ⟨w.heap.size, 1, none⟩) (by show r ≠ w.heap.size; omega) (.int .i64 0)).far (p := ⟨w.heap.size, 2, none⟩) (by show r ≠ w.heap.size; omega) (.int .i64 0)).far (p := ⟨w.heap.size, 3, none⟩) (by show r ≠ w.heap.size; omega) (.int .i64 0)).far (p := ⟨w.heap.size, 4, none⟩) (by show r ≠ w.heap.size; omega) (.int .i64 0)).far (p := ⟨w.heap.size, 5, none⟩) (by show r ≠ w.heap.size; omega) (.int .i64 0)).far (p := ⟨w.heap.size, 6, none⟩) (by show r ≠ w.heap.size; omega) (.int .i64 0)).far (p := ⟨w.heap.size, 7, none⟩) (by show r ≠ w.heap.size; omega) (.string ⟨#[]⟩)).far (p := ⟨w.heap.size, 8, none⟩) (by show r ≠ w.heap.size; omega) (.string ⟨#[]⟩)).far (p := ⟨w.heap.size, 9, none⟩) (by show r ≠ w.heap.size; omega) (.slice none 0 0)).far (p := ⟨w.heap.size, 10, none⟩) (by show r ≠ w.heap.size; omega) (.slice none 0 0)).far (p := ⟨w.heap.size, 11, none⟩) (by show r ≠ w.heap.size; omega) (.int .i64 0)).far (p := ⟨w.heap.size, 12, none⟩) (by show r ≠ w.heap.size; omega) (.bool false)).far (p := ⟨w.heap.size, 13, none⟩) (by show r ≠ w.heap.size; omega) (.string ⟨#[]⟩)).cell 2
        obtain ⟨WZ, hWZ⟩ : ∃ WZ, ((((((((((((((w5.setCell ⟨w.heap.size, 0, none⟩ (.int .i64 0)).setCell ⟨w.heap.size, 1, none⟩ (.int .i64 0)).setCell ⟨w.heap.size, 2, none⟩ (.int .i64 0)).setCell ⟨w.heap.size, 3, none⟩ (.int .i64 0)).setCell ⟨w.heap.size, 4, none⟩ (.int .i64 0)).setCell ⟨w.heap.size, 5, none⟩ (.int .i64 0)).setCell ⟨w.heap.size, 6, none⟩ (.int .i64 0)).setCell ⟨w.heap.size, 7, none⟩ (.string ⟨#[]⟩)).setCell ⟨w.heap.size, 8, none⟩ (.string ⟨#[]⟩)).setCell ⟨w.heap.size, 9, none⟩ (.slice none 0 0)).setCell ⟨w.heap.size, 10, none⟩ (.slice none 0 0)).setCell ⟨w.heap.size, 11, none⟩ (.int .i64 0)).setCell ⟨w.heap.size, 12, none⟩ (.bool false)).setCell ⟨w.heap.size, 13, none⟩ (.string ⟨#[]⟩)) = WZ := ⟨_, rfl⟩
        rw [hWZ] at hS HBE k4
        have p0 : WZ.cell? ⟨w.heap.size, 0, none⟩ = some (.int .i64 0) := hS.cell 0
        have p1 : WZ.cell? ⟨w.heap.size, 1, none⟩ = some (.int .i64 0) := hS.cell 1
        have p2 : WZ.cell? ⟨w.heap.size, 2, none⟩ = some (.int .i64 0) := hS.cell 2
        have p3 : WZ.cell? ⟨w.heap.size, 3, none⟩ = some (.int .i64 0) := hS.cell 3
        have p4 : WZ.cell? ⟨w.heap.size, 4, none⟩ = some (.int .i64 0) := hS.cell 4
        have p5 : WZ.cell? ⟨w.heap.size, 5, none⟩ = some (.int .i64 0) := hS.cell 5
        have p6 : WZ.cell? ⟨w.heap.size, 6, none⟩ = some (.int .i64 0) := hS.cell 6
        have p7 : WZ.cell? ⟨w.heap.size, 7, none⟩ = some (.string ⟨#[]⟩) := hS.cell 7
        have p8 : WZ.cell? ⟨w.heap.size, 8, none⟩ = some (.string ⟨#[]⟩) := hS.cell 8
        have p9 : WZ.cell? ⟨w.heap.size, 9, none⟩ = some (.slice none 0 0) := hS.cell 9
        have p10 : WZ.cell? ⟨w.heap.size, 10, none⟩ = some (.slice none 0 0) := hS.cell 10
        have p11 : WZ.cell? ⟨w.heap.size, 11, none⟩ = some (.int .i64 0) := hS.cell 11
        have p12 : WZ.cell? ⟨w.heap.size, 12, none⟩ = some (.bool false) := hS.cell 12
        have p13 : WZ.cell? ⟨w.heap.size, 13, none⟩ = some (.string ⟨#[]⟩) := hS.cell 13
        clear hS hZ hb0 hb1 hb2 hb3 hb4 hb5 hb6 hb7 hb8 hb9 hb10 hb11 hb12
        go_wp2
        go_region
        all_goals
          go_wp2
          refine bodyPost_ret (v := .tuple #[.agg #[.int .i64 0, .int .i64 0, .int .i64 0, .int .i64 0, .int .i64 0, .int .i64 0, .int .i64 0, .string ⟨#[]⟩, .string ⟨#[]⟩, .slice none 0 0, .slice none 0 0, .int .i64 0, .bool false, .string ⟨#[]⟩], .int .i64 (e' : Int)]) ?_ rfl (by rw [HU.out]; exact ⟨none, 0, 0, none, 0, 0, rfl, OwnLps.nil _ _, OwnLis.nil _ _, HBE.out.drew⟩)
          simp [results, Try.results57, go_sem, p0, p1, p2, p3, p4, p5, p6, p7, p8, p9, p10, p11, p12, p13]
end Go.Proofs.Ytaljojjpgkmiiaa

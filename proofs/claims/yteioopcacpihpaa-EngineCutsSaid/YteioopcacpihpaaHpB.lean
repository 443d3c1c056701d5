/- Less and Swap of the heap of runs. Condition: the heap is in memory. -/
import Derived.Test.YteioopcacpihpaaHpA
namespace Go.Proofs.Yteioopcacpihpaa
open Go.RowKit
open Go.Lib (strCells compareBytes)

theorem cmpK_lt {a b : Rst} {x y : Chg} (hx : a.hk = x.kb) (hy : b.hk = y.kb) (h : cmpK x y ≠ 0) : decide (cmpK x y < 0) = decide (ltR a b) := by
  have hne : ¬ a.hk = b.hk := fun e => h (by unfold cmpK; rw [← hx, ← hy, e]; exact cmpB_self _)
  have e1 : decide (ltR a b) = decide (a.hk < b.hk) := by
    unfold ltR
    simp [hne]
  rw [e1, hx, hy, ← bytesLess_lt, bytesLess_cmp]
  rcases cmpB_cases x.kb y.kb with h' | h' | h' <;> simp [cmpK, h']
theorem cmpK_eq {a b : Rst} {x y : Chg} (hx : a.hk = x.kb) (hy : b.hk = y.kb) (h : cmpK x y = 0) : decide (ltR a b) = decide (a.r < b.r) := by
  have e : a.hk = b.hk := by rw [hx, hy]; exact cmpB_zero h
  unfold ltR
  simp [e]

set_option maxRecDepth 100000 in
set_option maxHeartbeats 1600000 in
theorem less_any {w : World} {C hb : Nat} {v : Value} {L : List Rst} (h : HpSt w C hb v L) {i j : Nat} (hi : i < L.length) (hj : j < L.length) :
    Calls Try.prog 131 #[v, .int .i64 (i : Int), .int .i64 (j : Int)] w fun e w' => e = .returned (.bool (decide (ltR (gl L i) (gl L j)))) ∧ Below w.heap.size w w' := by
  obtain ⟨A, c, rfl, hlc, hcm, hrow⟩ := h.slice
  obtain ⟨a, rfl, hab, p0, p1⟩ := rst_at hrow hi
  obtain ⟨a', e', -, q0, q1⟩ := rst_at hrow hj
  injection e' with e'
  subst e'
  obtain ⟨ax, nx, cx, x, ex, hnx, hxb, hxk, x0, x1, x2⟩ := h.head hi
  obtain ⟨ay, ny, cy, y, ey, hny, hyb, hyk, y0, y1, y2⟩ := h.head hj
  rw [ex] at p0
  rw [ey] at q0
  have hC := h.size
  have E1 := Lib.hid (cmpK_lt hxk hyk)
  have E2 := Lib.hid (cmpK_eq hxk hyk)
  obtain ⟨D, hD⟩ : ∃ D, decide (ltR (gl L i) (gl L j)) = D := ⟨_, rfl⟩
  rw [hD] at E1 E2 ⊢
  obtain ⟨ri, hri⟩ : ∃ r, (gl L i).r = r := ⟨_, rfl⟩
  obtain ⟨rj, hrj⟩ : ∃ r, (gl L j).r = r := ⟨_, rfl⟩
  rw [hri] at p1 E2
  rw [hrj] at q1 E2
  obtain ⟨N, hN⟩ : ∃ N, L.length = N := ⟨_, rfl⟩
  rw [hN] at hi hj hlc ⊢
  have hi0 : (0 : Int) ≤ (i : Int) := by omega
  have hi1 : (i : Int) < (N : Int) := by omega
  have hj0 : (0 : Int) ≤ (j : Int) := by omega
  have hj1 : (j : Int) < (N : Int) := by omega
  have Hcall := Lib.hid (fun wx => byKey_any x y wx)
  obtain ⟨k, hk⟩ : ∃ k, cmpK x y = k := ⟨_, rfl⟩
  rw [hk] at E1 E2 Hcall
  have Hk : Hid (∀ wx, Below w.heap.size w wx → (wx.cell? (a.add (i * 2)) = some (.slice (some ax) nx cx) ∧ wx.cell? ⟨(a.add (i * 2)).block, (a.add (i * 2)).off + 1, none⟩ = some (.int .i64 (ri : Int)) ∧
      wx.cell? (a.add (j * 2)) = some (.slice (some ay) ny cy) ∧ wx.cell? ⟨(a.add (j * 2)).block, (a.add (j * 2)).off + 1, none⟩ = some (.int .i64 (rj : Int)) ∧
      wx.cell? ax = some (.string x.k) ∧ wx.cell? ⟨ax.block, ax.off + 1, none⟩ = some (.string x.v) ∧ wx.cell? ⟨ax.block, ax.off + 2, none⟩ = some (.bool x.g) ∧
      wx.cell? ay = some (.string y.k) ∧ wx.cell? ⟨ay.block, ay.off + 1, none⟩ = some (.string y.v) ∧ wx.cell? ⟨ay.block, ay.off + 2, none⟩ = some (.bool y.g)) ∧ Below w.heap.size w wx) := Lib.hid fun wx hb => by
    have k : ∀ {p : Addr} {u : Value}, p.block < w.heap.size → w.cell? p = some u → wx.cell? p = some u := fun hp hu => (hb.cell hp).trans hu
    have hai : (a.add (i * 2)).block < w.heap.size := by rw [addr_block]; exact hab
    have haj : (a.add (j * 2)).block < w.heap.size := by rw [addr_block]; exact hab
    have hxb' : ax.block < w.heap.size := Nat.lt_of_lt_of_le hxb hC
    have hyb' : ay.block < w.heap.size := Nat.lt_of_lt_of_le hyb hC
    exact ⟨⟨k hai p0, k hai p1, k haj q0, k haj q1, k hxb' x0, k hxb' x1, k hxb' x2, k hyb' y0, k hyb' y1, k hyb' y2⟩, hb⟩
  clear h hrow p0 p1 q0 q1 x0 x1 x2 y0 y1 y2 ex ey hxk hyk hD hri hrj hN hk hi hj hxb hyb hab hC hlc hcm
  by_cases hk0 : k = 0
  · subst hk0
    have E : Hid (D = decide (ri < rj)) := Lib.hid (E2.out rfl)
    go_enter Try.func131, Try.ntmps131
    go_wp2
    go_region_held3 (fun wx => (wx.cell? (a.add (i * 2)) = some (.slice (some ax) nx cx) ∧ wx.cell? ⟨(a.add (i * 2)).block, (a.add (i * 2)).off + 1, none⟩ = some (.int .i64 (ri : Int)) ∧
      wx.cell? (a.add (j * 2)) = some (.slice (some ay) ny cy) ∧ wx.cell? ⟨(a.add (j * 2)).block, (a.add (j * 2)).off + 1, none⟩ = some (.int .i64 (rj : Int)) ∧
      wx.cell? ax = some (.string x.k) ∧ wx.cell? ⟨ax.block, ax.off + 1, none⟩ = some (.string x.v) ∧ wx.cell? ⟨ax.block, ax.off + 2, none⟩ = some (.bool x.g) ∧
      wx.cell? ay = some (.string y.k) ∧ wx.cell? ⟨ay.block, ay.off + 1, none⟩ = some (.string y.v) ∧ wx.cell? ⟨ay.block, ay.off + 2, none⟩ = some (.bool y.g)) ∧ Below w.heap.size w wx)
      (first | exact Hk.out _ (Below.refl _ _).drew | exact Hk.out _ (below_thn (And.right (by assumption)) hb2))
      (first | (go_at_call 47; refine (Hcall.out _).mono ?_; rintro e w2 ⟨rfl, hb2⟩))
    all_goals
      obtain ⟨⟨-, t0, -, t1, -⟩, hbz⟩ := ‹(_ ∧ _) ∧ Below w.heap.size w w2›
      have Hbz := Lib.hid hbz
      clear hb2 hbz
      go_wp2
      go_quiet (fail)
      go_wp2
      go_ret
      exact ⟨ret_bool (by rw [E.out]), below_dr Hbz.out _⟩
  · have hkb : (k == 0) = false := by simpa using hk0
    have E : Hid (D = decide (k < 0)) := Lib.hid (E1.out hk0).symm
    clear hk0
    go_enter Try.func131, Try.ntmps131
    go_wp2
    go_region_held3 (fun wx => (wx.cell? (a.add (i * 2)) = some (.slice (some ax) nx cx) ∧ wx.cell? ⟨(a.add (i * 2)).block, (a.add (i * 2)).off + 1, none⟩ = some (.int .i64 (ri : Int)) ∧
      wx.cell? (a.add (j * 2)) = some (.slice (some ay) ny cy) ∧ wx.cell? ⟨(a.add (j * 2)).block, (a.add (j * 2)).off + 1, none⟩ = some (.int .i64 (rj : Int)) ∧
      wx.cell? ax = some (.string x.k) ∧ wx.cell? ⟨ax.block, ax.off + 1, none⟩ = some (.string x.v) ∧ wx.cell? ⟨ax.block, ax.off + 2, none⟩ = some (.bool x.g) ∧
      wx.cell? ay = some (.string y.k) ∧ wx.cell? ⟨ay.block, ay.off + 1, none⟩ = some (.string y.v) ∧ wx.cell? ⟨ay.block, ay.off + 2, none⟩ = some (.bool y.g)) ∧ Below w.heap.size w wx)
      (first | exact Hk.out _ (Below.refl _ _).drew | exact Hk.out _ (below_thn (And.right (by assumption)) hb2))
      (first | (go_at_call 47; refine (Hcall.out _).mono ?_; rintro e w2 ⟨rfl, hb2⟩))
    all_goals
      have hbz := And.right ‹(_ ∧ _) ∧ Below w.heap.size w w2›
      have Hbz := Lib.hid hbz
      clear hb2 hbz
      go_wp2
      go_ret
      exact ⟨ret_bool (by rw [E.out]), Hbz.out⟩

/-- element k of the heap's row: its cells, and the row and the rest of the world when it is stored to -/
theorem rst_put {w : World} {C n c k : Nat} {g : Nat} {ys : List Value} (h : w.ownsRow C 116 2 (.slice (some ⟨g, 0, none⟩) n c) n ys) (x y : Value) :
    w.frozen? ⟨g, k * 2, none⟩ = false ∧ w.frozen? ⟨g, k * 2 + 1, none⟩ = false ∧ ((w.setCell ⟨g, k * 2, none⟩ x).setCell ⟨g, k * 2 + 1, none⟩ y).ownsRow C 116 2 (.slice (some ⟨g, 0, none⟩) n c) n ((ys.set (k * 2) x).set (k * 2 + 1) y) ∧
    w.grownBy ((w.setCell ⟨g, k * 2, none⟩ x).setCell ⟨g, k * 2 + 1, none⟩ y) (some g) := by
  have s1 := h.stored (k * 2) x
  have s2 := s1.1.stored (k * 2 + 1) y
  exact ⟨h.frozenAt _, h.frozenAt _, s2.1, s1.2.trans s2.2⟩
theorem rst_cells {w : World} {C n c k : Nat} {g : Nat} {L : List Rst} (h : w.ownsRow C 116 2 (.slice (some ⟨g, 0, none⟩) n c) n (rstCells L)) (hk : k < L.length) :
    w.cell? ⟨g, k * 2, none⟩ = some (gl L k).v ∧ w.cell? ⟨g, k * 2 + 1, none⟩ = some (.int .i64 ((gl L k).r : Int)) := by
  have hy := h.1
  have hl := rstCells_len L
  obtain ⟨c0, c1⟩ := rstCells_at L k _ (gl_get hk)
  rw [h.cellAt _ (by omega), h.cellAt _ (by omega)]
  exact ⟨c0, c1⟩
theorem own_typeR {w : World} {B m size : Nat} {e : TypeId} {v : Value} {xs : List Value} (h : w.ownsRow B e size v m xs) {g : Nat} (hg : v.ownBlock = some g) : ∃ cur : Array Value, w.heap[g]? = some (Obj.cells cur e (0, 0)) := by
  rcases h.2 with ⟨rfl, _⟩ | ⟨g', cap, cur, rfl, hB, hh, rest⟩
  · cases hg
  · cases hg; exact ⟨cur, hh⟩
section
variable {w w' : World} {C hb : Nat} {v v' : Value} {L L' : List Rst}
theorem HpSt.keep (h : HpSt w C hb v L) (hg : w.grownBy w' v.ownBlock) : HKeep C w w' := by
  refine ⟨(Below.refl C w).grown hg h.size fun k e => (h.own.lt k e).1, fun i cs t m e h1 h2 => hg.block i (Array.getElem?_eq_some_iff.1 e).1 fun e' => ?_⟩
  obtain ⟨cur, hc⟩ := own_typeR h.own e'.symm
  rw [e] at hc
  injection hc with hc
  injection hc with _ hc _
  exact h2 hc
theorem HpSt.boxKeep (h : HpSt w C hb v L) (hg : w.grownBy w' v.ownBlock) : Box w' hb 113 #[v] := h.box.grown hg fun e => by
  obtain ⟨cur, hc⟩ := own_typeR h.own e.symm
  have hbx := h.box
  unfold Box at hbx
  rw [hbx] at hc
  injection hc with hc
  injection hc with _ hc _
  exact absurd hc (by decide)
/-- the heap with its rests in another order -/
theorem HpSt.turned (h : HpSt w C hb v L) (hg : w.grownBy w' v.ownBlock) (ho : w'.ownsRow C 116 2 v L'.length (rstCells L')) (hm : ∀ x ∈ L', x ∈ L) : HpSt w' C hb v L' ∧ HKeep C w w' :=
  ⟨⟨h.hC, h.boxKeep hg, ho, fun x hx => by
    obtain ⟨A, n, c, e, h1, h2, h3, h4⟩ := h.has x (hm x hx)
    exact ⟨A, n, c, e, h1, h2, h3.belowOf (h.keep hg).below (Nat.le_refl _), h4⟩⟩, h.keep hg⟩
end
set_option maxRecDepth 100000 in
set_option maxHeartbeats 1600000 in
theorem swap_any {w : World} {C hb : Nat} {v : Value} {L : List Rst} (h : HpSt w C hb v L) {i j : Nat} (hi : i < L.length) (hj : j < L.length) :
    Calls Try.prog 134 #[v, .int .i64 (i : Int), .int .i64 (j : Int)] w fun e w' => e = .returned (.tuple #[]) ∧ HpSt w' C hb v (sw L i j) ∧ HKeep C w w' := by
  have H := Lib.hid h
  obtain ⟨A, c, rfl, hlc, hcm, -⟩ := h.slice
  obtain ⟨g, rfl, hCg⟩ := own_head h.own (by omega)
  obtain ⟨p0, p1⟩ := rst_cells h.own hi
  obtain ⟨q0, q1⟩ := rst_cells h.own hj
  obtain ⟨f0, f1, -, -⟩ := rst_put (k := i) h.own .nilIface .nilIface
  obtain ⟨Ai, ni, ci, ei, -⟩ := h.has _ (gl_mem hi)
  obtain ⟨Aj, nj, cj, ej, -⟩ := h.has _ (gl_mem hj)
  have Ei := Lib.hid ei
  have Ej := Lib.hid ej
  rw [ei] at p0
  rw [ej] at q0
  obtain ⟨ri, hri⟩ : ∃ r, (gl L i).r = r := ⟨_, rfl⟩
  obtain ⟨rj, hrj⟩ : ∃ r, (gl L j).r = r := ⟨_, rfl⟩
  have Hri := Lib.hid hri
  have Hrj := Lib.hid hrj
  rw [hri] at p1
  rw [hrj] at q1
  have Hi := Lib.hid hi
  have Hj := Lib.hid hj
  obtain ⟨N, hN⟩ : ∃ N, L.length = N := ⟨_, rfl⟩
  rw [hN] at h hi hj hlc ⊢
  have hi0 : (0 : Int) ≤ (i : Int) := by omega
  have hi1 : (i : Int) < (N : Int) := by omega
  have hj0 : (0 : Int) ≤ (j : Int) := by omega
  have hj1 : (j : Int) < (N : Int) := by omega
  have hlen := rstCells_len L
  have hown := h.own
  rw [hN] at hown
  have s2 := (rst_put (k := i) hown (.slice Aj nj cj) (.int .i64 (rj : Int))).2.2
  have s3 := s2.1.stored (j * 2) (.slice Ai ni ci)
  have s4 := s3.1.stored (j * 2 + 1) (.int .i64 (ri : Int))
  obtain ⟨e0, he0⟩ : ∃ u, ((w.setCell ⟨g, i * 2, none⟩ (.slice Aj nj cj)).setCell ⟨g, i * 2 + 1, none⟩ (.int .i64 (rj : Int))).cell? ⟨g, j * 2, none⟩ = some u :=
    ⟨_, (s2.1.cellAt (j * 2) (by omega)).trans (List.getElem?_eq_getElem (by simp only [List.length_set]; omega))⟩
  obtain ⟨e1, he1⟩ : ∃ u, (((w.setCell ⟨g, i * 2, none⟩ (.slice Aj nj cj)).setCell ⟨g, i * 2 + 1, none⟩ (.int .i64 (rj : Int))).setCell ⟨g, j * 2, none⟩ (.slice Ai ni ci)).cell? ⟨g, j * 2 + 1, none⟩ = some u :=
    ⟨_, (s3.1.cellAt (j * 2 + 1) (by omega)).trans (List.getElem?_eq_getElem (by simp only [List.length_set]; omega))⟩
  have d0 := s2.1.frozenAt (j * 2)
  have d1 := s3.1.frozenAt (j * 2 + 1)
  have Hend : Hid (HpSt ((((((w.setCell ⟨g, i * 2, none⟩ (.slice Aj nj cj)).setCell ⟨g, i * 2 + 1, none⟩ (.int .i64 (rj : Int))).setCell ⟨g, j * 2, none⟩ (.slice Ai ni ci)).setCell ⟨g, j * 2 + 1, none⟩ (.int .i64 (ri : Int)))).drew) C hb (.slice (some ⟨g, 0, none⟩) N c) (sw L i j) ∧
      HKeep C w ((((((w.setCell ⟨g, i * 2, none⟩ (.slice Aj nj cj)).setCell ⟨g, i * 2 + 1, none⟩ (.int .i64 (rj : Int))).setCell ⟨g, j * 2, none⟩ (.slice Ai ni ci)).setCell ⟨g, j * 2 + 1, none⟩ (.int .i64 (ri : Int)))).drew)) := Lib.hid (by
    have hg := (s2.2.trans s3.2).trans s4.2
    have ho : (((((w.setCell ⟨g, i * 2, none⟩ (.slice Aj nj cj)).setCell ⟨g, i * 2 + 1, none⟩ (.int .i64 (rj : Int))).setCell ⟨g, j * 2, none⟩ (.slice Ai ni ci)).setCell ⟨g, j * 2 + 1, none⟩ (.int .i64 (ri : Int)))).ownsRow C 116 2 (.slice (some ⟨g, 0, none⟩) N c) (sw L i j).length (rstCells (sw L i j)) := by
      rw [sw_len, hN]
      unfold sw
      rw [rstCells_set, rstCells_set, ei, ej, hri, hrj]
      exact s4.1
    obtain ⟨z1, z2⟩ := h.turned hg (by exact ho) fun x hx => (sw_perm Hi.out Hj.out).mem_iff.1 hx
    exact ⟨z1.below ((Below.refl _ _).drew), z2.trans (HKeep.of ((Below.refl _ _).drew) z1.size)⟩)
  clear h ei ej hri hrj hN hcm s2 s3 s4 hlen hown
  go_enter Try.func134, Try.ntmps134
  go_wp2
  go_region
  go_end0
  exact ⟨rfl, Hend.out⟩
end Go.Proofs.Yteioopcacpihpaa

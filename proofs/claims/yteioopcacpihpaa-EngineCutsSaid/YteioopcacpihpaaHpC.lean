/- Push and Pop of the heap of runs. Condition: the heap is in memory, a thousand rests at most. -/
import Derived.Test.YteioopcacpihpaaHpB
import Derived.Deep.RegionLaw
namespace Go.Proofs.Yteioopcacpihpaa
open Go.RowKit
open Go.Lib (strCells compareBytes)

/-- x.(T) of a value of type T, T a struct -/
theorem run_assert_struct {P : Program} {s t : TypeId} {fs : Array Field} (ht : P.underlying t = some (.struct fs)) (v : Value) (w : World) : (Instr.typeAssert (.iface t v) s t false).run P w = .ok v w := by
  unfold Instr.typeAssert
  simp [run_underlying ht]
/-- a rest whose changes lie below block C -/
def RstOk (w : World) (C : Nat) (x : Rst) : Prop := ∃ A n c, x.v = .slice A n c ∧ n ≤ c ∧ c ≤ maxLen ∧ HasChs w C A n x.cs ∧ x.cs ≠ []
theorem RstOk.below {w w' : World} {C D : Nat} {x : Rst} (h : RstOk w C x) (hb : Below D w w') (hD : C ≤ D) : RstOk w' C x := by
  obtain ⟨A, n, c, e, h1, h2, h3, h4⟩ := h
  exact ⟨A, n, c, e, h1, h2, h3.belowOf hb hD, h4⟩
theorem rst_lit (w : World) (x : Rst) : Has (w.alloc (.cells #[x.v, .int .i64 (x.r : Int)] 116)) (w.heap.size + 1) (some ⟨w.heap.size, 0, none⟩) (1 * 2) (rstCells [x]) :=
  Has.lit w #[x.v, .int .i64 (x.r : Int)] 116
section
variable {w w' : World} {C hb : Nat} {v v' : Value} {L : List Rst}
/-- the heap with another row in its box -/
theorem HpSt.newRow {L' : List Rst} {w0 : World} (h : HpSt w C hb v L) (hk : HKeep C w w0) (hb0 : Box w0 hb 113 #[v]) (ho : w0.ownsRow C 116 2 v' L'.length (rstCells L')) (hm : ∀ x ∈ L', RstOk w C x) :
    HpSt (w0.setCell ⟨hb, 0, none⟩ v') C hb v' L' ∧ HKeep C w (w0.setCell ⟨hb, 0, none⟩ v') := by
  have hk2 : HKeep C w0 (w0.setCell ⟨hb, 0, none⟩ v') := ⟨(Below.refl _ _).setCell h.hC _, fun i cs t m e h1 _ => Below.heap_setCell _ _ _ _ fun e' => by
    have hbx := hb0
    unfold Box at hbx
    have e2 : i = hb := e'
    rw [e2, hbx] at e
    injection e with e
    injection e with _ e _
    exact h1 e.symm⟩
  refine ⟨⟨h.hC, hb0.set_ 0 v', ⟨ho.1, ?_⟩, fun x hx => (hm x hx).below (hk.trans hk2).below (Nat.le_refl _)⟩, hk.trans hk2⟩
  rcases ho.2 with hn | ⟨g, cap, cur, hv, hB, hg, rest⟩
  · exact .inl hn
  · refine .inr ⟨g, cap, cur, hv, hB, (Below.heap_setCell _ _ _ _ fun e => ?_).trans hg, rest⟩
    have hbx := hb0
    unfold Box at hbx
    have e2 : g = hb := e
    rw [e2, hbx] at hg
    injection hg with hg
    injection hg with _ hg _
    exact absurd hg (by decide)
end

set_option maxRecDepth 100000 in
set_option maxHeartbeats 1600000 in
theorem push_any {w : World} {C hb : Nat} {v : Value} {L : List Rst} (h : HpSt w C hb v L) (x : Rst) (hx : RstOk w C x) (hL : L.length ≤ 100000) :
    Calls Try.prog 133 #[.pointer (some ⟨hb, 0, none⟩), .iface 116 (.agg #[x.v, .int .i64 (x.r : Int)])] w fun e w' => e = .returned (.tuple #[]) ∧ ∃ v', HpSt w' C hb v' (L ++ [x]) ∧ HKeep C w w' := by
  have H := Lib.hid h
  have HL := Lib.hid hL
  have Hx := Lib.hid hx
  obtain ⟨xv, xc, xr⟩ := x
  obtain ⟨Ax, nx, cx, hxv, -⟩ := hx
  simp only at hxv
  subst hxv
  obtain ⟨A, c, rfl, hlc, hcm, -⟩ := h.slice
  have c0 := h.cell
  have f0 := h.box.frozen 0
  obtain ⟨N, hN⟩ : ∃ N, L.length = N := ⟨_, rfl⟩
  rw [hN] at hlc c0
  have HN := Lib.hid hN
  have bL : Below w.heap.size w (w.alloc (.cells #[.slice Ax nx cx, .int .i64 (xr : Int)] 116)).drew := (below_box _).drew
  have BL := Lib.hid bL
  have Hir : Hid ((w.alloc (.cells #[.slice Ax nx cx, .int .i64 (xr : Int)] 116)).drew.ownsRow C 116 2 (.slice A N c) N (rstCells L)) := Lib.hid (by rw [← hN]; exact own_belowN h.own bL)
  have Hlit := Lib.hid (Has.below (w' := (w.alloc (.cells #[.slice Ax nx cx, .int .i64 (xr : Int)] 116)).drew) (rst_lit w ⟨.slice Ax nx cx, xc, xr⟩) (Below.refl _ _).drew)
  have HC : Hid (C ≤ (w.alloc (.cells #[.slice Ax nx cx, .int .i64 (xr : Int)] 116)).drew.heap.size) := Lib.hid (Nat.le_trans h.size bL.size)
  have c0a : (w.alloc (.cells #[.slice Ax nx cx, .int .i64 (xr : Int)] 116)).cell? ⟨hb, 0, none⟩ = some (.slice A N c) := ((below_box _).cell (p := ⟨hb, 0, none⟩) h.lt).trans c0
  have Hne : Hid (some hb ≠ (Value.slice A N c).ownBlock) := Lib.hid fun e => by
    have e2 : (Value.slice A L.length c).ownBlock = some hb := by rw [hN]; exact e.symm
    obtain ⟨cur, hc⟩ := own_typeR h.own e2
    have hbx := h.box
    unfold Box at hbx
    rw [hbx] at hc
    injection hc with hc
    injection hc with _ hc _
    exact absurd hc (by decide)
  have hta := fun v w => run_assert_struct (s := 20) Try.underlying116 v w
  clear hL hN hcm bL h
  go_enter Try.func133, Try.ntmps133
  go_wp2
  go_region_law (first | (refine step_append_hasN (by rfl) _ _ _ (by rfl) 116 rst_elem (by omega) Try.underlying113 (by rfl) Hir.out (by rfl) Hlit.out (fun u hu => by simp [rstCells] at hu; rcases hu with rfl | rfl <;> rfl) (by have := HL.out; have := HN.out; simp only [maxLen]; omega) (by have := HL.out; have := HN.out; omega) HC.out ?_; intro vA wA oA gA zA; obtain ⟨Ay, cy, rfl, -⟩ := own_sliceN oA; have bxA := ((H.out.below BL.out).box).grown gA (by first | exact Hne.out | (have := HN.out; subst this; exact Hne.out)); have c4A := bxA.cell 0; have f4A := bxA.frozen 0))
  all_goals
    go_end0
    have hN := HN.out
    subst hN
    have hd := H.out.below BL.out
    refine ⟨rfl, _, H.out.newRow ((HKeep.of BL.out H.out.size).trans (hd.keep gA)) bxA ?_ fun y hy => ?_⟩
    · rw [List.length_append, rstCells_app]
      exact oA
    · rcases List.mem_append.1 hy with hy | hy
      · exact H.out.has y hy
      · simp at hy
        subst hy
        exact Hx.out

theorem own_takeN {w : World} {B n m c g size : Nat} {e : TypeId} {xs : List Value} (h : w.ownsRow B e size (.slice (some ⟨g, 0, none⟩) n c) n xs) (hm : m ≤ n) : w.ownsRow B e size (.slice (some ⟨g, 0, none⟩) m c) m (xs.take (m * size)) := by
  rcases h.2 with ⟨hv, _⟩ | ⟨g', cap, cur, hv, hB, hg, h1, h2, h3, h4⟩
  · cases hv
  · injection hv with e1 e2 e3
    injection e1 with e1
    injection e1 with e1
    subst e1
    subst e3
    have hle : m * size ≤ n * size := Nat.mul_le_mul_right _ hm
    refine ⟨by rw [List.length_take, h.1]; omega, .inr ⟨_, _, cur, rfl, hB, hg, by omega, h2, h3, ?_⟩⟩
    rw [← h4, List.take_take, Nat.min_eq_left hle]
set_option maxRecDepth 100000 in
set_option maxHeartbeats 1600000 in
theorem pop_any {w : World} {C hb : Nat} {v : Value} {L : List Rst} {n : Nat} (h : HpSt w C hb v L) (hL : L.length = n + 1) :
    Calls Try.prog 132 #[.pointer (some ⟨hb, 0, none⟩)] w fun e w' => e = .returned (.iface 116 (.agg #[(gl L n).v, .int .i64 ((gl L n).r : Int)])) ∧ ∃ v', HpSt w' C hb v' (L.take n) ∧ HKeep C w w' := by
  have H := Lib.hid h
  have HL := Lib.hid hL
  obtain ⟨A, c, rfl, hlc, hcm, -⟩ := h.slice
  obtain ⟨g, rfl, hCg⟩ := own_head h.own (by omega)
  have c0 := h.cell
  have f0 := h.box.frozen 0
  have hlt := h.lt
  obtain ⟨p0, p1⟩ := rst_cells h.own (k := n) (by omega)
  have Hown := Lib.hid (own_takeN h.own (m := n) (by omega))
  obtain ⟨Ai, ni, ci, ei, -⟩ := h.has _ (gl_mem (l := L) (i := n) (by omega))
  rw [ei] at p0 ⊢
  obtain ⟨r, hr⟩ : ∃ r, (gl L n).r = r := ⟨_, rfl⟩
  rw [hr] at p1 ⊢
  rw [hL] at hlc c0
  have hwn : IntKind.i64.wrap (n : Int) = (n : Int) := IntWalk.i64_in _ (by unfold maxLen at hcm; omega)
  clear h hL ei hr
  go_enter Try.func132, Try.ntmps132
  go_wp2
  go_ret
  have hl : (L.take n).length = n := by rw [List.length_take, HL.out]; omega
  obtain ⟨h1, h2⟩ := H.out.newRow (v' := .slice (some ⟨g, 0, none⟩) n c) (L' := L.take n) (HKeep.refl C w) H.out.box (by rw [hl, ← rstCells_take]; exact Hown.out) fun y hy => H.out.has y (List.mem_of_mem_take hy)
  exact ⟨rfl, _, h1.below (below_box _), h2.trans (HKeep.of (below_box _) h1.size)⟩
end Go.Proofs.Yteioopcacpihpaa
